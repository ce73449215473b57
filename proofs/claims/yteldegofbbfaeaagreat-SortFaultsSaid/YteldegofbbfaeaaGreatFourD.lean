/- What the laws stand on. -/
import Derived.Test.YteldegofbbfaeaaGreatFourC
namespace Go.Proofs.YteldegofbbfaeaaGreat
set_option linter.unusedVariables false
set_option maxRecDepth 100000
set_option maxHeartbeats 8000000
open Go.ChangeShapes Go.WideShapes Go.ChangeAt Go.RowKit
open Go.Joins Go.Deep
open Go.ChangeShapes Go.WideShapes Go.ChangeAt Go.RowKit Go.Maps
open Go.ChangeMaps (setBlock heap_setBlock_same heap_setBlock_other)
theorem MF(k i g N cap:Nat)(w:World)(VO:0<k)(hk:k≤5)(hn:i*k+k≤N)(hc:N≤cap)(N8:cap≤1000000):Calls Tryz.prog 127 #[.agg #[.int .i64 k,.slice (some ⟨g,0,none⟩) N cap],.int .i64 i] w fun e w'=>e=.returned (.slice (some ⟨g,i*k,none⟩) k (cap-i*k))∧Below w.heap.size w w':=by
 have Aj:=(Below.refl w.heap.size w).alloc (Nat.le_refl _) (.cells #[.int .i64 k,.slice (some ⟨g,0,none⟩) N cap] 159)
 have HB:=Lib.hid Aj
 have hr:Row (w.alloc (.cells #[.int .i64 k,.slice (some ⟨g,0,none⟩) N cap] 159)) w.heap.size 159 [.int .i64 k,.slice (some ⟨g,0,none⟩) N cap]:=heap_alloc_new _ _
 have c0:(w.alloc (.cells #[.int .i64 k,.slice (some ⟨g,0,none⟩) N cap] 159)).cell? ⟨w.heap.size,0,none⟩=some (.int .i64 k):=hr.cell 0
 have c1:(w.alloc (.cells #[.int .i64 k,.slice (some ⟨g,0,none⟩) N cap] 159)).cell? ⟨w.heap.size,1,none⟩=some (.slice (some ⟨g,0,none⟩) N cap):=hr.cell 1
 have UB:i≤i*k:=Nat.le_mul_of_pos_right _ VO
 obtain⟨a,ha⟩:∃a,a=i*k:=⟨_,rfl⟩
 have hmul:(i:Int)*(k:Int)=(a:Int):=by rw[ha];exact(Int.natCast_mul i k).symm
 rw[←ha]at hn UB⊢
 obtain⟨u,hu⟩:∃u,u=a+k:=⟨_,rfl⟩
 obtain⟨i1,XK⟩:∃i1,i1=i+1:=⟨_,rfl⟩
 have K5:(i:Int)+1=(i1:Int):=by omega
 have qo:(i1:Int)*(k:Int)=(u:Int):=by rw[hu,XK,ha,←Int.natCast_mul,Nat.add_mul,Nat.one_mul]
 have p8:u-a=k:=by omega
 have hcut:=fun W=>Fq (P:=Tryz.prog) W 123 127 _ Tryz.underlying123 (info_parts LV).choose_spec.1 (info_parts LV).choose_spec.2.2.1 (some ⟨g,0,none⟩) N cap a u (by omega) (by omega) .i64 .i64 (a:Int) (u:Int) rfl rfl
 rw[p8,BN (by omega),Nat.zero_add,Nat.mul_one]at hcut
 have KS:a≤1000000:=by omega
 have N4:u≤1000000:=by omega
 have hi2:i≤1000000:=by omega
 have hi3:i1≤1000001:=by omega
 clear hr ha hu p8 Aj hn XK UB
 go_enter Tryz.func127,Tryz.ntmps127
 go_wp2
 go_ret
 exact⟨rfl,HB.out⟩
theorem VW{W:World}{g N cap k i:Nat}{ws:List Nat}{t:AB}(hg:Row W g 127 (ws.map vw))(hk:0<k∧k≤5)(hn:i*k+k≤N)(hc:N≤cap)(N8:cap≤1000000)(hw:N≤ws.length)(ht:(ws.drop (i*k)).take k=AY k t)(hto:CQ t)(hf:Ac k t=true):
  Calls Tryz.prog 163 #[.agg #[.int .i64 k,.slice (some ⟨g,0,none⟩) N cap],.int .i64 i] W fun e w'=>e=.returned (.agg #[.int .i64 t.a,.int .i64 t.b,.int .i64 t.c,.int .i64 t.d,.int .i64 t.e])∧Below W.heap.size W w':=by
 obtain⟨W3,e3,b3,s3,r1,r2,r3⟩:=UZ W [.int .i64 k,.slice (some ⟨g,0,none⟩) N cap] [.int .i64 0,.int .i64 0,.int .i64 0,.int .i64 0,.int .i64 0] [.int .i64 0,.int .i64 0,.int .i64 0,.int .i64 0,.int .i64 0] 159 63 63
 have Q6:=Lib.hid e3
 have Bq:=Lib.hid b3
 have Vp:=Lib.hid s3
 have Ka:=Lib.hid r2
 have Hq:=Lib.hid r3
 have s9:=Lib.hid (hg.below b3 hg.lt)
 have c0:W3.cell? ⟨W.heap.size,0,none⟩=some (.int .i64 k):=r1.cell 0
 have c1:W3.cell? ⟨W.heap.size,1,none⟩=some (.slice (some ⟨g,0,none⟩) N cap):=r1.cell 1
 have qw:=hg.lt
 have u5:Hid (g<W.heap.size):=qw
 have Df:Hid (∀w,Calls Tryz.prog 127 #[.agg #[.int .i64 k,.slice (some ⟨g,0,none⟩) N cap],.int .i64 i] w fun e w'=>e=.returned (.slice (some ⟨g,i*k,none⟩) k (cap-i*k))∧Below w.heap.size w w'):=fun w=>MF k i g N cap w hk.1 hk.2 hn hc N8
 have cG:Hid (Bg k (AY k t) k=[.int .i64 t.a,.int .i64 t.b,.int .i64 t.c,.int .i64 t.d,.int .i64 t.e]):=by
  unfold Hid;rw[LG hk.2,Me hk.2 hto hf]
 have Lh:Hid (Bg k (AY k t) 0=[.int .i64 0,.int .i64 0,.int .i64 0,.int .i64 0,.int .i64 0]):=Jj _ _
 have cE:Hid (∀i j,j<5→∃v,(Bg k (AY k t) i)[j]?=some v):=fun i j hj=>⟨_,List.getElem?_eq_getElem (show j<(Bg k (AY k t) i).length from hj)⟩
 have Ns:Hid (∀j,j<k→(Bg k (AY k t) j).set j (.int .i64 (IntKind.i64.wrap ((ws.getD (i*k+j) 0:Nat):Int)))=Bg k (AY k t) (j+1)):=by
  intro j hj
  rw[←LD hk.2 _ hj,←ht]
  congr 4
  rw[List.getD_eq_getElem?_getD,List.getD_eq_getElem?_getD,List.getElem?_take,if_pos hj,List.getElem?_drop]
 have OF:Hid (i*k+k≤ws.length):=by unfold Hid;omega
 generalize Bg k (AY k t)=CC at*
 generalize hoff:i*k=off at*
 replace hoff:=Lib.hid hoff
 obtain⟨TA,TB,TC,TD,TE⟩:=t
 simp only at*
 clear hn ht hto hf e3 b3 s3 r1 r2 r3 hw qw hg
 go_enter Tryz.func163,Tryz.ntmps163
 go_upto_region 2 with(fail)
 rw[←Q6.out]
 clear Q6
 generalize hS:W.heap.size=s at*
 replace hS:=Lib.hid hS
 go_wp2_with fail
 refine(Df.out _).mono ?_
 rintro e w4 ⟨rfl,Dz⟩
 have Vv:Hid (Below (s+2) W3 w4):=Dz.mono (by rw[Vp.out];omega)
 have bW:Hid (Row w4 (s+2) 63 (CC 0)):=by unfold Hid;rw[Lh.out];exact Hq.out.below Dz Hq.out.lt
 clear Dz Hq Lh c0 c1
 go_wp2
 go_loopw [6,7,12] (fun _ _ iv wr=>∃j:Nat,j≤k∧iv=.int .i64 (j:Int)∧Hid (Below (s+2) W3 wr)∧Hid (Row wr (s+2) 63 (CC j))) (fun _ _ iv _=>k-(intOf iv).toNat)
 case atStart=>exact⟨0,Nat.zero_le _,rfl,Vv.out,bW.out⟩
 case round=>
  obtain⟨j,hj,rfl,HF,De⟩:=hrel
  by_cases hlt:j<k
  ·have KF:=Ns.out j hlt
   have N7:off+j<ws.length:=by have:=OF.out;omega
   have cw:wr.cell? ⟨g,off+j,none⟩=some (.int .u64 (ws.getD (off+j) 0:Nat)):=by
    rw[(s9.out.below HF.out (by have:=u5.out;omega)).cell (off+j)];exact IS N7
   obtain⟨v0,ct⟩:=cE.out j j (by omega)
   have ct:wr.cell? ⟨s+2,j,none⟩=some v0:=by rw[De.out.cell j];exact ct
   have fg:=De.out.free j
   have Ea:Hid (Row (wr.setCell ⟨s+2,j,none⟩ (.int .i64 (IntKind.i64.wrap ((ws.getD (off+j) 0:Nat):Int)))) (s+2) 63 (CC (j+1))):=by
    have h1:=De.out.set j (.int .i64 (IntKind.i64.wrap ((ws.getD (off+j) 0:Nat):Int)))
    rw[KF]at h1;exact h1
   have Jw:Hid (Below (s+2) W3 (wr.setCell ⟨s+2,j,none⟩ (.int .i64 (IntKind.i64.wrap ((ws.getD (off+j) 0:Nat):Int))))):=HF.out.setCell (Nat.le_refl _) _
   have NK:(0:Int)≤(j:Int):=by omega
   have lX:(j:Int)<(k:Int):=by omega
   have VQ:(j:Int)<5:=by omega
   clear KF N7 hj
   generalize ws.getD (off+j) 0=u at*
   obtain⟨z,hz⟩:∃z,IntKind.i64.wrap (u:Int)=z:=⟨_,rfl⟩
   rw[hz]at Ea Jw
   go_wp2
   go_roundw
   case rel=>exact⟨j+1,by omega,by go_num,Jw.out,Ea.out⟩
   case measure=>simp[intOf];omega
  ·obtain rfl:j=k:=by omega
   have GQ:=De.out
   rw[cG.out]at GQ
   have d0:=GQ.cell 0
   have d1:=GQ.cell 1
   have d2:=GQ.cell 2
   have d3:=GQ.cell 3
   have d4:=GQ.cell 4
   simp only[List.getElem?_cons_zero,List.getElem?_cons_succ]at d0 d1 d2 d3 d4
   have FJ:=Ka.out.below HF.out (by omega)
   have e0:wr.cell? ⟨s+1,0,none⟩=some (.int .i64 0):=FJ.cell 0
   have e1:wr.cell? ⟨s+1,1,none⟩=some (.int .i64 0):=FJ.cell 1
   have e2:wr.cell? ⟨s+1,2,none⟩=some (.int .i64 0):=FJ.cell 2
   have e3:wr.cell? ⟨s+1,3,none⟩=some (.int .i64 0):=FJ.cell 3
   have e4:wr.cell? ⟨s+1,4,none⟩=some (.int .i64 0):=FJ.cell 4
   have f0:=FJ.free 0
   have f1:=FJ.free 1
   have f2:=FJ.free 2
   have f3:=FJ.free 3
   have f4:=FJ.free 4
   have Dt:Hid (Row (((((wr.setCell ⟨s+1,0,none⟩ (.int .i64 TA)).setCell ⟨s+1,1,none⟩ (.int .i64 TB)).setCell ⟨s+1,2,none⟩ (.int .i64 TC)).setCell ⟨s+1,3,none⟩ (.int .i64 TD)).setCell ⟨s+1,4,none⟩ (.int .i64 TE)) (s+1) 63 [.int .i64 TA,.int .i64 TB,.int .i64 TC,.int .i64 TD,.int .i64 TE]):=((((FJ.set 0 (.int .i64 TA)).set 1 (.int .i64 TB)).set 2 (.int .i64 TC)).set 3 (.int .i64 TD)).set 4 (.int .i64 TE)
   have zQ:Hid (Below s W (((((wr.setCell ⟨s+1,0,none⟩ (.int .i64 TA)).setCell ⟨s+1,1,none⟩ (.int .i64 TB)).setCell ⟨s+1,2,none⟩ (.int .i64 TC)).setCell ⟨s+1,3,none⟩ (.int .i64 TD)).setCell ⟨s+1,4,none⟩ (.int .i64 TE))):=by
    have h1:=Bq.out.trans (HF.out.mono (show s≤s+2 by omega))
    exact((((h1.setCell (p:=⟨s+1,0,none⟩) (by show s≤s+1;omega) _).setCell (p:=⟨s+1,1,none⟩) (by show s≤s+1;omega) _).setCell (p:=⟨s+1,2,none⟩) (by show s≤s+1;omega) _).setCell (p:=⟨s+1,3,none⟩) (by show s≤s+1;omega) _).setCell (p:=⟨s+1,4,none⟩) (by show s≤s+1;omega) _
   clear GQ FJ
   go_wp2
   have q0:=Dt.out.cell 0
   have q1:=Dt.out.cell 1
   have q2:=Dt.out.cell 2
   have q3:=Dt.out.cell 3
   have q4:=Dt.out.cell 4
   simp only[List.getElem?_cons_zero,List.getElem?_cons_succ]at q0 q1 q2 q3 q4
   refine bodyPost_ret (v:=.agg #[.int .i64 TA,.int .i64 TB,.int .i64 TC,.int .i64 TD,.int .i64 TE]) (by simp[results,Tryz.results163,go_sem,q0,q1,q2,q3,q4]) rfl ⟨rfl,by rw[hS.out];exact zQ.out⟩
theorem dh{W:World}{g N cap k i:Nat}{ws:List Nat}(t:AB)(hg:Row W g 127 (ws.map vw))(hk:0<k∧k≤5)(hn:i*k+k≤N)(hc:N≤cap)(N8:cap≤1000000)(hw:N≤ws.length):
  Calls Tryz.prog 112 #[.agg #[.int .i64 k,.slice (some ⟨g,0,none⟩) N cap],.int .i64 i,.agg #[.int .i64 t.a,.int .i64 t.b,.int .i64 t.c,.int .i64 t.d,.int .i64 t.e]] W fun e w'=>e=.returned (.tuple #[])∧Row w' g 127 ((splice ws (i*k) (AY k t)).map vw)∧AK (fun b=>b=g) W w':=by
 obtain⟨W2,e2,b2,s2,r1,r2⟩:=Qh W [.int .i64 k,.slice (some ⟨g,0,none⟩) N cap] [.int .i64 t.a,.int .i64 t.b,.int .i64 t.c,.int .i64 t.d,.int .i64 t.e] 159 63
 have oQ:=hg.lt
 have hrow:∀w,Calls Tryz.prog 127 #[.agg #[.int .i64 k,.slice (some ⟨g,0,none⟩) N cap],.int .i64 i] w fun e w'=>e=.returned (.slice (some ⟨g,i*k,none⟩) k (cap-i*k))∧Below w.heap.size w w':=fun w=>MF k i g N cap w hk.1 hk.2 hn hc N8
 have Oz:=CG hk.2 t
 have gf:Hid (∀j,j<k→∃z,(An t)[j]?=some (.int .i64 z)∧(AY k t)[j]?=some (uw z)):=fun j hj=>by
  have VQ:j<t.Bf.length:=by rw[AB.Se];omega
  refine⟨t.Bf[j],?_,?_⟩
  ·have e:An t=t.Bf.map (Value.int .i64):=rfl
   rw[e,List.getElem?_map,List.getElem?_eq_getElem VQ];rfl
  ·unfold AY
   rw[List.getElem?_map,List.getElem?_take,if_pos hj,List.getElem?_eq_getElem VQ];rfl
 have gI:Hid (∀j z,j<k→(AY k t)[j]?=some (uw z)→((splice ws (i*k) ((AY k t).take j)).map vw).set (i*k+j) (.int .u64 (uw z:Nat))=(splice ws (i*k) ((AY k t).take (j+1))).map vw∧i*k+j<((splice ws (i*k) ((AY k t).take j)).map vw).length):=fun j z hj hz=>by
  refine⟨?_,?_⟩
  ·rw[←Mm ws _ (i*k) j (uw z) hz (by rw[Oz];omega),List.map_set];rfl
  ·rw[List.length_map,AR _ _ _ (by rw[List.length_take,Oz];omega)];omega
 have nC:Hid (ws.map vw=(splice ws (i*k) ((AY k t).take 0)).map vw):=by unfold Hid splice;simp
 have oq:Hid ((AY k t).take k=AY k t):=List.take_of_length_le (by omega)
 have m9:=Lib.hid e2
 have Cd:=Lib.hid b2
 have JN:=Lib.hid s2
 have YI:=Lib.hid (hg.below b2 hg.lt)
 have Df:=Lib.hid hrow
 have Dr:=Lib.hid r1
 have Ka:Hid (Row W2 (W.heap.size+1) 63 (An t)):=r2
 have u5:=Lib.hid oQ
 have Q8:Hid (AK (fun b=>b=g) W W2):=AK.AJ b2 _
 have c0:W2.cell? ⟨W.heap.size,0,none⟩=some (.int .i64 k):=r1.cell 0
 have c1:W2.cell? ⟨W.heap.size,1,none⟩=some (.slice (some ⟨g,0,none⟩) N cap):=r1.cell 1
 generalize AY k t=WL at*
 generalize hoff:i*k=off at*
 replace hoff:=Lib.hid hoff
 clear Oz hrow e2 b2 s2 r1 r2 hn hw hg oQ
 go_enter Tryz.func112,Tryz.ntmps112
 go_upto_region 1 with(fail)
 have e2:=m9.out
 change W2=(W.alloc (.cells #[.int .i64 k,.slice (some ⟨g,0,none⟩) N cap] 159)).alloc (.cells #[.int .i64 t.a,.int .i64 t.b,.int .i64 t.c,.int .i64 t.d,.int .i64 t.e] 63)at e2
 rw[←e2]
 clear e2 m9
 generalize hS:W.heap.size=s at*
 replace hS:=Lib.hid hS
 go_wp2_with fail
 refine(Df.out _).mono ?_
 rintro e w4 ⟨rfl,Dz⟩
 have yp:=Lib.hid (Dr.out.below Dz Dr.out.lt)
 have yo:=Lib.hid (Ka.out.below Dz Ka.out.lt)
 have HG4:Hid (Row w4 g 127 ((splice ws off (WL.take 0)).map vw)):=by unfold Hid;rw[←nC.out];exact YI.out.below Dz YI.out.lt
 have zM:Hid (AK (fun b=>b=g) W w4):=Q8.out.trans (AK.AJ Dz (fun _=>False)) fun _ h=>h.elim
 clear Dz YI Dr Ka nC c0 c1 Cd
 go_wp2
 go_loopw [6,11] (fun _ iv wr=>∃j:Nat,j≤k∧iv=.int .i64 (j:Int)∧Hid (AK (fun b=>b=g) W wr)∧Hid (Row wr s 159 [.int .i64 k,.slice (some ⟨g,0,none⟩) N cap])∧Hid (Row wr (s+1) 63 (An t))∧Hid (Row wr g 127 ((splice ws off (WL.take j)).map vw))) (fun _ iv _=>k-(intOf iv).toNat)
 case atStart=>exact⟨0,Nat.zero_le _,rfl,zM.out,yp.out,yo.out,HG4.out⟩
 case round=>
  obtain⟨j,hj,rfl,HF,nM,nK,bU⟩:=hrel
  by_cases hlt:j<k
  ·obtain⟨z,CM,GJ⟩:=gf.out j hlt
   have GJ:=Lib.hid GJ
   have HK:Hid (∀w9,Below wr.heap.size wr w9→(w9.cell? ⟨s,0,none⟩=some (.int .i64 k)∧w9.cell? ⟨s,1,none⟩=some (.slice (some ⟨g,0,none⟩) N cap)∧w9.cell? ⟨s+1,j,none⟩=some (.int .i64 z))∧Row w9 g 127 ((splice ws off (WL.take j)).map vw)):=fun w9 hb=>by
    have h1:=nM.out.below hb nM.out.lt
    have h2:=nK.out.below hb nK.out.lt
    refine⟨⟨h1.cell 0,h1.cell 1,?_⟩,bU.out.below hb bU.out.lt⟩
    rw[h2.cell j];exact CM
   have q1:=(HK.out wr.drew (AH (Below.refl _ _))).1
   have Aq:Hid (∀w9,Below wr.heap.size wr w9→(∃v,w9.cell? ⟨g,off+j,none⟩=some v)∧w9.frozen? ⟨g,off+j,none⟩=false∧AK (fun b=>b=g) W (w9.setCell ⟨g,off+j,none⟩ (.int .u64 (uw z:Nat)))∧Row (w9.setCell ⟨g,off+j,none⟩ (.int .u64 (uw z:Nat))) s 159 [.int .i64 k,.slice (some ⟨g,0,none⟩) N cap]∧Row (w9.setCell ⟨g,off+j,none⟩ (.int .u64 (uw z:Nat))) (s+1) 63 (An t)∧Row (w9.setCell ⟨g,off+j,none⟩ (.int .u64 (uw z:Nat))) g 127 ((splice ws off (WL.take (j+1))).map vw)∧((w9.setCell ⟨g,off+j,none⟩ (.int .u64 (uw z:Nat))).cell? ⟨s,0,none⟩=some (.int .i64 k)∧(w9.setCell ⟨g,off+j,none⟩ (.int .u64 (uw z:Nat))).cell? ⟨s,1,none⟩=some (.slice (some ⟨g,0,none⟩) N cap)∧(w9.setCell ⟨g,off+j,none⟩ (.int .u64 (uw z:Nat))).cell? ⟨s+1,j,none⟩=some (.int .i64 z))):=fun w9 hb=>by
    obtain⟨EP,EB⟩:=gI.out j z hlt GJ.out
    have xU:=(HK.out w9 hb).2
    have iV:g≠s:=by have:=u5.out;omega
    have xQ:g≠s+1:=by have:=u5.out;omega
    have xp:=(nM.out.below hb nM.out.lt).CU (p:=⟨g,off+j,none⟩) (fun e=>iV e.symm) (.int .u64 (uw z:Nat))
    have hb9:=(nK.out.below hb nK.out.lt).CU (p:=⟨g,off+j,none⟩) (fun e=>xQ e.symm) (.int .u64 (uw z:Nat))
    refine⟨⟨_,by rw[xU.cell (off+j)];exact List.getElem?_eq_getElem EB⟩,xU.free _,?_,xp,hb9,?_,xp.cell 0,xp.cell 1,by rw[hb9.cell j];exact CM⟩
    ·exact(HF.out.trans (AK.AJ hb (fun _=>False)) fun _ h=>h.elim).set (p:=⟨g,off+j,none⟩) (.inl rfl) _
    ·have:=xU.set (off+j) (.int .u64 (uw z:Nat))
     rw[EP]at this;exact this
   have NK:(0:Int)≤(j:Int):=by omega
   have lX:(j:Int)<(k:Int):=by omega
   have VQ:(j:Int)<5:=by omega
   have hzw:IntKind.u64.wrap z=((uw z:Nat):Int):=Uw z
   clear CM
   generalize uw z=u at*
   go_wp2
   go_region_held3 (fun w'=>w'.cell? ⟨s,0,none⟩=some (.int .i64 k)∧w'.cell? ⟨s,1,none⟩=some (.slice (some ⟨g,0,none⟩) N cap)∧w'.cell? ⟨s+1,j,none⟩=some (.int .i64 z)) (first|with_reducible exact q1|with_reducible exact q2|with_reducible exact q3)
    (first
     |(go_at_call 127;(with_reducible refine(Df.out _).mono ?_);rintro e w5 ⟨rfl,DS⟩;have Jd:Below wr.heap.size wr w5:=(AH (Below.refl _ _)).trans DS;have q2:=(HK.out w5 Jd).1;obtain⟨⟨v9,hv9⟩,hf9,iY,qV,qU,qR,q3⟩:=Aq.out w5 Jd))
   have H5:=Lib.hid (And.intro iY (And.intro qV (And.intro qU qR)))
   clear iY qV qU qR q2 q3 q1 hv9 hf9 Jd DS
   go_wp2
   go_roundw
   case rel=>exact⟨j+1,by omega,by go_num,H5.out.1,H5.out.2.1,H5.out.2.2.1,H5.out.2.2.2⟩
   case measure=>simp[intOf];omega
  ·obtain rfl:j=k:=by omega
   have nH:=bU.out
   rw[oq.out]at nH
   have H9:=Lib.hid nH
   clear nH
   go_wp2
   go_end0
   exact⟨rfl,H9.out,HF.out⟩
theorem Sf(o a b:AB)(hf:Fm o)(w:World):Calls Tryz.prog 53 #[.agg #[.int .i64 a.a,.int .i64 a.b,.int .i64 a.c,.int .i64 a.d,.int .i64 a.e],.agg #[.int .i64 b.a,.int .i64 b.b,.int .i64 b.c,.int .i64 b.d,.int .i64 b.e],.agg #[.int .i64 o.a,.int .i64 o.b,.int .i64 o.c,.int .i64 o.d,.int .i64 o.e]] w fun e w'=>e=.returned (.int .i64 (AN o a b))∧Below w.heap.size w w':=by
 obtain⟨W1,B2,Aj,s1,r1,r2,r3⟩:=UZ w [.int .i64 a.a,.int .i64 a.b,.int .i64 a.c,.int .i64 a.d,.int .i64 a.e] [.int .i64 b.a,.int .i64 b.b,.int .i64 b.c,.int .i64 b.d,.int .i64 b.e] [.int .i64 o.a,.int .i64 o.b,.int .i64 o.c,.int .i64 o.d,.int .i64 o.e] 63 63 26
 have ER:=Lib.hid B2
 have HB:=Lib.hid Aj
 have HA:Hid (∀q i,i<5→(W1.drewN q).cell? ⟨w.heap.size,i,none⟩=some (.int .i64 (A4 a i))):=fun q i hi=>Sj r1 hi
 have pG:Hid (∀q i,i<5→(W1.drewN q).cell? ⟨w.heap.size+1,i,none⟩=some (.int .i64 (A4 b i))):=fun q i hi=>Sj r2 hi
 have d0:W1.cell? ⟨w.heap.size+2,0,none⟩=some (.int .i64 o.a):=r3.cell 0
 have d1:W1.cell? ⟨w.heap.size+2,1,none⟩=some (.int .i64 o.b):=r3.cell 1
 have d2:W1.cell? ⟨w.heap.size+2,2,none⟩=some (.int .i64 o.c):=r3.cell 2
 have d3:W1.cell? ⟨w.heap.size+2,3,none⟩=some (.int .i64 o.d):=r3.cell 3
 have d4:W1.cell? ⟨w.heap.size+2,4,none⟩=some (.int .i64 o.e):=r3.cell 4
 have hres:AN o a b=cmpL o.Bf a b:=by unfold AN;rw[if_pos hf]
 have yj:Hid (∀i,i<5→-5≤A4 o i∧A4 o i≤5):=fun i hi=>(hf i hi).1
 have zI:Hid (∀i:Nat,i<5→∀W:World,(Instr.index 26 (.agg #[.int .i64 o.a,.int .i64 o.b,.int .i64 o.c,.int .i64 o.d,.int .i64 o.e]) (.int .i64 (i:Int))).run Tryz.prog W=.ok (.int .i64 (A4 o i)) W):=fun i hi W=>Oy _ rfl o hi W
 rw[hres]
 have Ea:Hid (cmpL (o.Bf.drop 0) a b=cmpL o.Bf a b):=rfl
 generalize cmpL o.Bf a b=res at*
 clear hf hres r1 r2 r3 Aj s1 B2
 go_enter Tryz.func53,Tryz.ntmps53
 go_upto_region 1 with(fail)
 rw[←ER.out]
 clear ER
 go_wp2_with fail
 go_loopw [11] (fun iv wr=>∃i q:Nat,i≤5∧iv=.int .i64 (i:Int)∧W1.drewN q=wr∧Hid (cmpL (o.Bf.drop i) a b=res)) (fun iv _=>5-(intOf iv).toNat)
 case atStart=>exact⟨0,0,by omega,rfl,rfl,Ea.out⟩
 case round=>
  obtain⟨i,q,hi,rfl,rfl,HC⟩:=hrel
  clear Ea
  by_cases hlt:i<5
  ·have g1:decide ((i:Int)<5)=true:=by simp;omega
   have i0:(0:Int)≤(i:Int):=by omega
   have i1:(i:Int)<5:=by omega
   obtain⟨z,hz⟩:∃z,z=A4 o i:=⟨_,rfl⟩
   have HRZ:Hid (-5≤z∧z≤5):=by rw[hz];exact yj.out i hlt
   have IG:Hid (cmpL (z::o.Bf.drop (i+1)) a b=res):=by rw[hz,←fe hlt];exact HC.out
   have hix:∀W:World,(Instr.index 26 (.agg #[.int .i64 o.a,.int .i64 o.b,.int .i64 o.c,.int .i64 o.d,.int .i64 o.e]) (.int .i64 (i:Int))).run Tryz.prog W=.ok (.int .i64 z) W:=fun W=>by rw[hz];exact zI.out i hlt W
   clear HC hz
   by_cases Cy:z=0
   ·have gz:(z==0)=true:=by simpa using Cy
    have gz':decide (z=0)=true:=by simpa using Cy
    have hr:res=0:=by rw[←IG.out,Cy,E6]
    subst hr
    clear Cy
    go_wp2
    go_ret
    exact⟨rfl,Bx HB.out _⟩
   ·have gz:(z==0)=false:=by simpa using Cy
    have gz':decide (z=0)=false:=by simpa using Cy
    have fG:=Zg Cy HRZ.out
    have HQ:Hid (∀q r,Calls Tryz.prog 54 #[.int .i64 z] (W1.drewN (q+r)) fun e DG=>e=.returned (.int .i64 (Ce z:Nat))∧∃n,DG=W1.drewN (q+n)):=fun q r=>by
     have:=VY z HRZ.out (W1.drewN (q+r))
     rw[Va Cy]at this
     exact this.mono fun _ _ ⟨he,hw⟩=>⟨he,r,hw⟩
    obtain⟨x,hx⟩:∃x,x=A4 a (Ce z):=⟨_,rfl⟩
    obtain⟨y,hy⟩:∃y,y=A4 b (Ce z):=⟨_,rfl⟩
    have yx:∀q,(W1.drewN q).cell? ⟨w.heap.size,Ce z,none⟩=some (.int .i64 x):=fun q=>by rw[hx];exact HA.out q _ fG
    have yy:∀q,(W1.drewN q).cell? ⟨w.heap.size+1,Ce z,none⟩=some (.int .i64 y):=fun q=>by rw[hy];exact pG.out q _ fG
    have MT:Hid (x=y→cmpL (o.Bf.drop (i+1)) a b=res):=fun h=>by rw[←IG.out,F8 Cy _ (by rw[←hx,←hy];exact h)]
    have Jv:Hid (x<y→(if 0<z then (-1:Int)else 1)=res):=fun h=>by rw[←IG.out,Et Cy _ (by rw[←hx,←hy];exact h)]
    have o8:Hid (y<x→(if 0<z then (1:Int)else -1)=res):=fun h=>by rw[←IG.out,Eu Cy _ (by rw[←hx,←hy];exact h)]
    have jQ:Hid (∀v,Ng x y=v→∀q r,Calls Tryz.prog 82 #[.int .i64 x,.int .i64 y] (W1.drewN (q+r)) fun e DG=>e=.returned (.int .i64 v)∧∃n,DG=W1.drewN (q+n)):=fun v hv q r=>by
     have:=Zr x y (W1.drewN (q+r))
     rw[hv]at this
     exact this.mono fun _ _ ⟨he,hw⟩=>⟨he,r,hw⟩
    have k0:(0:Int)≤((Ce z:Nat):Int):=by omega
    have k1:((Ce z:Nat):Int)<5:=by omega
    have tq:0<z∨z<0:=by omega
    generalize Ce z=c at*
    clear hx hy Cy IG HA pG
    rcases Int.lt_trichotomy x y with h|h|h
    ·have nO:=Lib.hid (jQ.out (-1) (by unfold Ng;rw[if_pos h]))
     have hr:=Jv.out h
     rcases tq with hp|hp
     ·rw[if_pos hp]at hr
      have gp:decide (z<0)=false:=by simp;omega
      subst hr
      clear h hp Jv o8 MT jQ
      go_wp2
      go_quiet ((with_reducible first|exact HQ.out _ _|exact nO.out _ _))
      go_wp2
      go_ret
      exact⟨rfl,by first|exact Bx HB.out _|exact Bx (Bx HB.out _) _⟩
     ·rw[if_neg (by omega)]at hr
      have gp:decide (z<0)=true:=by simpa using hp
      subst hr
      clear h hp Jv o8 MT jQ
      go_wp2
      go_quiet ((with_reducible first|exact HQ.out _ _|exact nO.out _ _))
      go_wp2
      go_ret
      exact⟨rfl,by first|exact Bx HB.out _|exact Bx (Bx HB.out _) _⟩
    ·have nO:=Lib.hid (jQ.out 0 (by unfold Ng;rw[if_neg (by omega),if_pos h]))
     have HN:=Lib.hid (MT.out h)
     clear h Jv o8 MT jQ tq
     go_wp2
     go_quiet ((with_reducible first|exact HQ.out _ _|exact nO.out _ _))
     go_wp2
     go_roundw
     case rel=>exact⟨i+1,_,by omega,by go_num,rfl,HN.out⟩
     case measure=>simp[intOf];omega
    ·have nO:=Lib.hid (jQ.out 1 (by unfold Ng;rw[if_neg (by omega),if_neg (by omega)]))
     have hr:=o8.out h
     rcases tq with hp|hp
     ·rw[if_pos hp]at hr
      have gp:decide (z<0)=false:=by simp;omega
      subst hr
      clear h hp Jv o8 MT jQ
      go_wp2
      go_quiet ((with_reducible first|exact HQ.out _ _|exact nO.out _ _))
      go_wp2
      go_ret
      exact⟨rfl,by first|exact Bx HB.out _|exact Bx (Bx HB.out _) _⟩
     ·rw[if_neg (by omega)]at hr
      have gp:decide (z<0)=true:=by simpa using hp
      subst hr
      clear h hp Jv o8 MT jQ
      go_wp2
      go_quiet ((with_reducible first|exact HQ.out _ _|exact nO.out _ _))
      go_wp2
      go_ret
      exact⟨rfl,by first|exact Bx HB.out _|exact Bx (Bx HB.out _) _⟩
  ·obtain rfl:i=5:=by omega
   have hr:res=0:=by rw[←HC.out,az];rfl
   subst hr
   clear HC
   go_wp2
   go_ret
   exact⟨rfl,Bx HB.out _⟩
theorem MM(o a b:AB)(w:World):Calls Tryz.prog 159 #[.agg #[.int .i64 a.a,.int .i64 a.b,.int .i64 a.c,.int .i64 a.d,.int .i64 a.e],.agg #[.int .i64 b.a,.int .i64 b.b,.int .i64 b.c,.int .i64 b.d,.int .i64 b.e],.agg #[.int .i64 o.a,.int .i64 o.b,.int .i64 o.c,.int .i64 o.d,.int .i64 o.e]] w fun e w'=>e=.returned (.int .i64 (AN o a b))∧Below w.heap.size w w':=by
 obtain⟨W1,B2,Aj,s1,r1,r2,r3⟩:=UZ w [.int .i64 a.a,.int .i64 a.b,.int .i64 a.c,.int .i64 a.d,.int .i64 a.e] [.int .i64 b.a,.int .i64 b.b,.int .i64 b.c,.int .i64 b.d,.int .i64 b.e] [.int .i64 o.a,.int .i64 o.b,.int .i64 o.c,.int .i64 o.d,.int .i64 o.e] 63 63 26
 have ER:=Lib.hid B2
 have HB:=Lib.hid Aj
 have Li:=Lib.hid s1
 have Dr:=Lib.hid r1
 have Ka:=Lib.hid r2
 have Hq:=Lib.hid r3
 have d0:W1.cell? ⟨w.heap.size+2,0,none⟩=some (.int .i64 o.a):=r3.cell 0
 have d1:W1.cell? ⟨w.heap.size+2,1,none⟩=some (.int .i64 o.b):=r3.cell 1
 have d2:W1.cell? ⟨w.heap.size+2,2,none⟩=some (.int .i64 o.c):=r3.cell 2
 have d3:W1.cell? ⟨w.heap.size+2,3,none⟩=some (.int .i64 o.d):=r3.cell 3
 have d4:W1.cell? ⟨w.heap.size+2,4,none⟩=some (.int .i64 o.e):=r3.cell 4
 have gS:=Lib.hid (Jg o)
 by_cases hf:Fm o
 ·have cr:=Lib.hid (Sf o a b hf)
  rw[decide_eq_true hf]at gS
  generalize AN o a b=res at*
  clear hf r1 r2 r3 Aj s1 B2
  go_enter Tryz.func159,Tryz.ntmps159
  go_upto_region 1 with(fail)
  rw[←ER.out]
  clear ER
  go_wp2_with fail
  refine(gS.out _).mono ?_;rintro e w2 ⟨rfl,hb⟩
  have A9:Below (w.heap.size+3) W1 w2:=hb.mono (Nat.le_of_eq Li.out.symm)
  have Cd:Hid (Below w.heap.size w w2):=HB.out.trans (hb.mono (by have:=Li.out;omega))
  have BS:=Dr.out.below A9 (by omega)
  have Ap:=Ka.out.below A9 (by omega)
  have Cm:=Hq.out.below A9 (by omega)
  have q0:w2.cell? ⟨w.heap.size,0,none⟩=some (.int .i64 a.a):=BS.cell 0
  have q1:w2.cell? ⟨w.heap.size,1,none⟩=some (.int .i64 a.b):=BS.cell 1
  have q2:w2.cell? ⟨w.heap.size,2,none⟩=some (.int .i64 a.c):=BS.cell 2
  have q3:w2.cell? ⟨w.heap.size,3,none⟩=some (.int .i64 a.d):=BS.cell 3
  have q4:w2.cell? ⟨w.heap.size,4,none⟩=some (.int .i64 a.e):=BS.cell 4
  have p0:w2.cell? ⟨w.heap.size+1,0,none⟩=some (.int .i64 b.a):=Ap.cell 0
  have p1:w2.cell? ⟨w.heap.size+1,1,none⟩=some (.int .i64 b.b):=Ap.cell 1
  have p2:w2.cell? ⟨w.heap.size+1,2,none⟩=some (.int .i64 b.c):=Ap.cell 2
  have p3:w2.cell? ⟨w.heap.size+1,3,none⟩=some (.int .i64 b.d):=Ap.cell 3
  have p4:w2.cell? ⟨w.heap.size+1,4,none⟩=some (.int .i64 b.e):=Ap.cell 4
  have e0:w2.cell? ⟨w.heap.size+2,0,none⟩=some (.int .i64 o.a):=Cm.cell 0
  have e1:w2.cell? ⟨w.heap.size+2,1,none⟩=some (.int .i64 o.b):=Cm.cell 1
  have e2:w2.cell? ⟨w.heap.size+2,2,none⟩=some (.int .i64 o.c):=Cm.cell 2
  have e3:w2.cell? ⟨w.heap.size+2,3,none⟩=some (.int .i64 o.d):=Cm.cell 3
  have e4:w2.cell? ⟨w.heap.size+2,4,none⟩=some (.int .i64 o.e):=Cm.cell 4
  have JN:Hid (w.heap.size≤w2.heap.size):=Cd.out.size
  clear hb A9 BS Ap Cm Dr Ka Hq d0 d1 d2 d3 d4
  go_wp2_with fail
  refine(cr.out _).mono ?_;rintro e w3 ⟨rfl,hb⟩
  have Bq:Hid (Below w.heap.size w w3):=Cd.out.trans (hb.mono JN.out)
  clear hb
  go_wp2
  go_ret
  exact⟨rfl,Bq.out⟩
 ·have hres:AN o a b=0:=by unfold AN;rw[if_neg hf]
  rw[decide_eq_false hf]at gS
  rw[hres]
  clear hf hres r1 r2 r3 Aj s1 B2
  go_enter Tryz.func159,Tryz.ntmps159
  go_upto_region 1 with(fail)
  rw[←ER.out]
  clear ER
  go_wp2_with fail
  refine(gS.out _).mono ?_;rintro e w2 ⟨rfl,hb⟩
  have Cd:Hid (Below w.heap.size w w2):=HB.out.trans (hb.mono (by have:=Li.out;omega))
  clear hb
  go_wp2
  go_ret
  exact⟨rfl,Cd.out⟩
def FG(k g N cap:Nat)(o:AB)(told:Nat):List Value:=[.int .i64 k,.slice (some ⟨g,0,none⟩) N cap,.int .i64 o.a,.int .i64 o.b,.int .i64 o.c,.int .i64 o.d,.int .i64 o.e,.int .i64 told]
structure D5 (W:World) (r k g N cap q:Nat) (o:AB) (told:Nat) (ws:List Nat) (l:List AB):Prop where
 row:Row W r 161 (FG k g N cap o told)
 words:Row W g 127 (ws.map vw)
 kk:0<k∧k≤5
 nn:N=q*k∧N≤cap∧cap≤1000000∧ws.length=cap∧q≤1000000
 len:l.length=q
 tol:told≤q
 flat:ws.take N=BA k l
 fit:∀u∈l,CQ u∧Ac k u=true
section
variable {W W' : World} {r k g N cap q told : Nat} {o : AB} {ws : List Nat} {l : List AB}
theorem D5.below(h:D5 W r k g N cap q o told ws l)(hb:Below W.heap.size W W'):D5 W' r k g N cap q o told ws l:=
 ⟨h.row.below hb h.row.lt,h.words.below hb h.words.lt,h.kk,h.nn,h.len,h.tol,h.flat,h.fit⟩
theorem KT{k N q:Nat}{ws:List Nat}{l:List AB}(hk:k≤5)(hN:N=q*k)(hl:l.length=q)(hf:ws.take N=BA k l){i:Nat}{t:AB}(ht:l[i]?=some t):i*k+k≤N∧(ws.drop (i*k)).take k=AY k t:=by
 have hi:i<q:=by rw[←hl];exact(List.getElem?_eq_some_iff.1 ht).1
 have h1:(i+1)*k≤q*k:=Nat.mul_le_mul_right _ hi
 rw[Nat.add_mul,Nat.one_mul]at h1
 refine⟨by omega,?_⟩
 rw[←SX hk ht,←hf,List.drop_take,List.take_take,Nat.min_eq_left (by omega)]
theorem getD_some{l:List AB}{i:Nat}(h:i<l.length):l[i]?=some (l.getD i AD):=by rw[List.getD_eq_getElem?_getD,List.getElem?_eq_getElem h];rfl
theorem D5.get(h:D5 W r k g N cap q o told ws l){i:Nat}(hi:i<q):Calls Tryz.prog 163 #[.agg #[.int .i64 k,.slice (some ⟨g,0,none⟩) N cap],.int .i64 i] W fun e w'=>e=.returned (.agg #[.int .i64 (l.getD i AD).a,.int .i64 (l.getD i AD).b,.int .i64 (l.getD i AD).c,.int .i64 (l.getD i AD).d,.int .i64 (l.getD i AD).e])∧Below W.heap.size W w':=by
 have ht:=getD_some (l:=l) (i:=i) (by rw[h.len];exact hi)
 obtain⟨h1,h2⟩:=KT h.kk.2 h.nn.1 h.len h.flat ht
 have hf:=h.fit _ (List.mem_of_getElem? ht)
 exact VW h.words h.kk h1 h.nn.2.1 h.nn.2.2.1 (by rw[h.nn.2.2.2.1];exact h.nn.2.1) h2 hf.1 hf.2
theorem Mq(hr:Row W r 161 (FG k g N cap o told))(hk:0<k)(hN:N=q*k)(hq:q≤1000000):Calls Tryz.prog 111 #[.pointer (some ⟨r,0,none⟩)] W fun e w'=>e=.returned (.int .i64 q)∧∃d,w'=W.drewN d:=by
 have c0:W.cell? ⟨r,0,none⟩=some (.int .i64 k):=hr.cell 0
 have c1:W.cell? ⟨r,1,none⟩=some (.slice (some ⟨g,0,none⟩) N cap):=hr.cell 1
 have hd:Int.tdiv (N:Int) (k:Int)=(q:Int):=by
  have h1:N/k=q:=by rw[hN];exact Nat.mul_div_cancel _ hk
  rw[←h1];rfl
 have VO:¬((k:Int)=0):=by omega
 clear hr hN
 go_enter Tryz.func111,Tryz.ntmps111
 go_wp2
 go_region
 go_wp2
 go_ret
 exact⟨rfl,1,rfl⟩
theorem Re(h:D5 W r k g N cap q o told ws l):Calls Tryz.prog 111 #[.pointer (some ⟨r,0,none⟩)] W fun e w'=>e=.returned (.int .i64 q)∧∃d,w'=W.drewN d:=Mq h.row h.kk.1 h.nn.1 h.nn.2.2.2.2
theorem WY(h:D5 W r k g N cap q o told ws l){i j:Nat}(hi:i<q)(hj:j<q):Calls Tryz.prog 160 #[.pointer (some ⟨r,0,none⟩),.int .i64 i,.int .i64 j] W fun e w'=>e=.returned (.bool (decide (AN o (l.getD i AD) (l.getD j AD)<0)))∧Below W.heap.size W w':=by
 have Q1:Hid (∀d os,Calls Tryz.prog 163 #[.agg #[.int .i64 k,.slice (some ⟨g,0,none⟩) N cap],.int .i64 i] (Sort.grow (redrawn W d) os) fun e DG=>e=.returned (.agg #[.int .i64 (l.getD i AD).a,.int .i64 (l.getD i AD).b,.int .i64 (l.getD i AD).c,.int .i64 (l.getD i AD).d,.int .i64 (l.getD i AD).e])∧∃p:Regrown,DG=Sort.grow (redrawn W p.d) p.os):=fun d os=>Calls.regrown_of ((h.below (below_regrown W d os)).get hi)
 have Q2:Hid (∀d os,Calls Tryz.prog 163 #[.agg #[.int .i64 k,.slice (some ⟨g,0,none⟩) N cap],.int .i64 j] (Sort.grow (redrawn W d) os) fun e DG=>e=.returned (.agg #[.int .i64 (l.getD j AD).a,.int .i64 (l.getD j AD).b,.int .i64 (l.getD j AD).c,.int .i64 (l.getD j AD).d,.int .i64 (l.getD j AD).e])∧∃p:Regrown,DG=Sort.grow (redrawn W p.d) p.os):=fun d os=>Calls.regrown_of ((h.below (below_regrown W d os)).get hj)
 have Q3:Hid (∀d os,Calls Tryz.prog 159 #[.agg #[.int .i64 (l.getD i AD).a,.int .i64 (l.getD i AD).b,.int .i64 (l.getD i AD).c,.int .i64 (l.getD i AD).d,.int .i64 (l.getD i AD).e],.agg #[.int .i64 (l.getD j AD).a,.int .i64 (l.getD j AD).b,.int .i64 (l.getD j AD).c,.int .i64 (l.getD j AD).d,.int .i64 (l.getD j AD).e],.agg #[.int .i64 o.a,.int .i64 o.b,.int .i64 o.c,.int .i64 o.d,.int .i64 o.e]] (Sort.grow (redrawn W d) os) fun e DG=>e=.returned (.int .i64 (AN o (l.getD i AD) (l.getD j AD)))∧∃p:Regrown,DG=Sort.grow (redrawn W p.d) p.os):=fun d os=>Calls.regrown_of (MM o _ _ _)
 have k0:∀d os,(Sort.grow (redrawn W d) os).cell? ⟨r,0,none⟩=some (.int .i64 k):=cell_regrown (h.row.cell 0)
 have k1:∀d os,(Sort.grow (redrawn W d) os).cell? ⟨r,1,none⟩=some (.slice (some ⟨g,0,none⟩) N cap):=cell_regrown (h.row.cell 1)
 have k2:∀d os,(Sort.grow (redrawn W d) os).cell? ⟨r,2,none⟩=some (.int .i64 o.a):=cell_regrown (h.row.cell 2)
 have k3:∀d os,(Sort.grow (redrawn W d) os).cell? ⟨r,3,none⟩=some (.int .i64 o.b):=cell_regrown (h.row.cell 3)
 have k4:∀d os,(Sort.grow (redrawn W d) os).cell? ⟨r,4,none⟩=some (.int .i64 o.c):=cell_regrown (h.row.cell 4)
 have k5:∀d os,(Sort.grow (redrawn W d) os).cell? ⟨r,5,none⟩=some (.int .i64 o.d):=cell_regrown (h.row.cell 5)
 have k6:∀d os,(Sort.grow (redrawn W d) os).cell? ⟨r,6,none⟩=some (.int .i64 o.e):=cell_regrown (h.row.cell 6)
 generalize l.getD i AD=ti at*
 generalize l.getD j AD=tj at*
 generalize AN o ti tj=res at*
 obtain⟨ia,ib,ic,id,ie⟩:=ti
 obtain⟨ja,jb,jc,jd,je⟩:=tj
 obtain⟨oa,ob,oc,od,oe⟩:=o
 simp only at*
 clear h
 go_enter Tryz.func160,Tryz.ntmps160
 go_wp2
 refine wp_region_quiet_below (by kernel_rfl) (by kernel_rfl) ?_
 repeat(any_goals(first|go_big_quiet_step (with_reducible first|exact Q1.out _ _|exact Q2.out _ _|exact Q3.out _ _)|quiet_step (with_reducible first|exact Q1.out _ _|exact Q2.out _ _|exact Q3.out _ _)))
 refine wpQuiet_nil ?_
 intro w5 EU
 obtain⟨⟨dq,osq⟩,EU⟩:=EU
 have Bm:=below_regrown W dq osq
 rw[←EU]at Bm
 have HB:=Lib.hid Bm
 clear EU Bm
 go_wp2
 go_ret
 exact⟨rfl,HB.out⟩
theorem WX(h:D5 W r k g N cap q o q ws l):Calls Tryz.prog 161 #[.pointer (some ⟨r,0,none⟩)] W fun e w'=>e=.returned (.tuple #[.agg #[.int .i64 0,.int .i64 0,.int .i64 0,.int .i64 0,.int .i64 0],.bool false,.int .i64 0])∧Below W.heap.size W w':=by
 obtain⟨W1,B2⟩:∃W1,W1=W.alloc (.cells #[.int .i64 0,.int .i64 0,.int .i64 0,.int .i64 0,.int .i64 0] 63):=⟨_,rfl⟩
 have Aj:Below W.heap.size W W1:=by rw[B2];exact(Below.refl _ _).alloc (Nat.le_refl _) _
 have BS:Row W1 W.heap.size 63 [.int .i64 0,.int .i64 0,.int .i64 0,.int .i64 0,.int .i64 0]:=by rw[B2];exact heap_alloc_new _ _
 have ER:=Lib.hid B2
 have Kj:=Lib.hid Aj
 have Dr:=Lib.hid BS
 have h1:=h.below Aj
 have HL:Hid (∀p,Calls Tryz.prog 111 #[.pointer (some ⟨r,0,none⟩)] (W1.drewN p) fun e w'=>e=.returned (.int .i64 q)∧∃d,w'=W1.drewN d):=fun p=>(Re (h1.below (AG (Below.refl _ _) p))).mono fun e w' ⟨he,d,hw⟩=>⟨he,p+d,by rw[hw,World.drewN_drewN]⟩
 have c7:W1.cell? ⟨r,7,none⟩=some (.int .i64 q):=h1.row.cell 7
 clear h h1 Aj BS B2
 go_enter Tryz.func161,Tryz.ntmps161
 go_upto_region 1 with(fail)
 rw[←ER.out]
 clear ER
 go_quiet (with_reducible exact HL.out _)
 have FZ:Row (W1.drewN nq) W.heap.size 63 [.int .i64 0,.int .i64 0,.int .i64 0,.int .i64 0,.int .i64 0]:=Dr.out.drewN nq
 have Vv:Hid (Below W.heap.size W (W1.drewN nq)):=AG Kj.out nq
 clear c7 HL Kj Dr
 generalize W1.drewN nq=W4 at*
 generalize hS:W.heap.size=s at*
 have z0:W4.cell? ⟨s,0,none⟩=some (.int .i64 0):=FZ.cell 0
 have z1:W4.cell? ⟨s,1,none⟩=some (.int .i64 0):=FZ.cell 1
 have z2:W4.cell? ⟨s,2,none⟩=some (.int .i64 0):=FZ.cell 2
 have z3:W4.cell? ⟨s,3,none⟩=some (.int .i64 0):=FZ.cell 3
 have z4:W4.cell? ⟨s,4,none⟩=some (.int .i64 0):=FZ.cell 4
 have f0:=FZ.free 0
 have f1:=FZ.free 1
 have f2:=FZ.free 2
 have f3:=FZ.free 3
 have f4:=FZ.free 4
 have Dt:=Lib.hid (((((FZ.set 0 (.int .i64 0)).set 1 (.int .i64 0)).set 2 (.int .i64 0)).set 3 (.int .i64 0)).set 4 (.int .i64 0))
 have zQ:=Lib.hid (Nk Vv.out (Nat.le_refl s) 0 (.int .i64 0) (.int .i64 0) (.int .i64 0) (.int .i64 0) (.int .i64 0))
 clear FZ
 go_wp2
 have q0:=Dt.out.cell 0
 have q1:=Dt.out.cell 1
 have q2:=Dt.out.cell 2
 have q3:=Dt.out.cell 3
 have q4:=Dt.out.cell 4
 simp only[List.getElem?_cons_zero,List.getElem?_cons_succ,List.set_cons_zero,List.set_cons_succ]at q0 q1 q2 q3 q4
 refine bodyPost_ret (v:=.tuple #[.agg #[.int .i64 0,.int .i64 0,.int .i64 0,.int .i64 0,.int .i64 0],.bool false,.int .i64 0]) (by simp[results,Tryz.results161,go_sem,q0,q1,q2,q3,q4]) rfl ⟨rfl,by rw[hS];exact zQ.out⟩
theorem ZB(h:D5 W r k g N cap q o told ws l)(ht:told<q)(XB:r≠g):Calls Tryz.prog 161 #[.pointer (some ⟨r,0,none⟩)] W fun e w'=>e=.returned (.tuple #[.agg #[.int .i64 (l.getD told AD).a,.int .i64 (l.getD told AD).b,.int .i64 (l.getD told AD).c,.int .i64 (l.getD told AD).d,.int .i64 (l.getD told AD).e],.bool true,.int .i64 0])∧D5 w' r k g N cap q o (told+1) ws l∧AK (fun b=>b=r) W w':=by
 obtain⟨W1,B2⟩:∃W1,W1=W.alloc (.cells #[.int .i64 0,.int .i64 0,.int .i64 0,.int .i64 0,.int .i64 0] 63):=⟨_,rfl⟩
 have Aj:Below W.heap.size W W1:=by rw[B2];exact(Below.refl _ _).alloc (Nat.le_refl _) _
 have BS:Row W1 W.heap.size 63 [.int .i64 0,.int .i64 0,.int .i64 0,.int .i64 0,.int .i64 0]:=by rw[B2];exact heap_alloc_new _ _
 have ER:=Lib.hid B2
 have Kj:=Lib.hid Aj
 have Dr:=Lib.hid BS
 have h1:=h.below Aj
 have o7:=Lib.hid h1
 have Jv:Hid (r<W.heap.size∧g<W.heap.size):=⟨h.row.lt,h.words.lt⟩
 have HL:Hid (∀p,Calls Tryz.prog 111 #[.pointer (some ⟨r,0,none⟩)] (W1.drewN p) fun e w'=>e=.returned (.int .i64 q)∧∃d,w'=W1.drewN d):=fun p=>(Re (h1.below (AG (Below.refl _ _) p))).mono fun e w' ⟨he,d,hw⟩=>⟨he,p+d,by rw[hw,World.drewN_drewN]⟩
 have c7:W1.cell? ⟨r,7,none⟩=some (.int .i64 told):=h1.row.cell 7
 have g1:((told:Int)==(q:Int))=false:=by simp;omega
 have hq:told<1000000:=by have:=h.nn.2.2.2.2;omega
 have HTQ:=Lib.hid ht
 have bU:=Lib.hid XB
 clear h h1 Aj BS B2 ht XB
 go_enter Tryz.func161,Tryz.ntmps161
 go_upto_region 1 with(fail)
 rw[←ER.out]
 clear ER
 go_quiet (with_reducible exact HL.out _)
 have bW:Hid (Row (W1.drewN nq) W.heap.size 63 [.int .i64 0,.int .i64 0,.int .i64 0,.int .i64 0,.int .i64 0]):=Dr.out.drewN nq
 have Vv:Hid (Below W.heap.size W (W1.drewN nq)):=AG Kj.out nq
 have H4:Hid (D5 (W1.drewN nq) r k g N cap q o told ws l):=o7.out.below (AG (Below.refl _ _) nq)
 clear c7 HL Kj Dr o7
 generalize W1.drewN nq=W4 at*
 generalize hS:W.heap.size=s at*
 have nX:Hid (∀w9,Below W4.heap.size W4 w9→Calls Tryz.prog 163 #[.agg #[.int .i64 k,.slice (some ⟨g,0,none⟩) N cap],.int .i64 told] w9 fun e w'=>e=.returned (.agg #[.int .i64 (l.getD told AD).a,.int .i64 (l.getD told AD).b,.int .i64 (l.getD told AD).c,.int .i64 (l.getD told AD).d,.int .i64 (l.getD told AD).e])∧Below w9.heap.size w9 w'):=fun w9 hb=>(H4.out.below hb).get HTQ.out
 have HK:Hid (∀w9,Below W4.heap.size W4 w9→w9.cell? ⟨r,0,none⟩=some (.int .i64 k)∧w9.cell? ⟨r,1,none⟩=some (.slice (some ⟨g,0,none⟩) N cap)∧w9.cell? ⟨r,7,none⟩=some (.int .i64 told)):=fun w9 hb=>⟨(H4.out.row.below hb H4.out.row.lt).cell 0,(H4.out.row.below hb H4.out.row.lt).cell 1,(H4.out.row.below hb H4.out.row.lt).cell 7⟩
 have q1:=HK.out W4.drew (AH (Below.refl _ _))
 have c7:W4.cell? ⟨r,7,none⟩=some (.int .i64 told):=H4.out.row.cell 7
 generalize hT:l.getD told AD=t at*
 replace hT:=Lib.hid hT
 obtain⟨ta,tb,tc,td,te⟩:=t
 simp only at*
 have fK:Below W4.heap.size W4 (W4.alloc (.cells #[.int .i64 0,.int .i64 0,.int .i64 0,.int .i64 0,.int .i64 0] 63)):=(Below.refl _ _).alloc (Nat.le_refl _) _
 have q5:=HK.out (W4.alloc (.cells #[.int .i64 0,.int .i64 0,.int .i64 0,.int .i64 0,.int .i64 0] 63)) fK
 have q6:=HK.out (W4.alloc (.cells #[.int .i64 0,.int .i64 0,.int .i64 0,.int .i64 0,.int .i64 0] 63)).drew (AH fK)
 have HZ:Hid (∀w9,Below (W4.alloc (.cells #[.int .i64 0,.int .i64 0,.int .i64 0,.int .i64 0,.int .i64 0] 63)).heap.size (W4.alloc (.cells #[.int .i64 0,.int .i64 0,.int .i64 0,.int .i64 0,.int .i64 0] 63)) w9→Row w9 W4.heap.size 63 [.int .i64 0,.int .i64 0,.int .i64 0,.int .i64 0,.int .i64 0]):=fun w9 hb=>(show Row (W4.alloc (.cells #[.int .i64 0,.int .i64 0,.int .i64 0,.int .i64 0,.int .i64 0] 63)) W4.heap.size 63 [.int .i64 0,.int .i64 0,.int .i64 0,.int .i64 0,.int .i64 0]from heap_alloc_new _ _).below hb (by simp)
 go_upto_region 3 with(fail)
 go_cut [5]from 14 to 22 (fun s5 wx=>∃b:Nat,s5=.pointer (some ⟨b,0,none⟩)∧W4.heap.size≤b∧Hid (Row wx b 63 [.int .i64 ta,.int .i64 tb,.int .i64 tc,.int .i64 td,.int .i64 te])∧Hid (Below W4.heap.size W4 wx))
 case first=>
  go_region_held3 (fun w'=>w'.cell? ⟨r,0,none⟩=some (.int .i64 k)∧w'.cell? ⟨r,1,none⟩=some (.slice (some ⟨g,0,none⟩) N cap)∧w'.cell? ⟨r,7,none⟩=some (.int .i64 told)) (first|with_reducible exact q1|with_reducible exact q5|with_reducible exact q6|with_reducible exact q2|with_reducible exact q3|with_reducible exact q4)
   (first
    |(go_at_call 163;(with_reducible refine(nX.out _ (AH (Below.refl _ _))).mono ?_);rintro e w5 ⟨rfl,DS⟩;have Jd:Below W4.heap.size W4 w5:=(AH (Below.refl _ _)).trans DS;have q2:=HK.out w5 Jd;have q4:=HK.out (w5.alloc (.cells #[.int .i64 0,.int .i64 0,.int .i64 0,.int .i64 0,.int .i64 0] 63)) (Jd.alloc Jd.size _);have q3:=HK.out (w5.alloc (.cells #[.int .i64 ta,.int .i64 tb,.int .i64 tc,.int .i64 td,.int .i64 te] 63)) (Jd.alloc Jd.size _);have Es:Hid (W4.heap.size≤w5.heap.size∧Row (w5.alloc (.cells #[.int .i64 ta,.int .i64 tb,.int .i64 tc,.int .i64 td,.int .i64 te] 63)) w5.heap.size 63 [.int .i64 ta,.int .i64 tb,.int .i64 tc,.int .i64 td,.int .i64 te]∧Below W4.heap.size W4 (w5.alloc (.cells #[.int .i64 ta,.int .i64 tb,.int .i64 tc,.int .i64 td,.int .i64 te] 63))):=⟨Jd.size,heap_alloc_new _ _,Jd.alloc Jd.size _⟩)
    |(go_at_call 163;(with_reducible refine(nX.out _ (AH fK)).mono ?_);rintro e w5 ⟨rfl,DS⟩;have rL:Below (W4.alloc (.cells #[.int .i64 0,.int .i64 0,.int .i64 0,.int .i64 0,.int .i64 0] 63)).heap.size (W4.alloc (.cells #[.int .i64 0,.int .i64 0,.int .i64 0,.int .i64 0,.int .i64 0] 63)) w5:=(AH (Below.refl _ _)).trans DS;have Jd:Below W4.heap.size W4 w5:=fK.trans (rL.mono fK.size);have q2:=HK.out w5 Jd;have Zs:=HZ.out w5 rL;have z0:=Zs.cell 0;have z1:=Zs.cell 1;have z2:=Zs.cell 2;have z3:=Zs.cell 3;have z4:=Zs.cell 4;simp only[List.getElem?_cons_zero,List.getElem?_cons_succ]at z0 z1 z2 z3 z4;have f0:=Zs.free 0;have f1:=Zs.free 1;have f2:=Zs.free 2;have f3:=Zs.free 3;have f4:=Zs.free 4;have q4:=q2;have iZ:=Nk Jd (Nat.le_refl W4.heap.size) 0 (.int .i64 ta) (.int .i64 tb) (.int .i64 tc) (.int .i64 td) (.int .i64 te);have q3:=HK.out (((((w5.setCell ⟨W4.heap.size,0,none⟩ (.int .i64 ta)).setCell ⟨W4.heap.size,1,none⟩ (.int .i64 tb)).setCell ⟨W4.heap.size,2,none⟩ (.int .i64 tc)).setCell ⟨W4.heap.size,3,none⟩ (.int .i64 td)).setCell ⟨W4.heap.size,4,none⟩ (.int .i64 te)) iZ;have Es:Hid (W4.heap.size≤W4.heap.size∧Row (((((w5.setCell ⟨W4.heap.size,0,none⟩ (.int .i64 ta)).setCell ⟨W4.heap.size,1,none⟩ (.int .i64 tb)).setCell ⟨W4.heap.size,2,none⟩ (.int .i64 tc)).setCell ⟨W4.heap.size,3,none⟩ (.int .i64 td)).setCell ⟨W4.heap.size,4,none⟩ (.int .i64 te)) W4.heap.size 63 [.int .i64 ta,.int .i64 tb,.int .i64 tc,.int .i64 td,.int .i64 te]∧Below W4.heap.size W4 (((((w5.setCell ⟨W4.heap.size,0,none⟩ (.int .i64 ta)).setCell ⟨W4.heap.size,1,none⟩ (.int .i64 tb)).setCell ⟨W4.heap.size,2,none⟩ (.int .i64 tc)).setCell ⟨W4.heap.size,3,none⟩ (.int .i64 td)).setCell ⟨W4.heap.size,4,none⟩ (.int .i64 te))):=⟨Nat.le_refl _,((((Zs.set 0 (.int .i64 ta)).set 1 (.int .i64 tb)).set 2 (.int .i64 tc)).set 3 (.int .i64 td)).set 4 (.int .i64 te),iZ⟩))
  all_goals(go_wp2_with fail;go_meet;exact⟨_,rfl,Es.out.1,Es.out.2.1,Es.out.2.2⟩)
 case rest=>
  obtain⟨b,rfl,hWb,HRb,pG⟩:=hcut
  clear q1 q5 q6 fK HZ nX HK c7 g1
  have h6:=H4.out.below pG.out
  have AB6:=Jv.out
  have SE:s≤W4.heap.size:=by rw[←hS];exact Vv.out.size
  have wS:s<W4.heap.size:=bW.out.lt
  have hbr:b≠r:=by omega
  have XA:s≠r:=by omega
  have KI:g≠r:=fun e=>bU.out e.symm
  have c7:wc.cell? ⟨r,7,none⟩=some (.int .i64 told):=h6.row.cell 7
  have f7:=h6.row.free 7
  have K3:(FG k g N cap o told).set 7 (.int .i64 ((told:Int)+1))=FG k g N cap o (told+1):=rfl
  have FJ:=h6.row.set 7 (.int .i64 ((told:Int)+1))
  rw[K3]at FJ
  have H6:Hid (D5 (wc.setCell ⟨r,7,none⟩ (.int .i64 ((told:Int)+1))) r k g N cap q o (told+1) ws l):=⟨FJ,h6.words.CU (p:=⟨r,7,none⟩) KI _,h6.kk,h6.nn,h6.len,by have:=HTQ.out;omega,h6.flat,h6.fit⟩
  have Xq:=Lib.hid (HRb.out.CU (p:=⟨r,7,none⟩) hbr (.int .i64 ((told:Int)+1)))
  have L7:=Lib.hid ((bW.out.below pG.out wS).CU (p:=⟨r,7,none⟩) XA (.int .i64 ((told:Int)+1)))
  have gV:Hid (AK (fun b=>b=r) W (wc.setCell ⟨r,7,none⟩ (.int .i64 ((told:Int)+1)))):=by
   have h0:AK (fun b=>b=r) W wc:=AK.AJ (by rw[hS];exact Vv.out.trans (pG.out.mono SE)) _
   exact h0.set (p:=⟨r,7,none⟩) (.inl rfl) _
  clear h6 FJ K3
  go_upto_region 5 with(fail)
  generalize wc.setCell ⟨r,7,none⟩ (.int .i64 ((told:Int)+1))=W6 at*
  have d0:W6.cell? ⟨b,0,none⟩=some (.int .i64 ta):=Xq.out.cell 0
  have d1:W6.cell? ⟨b,1,none⟩=some (.int .i64 tb):=Xq.out.cell 1
  have d2:W6.cell? ⟨b,2,none⟩=some (.int .i64 tc):=Xq.out.cell 2
  have d3:W6.cell? ⟨b,3,none⟩=some (.int .i64 td):=Xq.out.cell 3
  have d4:W6.cell? ⟨b,4,none⟩=some (.int .i64 te):=Xq.out.cell 4
  have z0:W6.cell? ⟨s,0,none⟩=some (.int .i64 0):=L7.out.cell 0
  have z1:W6.cell? ⟨s,1,none⟩=some (.int .i64 0):=L7.out.cell 1
  have z2:W6.cell? ⟨s,2,none⟩=some (.int .i64 0):=L7.out.cell 2
  have z3:W6.cell? ⟨s,3,none⟩=some (.int .i64 0):=L7.out.cell 3
  have z4:W6.cell? ⟨s,4,none⟩=some (.int .i64 0):=L7.out.cell 4
  have f0:=L7.out.free 0
  have f1:=L7.out.free 1
  have f2:=L7.out.free 2
  have f3:=L7.out.free 3
  have f4:=L7.out.free 4
  have Dt:=Lib.hid (((((L7.out.set 0 (.int .i64 ta)).set 1 (.int .i64 tb)).set 2 (.int .i64 tc)).set 3 (.int .i64 td)).set 4 (.int .i64 te))
  have uz:Hid (D5 (((((W6.setCell ⟨s,0,none⟩ (.int .i64 ta)).setCell ⟨s,1,none⟩ (.int .i64 tb)).setCell ⟨s,2,none⟩ (.int .i64 tc)).setCell ⟨s,3,none⟩ (.int .i64 td)).setCell ⟨s,4,none⟩ (.int .i64 te)) r k g N cap q o (told+1) ws l):=by
   have e1:r≠s:=fun e=>XA e.symm
   have e2:g≠s:=by omega
   have h:=H6.out
   exact⟨((((h.row.CU (p:=⟨s,0,none⟩) e1 _).CU (p:=⟨s,1,none⟩) e1 _).CU (p:=⟨s,2,none⟩) e1 _).CU (p:=⟨s,3,none⟩) e1 _).CU (p:=⟨s,4,none⟩) e1 _,((((h.words.CU (p:=⟨s,0,none⟩) e2 _).CU (p:=⟨s,1,none⟩) e2 _).CU (p:=⟨s,2,none⟩) e2 _).CU (p:=⟨s,3,none⟩) e2 _).CU (p:=⟨s,4,none⟩) e2 _,h.kk,h.nn,h.len,h.tol,h.flat,h.fit⟩
  have Ki:Hid (AK (fun b=>b=r) W (((((W6.setCell ⟨s,0,none⟩ (.int .i64 ta)).setCell ⟨s,1,none⟩ (.int .i64 tb)).setCell ⟨s,2,none⟩ (.int .i64 tc)).setCell ⟨s,3,none⟩ (.int .i64 td)).setCell ⟨s,4,none⟩ (.int .i64 te))):=by
   have hn:∀j,(fun b=>b=r) (⟨s,j,none⟩:Addr).block∨W.heap.size≤(⟨s,j,none⟩:Addr).block:=fun j=>.inr (by rw[hS];exact Nat.le_refl _)
   exact((((gV.out.set (hn 0) _).set (hn 1) _).set (hn 2) _).set (hn 3) _).set (hn 4) _
  clear Xq L7
  go_wp2
  have q0:=Dt.out.cell 0
  have q1:=Dt.out.cell 1
  have q2:=Dt.out.cell 2
  have q3:=Dt.out.cell 3
  have q4:=Dt.out.cell 4
  simp only[List.getElem?_cons_zero,List.getElem?_cons_succ,List.set_cons_zero,List.set_cons_succ]at q0 q1 q2 q3 q4
  refine bodyPost_ret (v:=.tuple #[.agg #[.int .i64 ta,.int .i64 tb,.int .i64 tc,.int .i64 td,.int .i64 te],.bool true,.int .i64 0]) (by simp[results,Tryz.results161,go_sem,q0,q1,q2,q3,q4]) rfl ⟨by rw[hT.out],uz.out,Ki.out⟩
end
theorem Hi{k:Nat}(hk:k≤5):∀(l:List AB) (ws:List Nat),l.length*k≤ws.length→(∀p,p<l.length→(ws.drop (p*k)).take k=AY k (l.getD p AD))→ws.take (l.length*k)=BA k l
 |[],ws,_,_=>by simp[BA]
 |t::l,ws,hw,h=>by
  rw[List.length_cons,Nat.add_mul,Nat.one_mul]at hw
  have h0:=h 0 (by simp)
  rw[Nat.zero_mul,List.drop_zero]at h0
  have ih:=Hi hk l (ws.drop k) (by rw[List.length_drop];omega) fun p hp=>by
   have:=h (p+1) (by simpa using hp)
   rw[List.drop_drop,show k+p*k=(p+1)*k by rw[Nat.add_mul,Nat.one_mul];omega,this];rfl
  show ws.take ((l.length+1)*k)=AY k t++BA k l
  rw[←ih,show AY k t=ws.take k from h0.symm,Nat.add_mul,Nat.one_mul,Nat.add_comm,List.take_add]
theorem Py{ws Bt:List Nat}{a b k:Nat}(ha:a+k≤Bt.length)(hb:b+k≤ws.length)(h:∀c,c<k→Bt.getD (a+c) 0=ws.getD (b+c) 0):(Bt.drop a).take k=(ws.drop b).take k:=by
 refine List.ext_getElem (by rw[List.length_take,List.length_take,List.length_drop,List.length_drop];omega) fun c h1 h2=>?_
 rw[List.length_take,List.length_drop]at h1
 have:=h c (by omega)
 rw[List.getD_eq_getElem?_getD,List.getD_eq_getElem?_getD,List.getElem?_eq_getElem (show a+c<Bt.length by omega),List.getElem?_eq_getElem (show b+c<ws.length by omega)]at this
 rw[List.getElem_take,List.getElem_take,List.getElem_drop,List.getElem_drop]
 exact this
def OW(ws Bt:List Nat)(a b c:Nat):Prop:=Bt.length=ws.length∧∀p,Bt.getD p 0=if a≤p∧p<a+c then ws.getD (b+(p-a)) 0 else if b≤p∧p<b+c then ws.getD (a+(p-b)) 0 else ws.getD p 0
theorem TV(ws:List Nat)(a b:Nat):OW ws ws a b 0:=⟨rfl,fun p=>by rw[if_neg (by omega),if_neg (by omega)]⟩
theorem WE{ws Bt:List Nat}{a b c k:Nat}(h:OW ws Bt a b c)(hc:c<k)(hd:a+k≤b∨b+k≤a)(ha:a+k≤ws.length)(hb:b+k≤ws.length):OW ws ((Bt.set (a+c) (Bt.getD (b+c) 0)).set (b+c) (Bt.getD (a+c) 0)) a b (c+1):=by
 obtain⟨h1,h2⟩:=h
 refine⟨by rw[List.length_set,List.length_set,h1],fun p=>?_⟩
 rw[List.getD_eq_getElem?_getD,List.getElem?_set,List.getElem?_set,List.length_set]
 by_cases c1:b+c=p
 ·rw[if_pos c1,if_pos (by omega),Option.getD_some,h2,if_neg (by omega),if_neg (by omega),if_neg (by omega),if_pos (by omega),show p-b=c by omega]
 ·rw[if_neg c1]
  by_cases c2:a+c=p
  ·rw[if_pos c2,if_pos (by omega),Option.getD_some,h2,if_neg (by omega),if_neg (by omega),if_pos (by omega),show p-a=c by omega]
  ·rw[if_neg c2,←List.getD_eq_getElem?_getD,h2]
   by_cases c3:a≤p∧p<a+c
   ·rw[if_pos c3,if_pos (by omega)]
   ·rw[if_neg c3,if_neg (show ¬(a≤p∧p<a+(c+1))by omega)]
    by_cases c4:b≤p∧p<b+c
    ·rw[if_pos c4,if_pos (by omega)]
    ·rw[if_neg c4,if_neg (by omega)]
section
variable {W W' : World} {r k g N cap q told : Nat} {o : AB} {ws : List Nat} {l : List AB}
theorem Yh{ws Bt:List Nat}{i j:Nat}(hk:k≤5)(hl:l.length=q)(hw:q*k≤ws.length)(hf:ws.take (q*k)=BA k l)(hi:i<q)(hj:j<q)(Fa:i≠j)(h:OW ws Bt (i*k) (j*k) k):Bt.take (q*k)=BA k (swp AD l i j):=by
 obtain⟨h1,h2⟩:=h
 have hlen:(swp AD l i j).length=q:=B3.trans hl
 have hrow:∀p,p<q→(ws.drop (p*k)).take k=AY k (l.getD p AD):=fun p hp=>(KT hk rfl hl hf (getD_some (by omega))).2
 have hle:∀p,p<q→p*k+k≤q*k:=fun p hp=>by
  have:=Nat.mul_le_mul_right k (show p+1≤q from hp)
  rw[Nat.add_mul,Nat.one_mul]at this;exact this
 have Z2:∀p p',p≠p'→p*k+k≤p'*k∨p'*k+k≤p*k:=fun p p' hne=>by
  rcases Nat.lt_or_gt_of_ne hne with hlt|hlt
  ·left
   have:=Nat.mul_le_mul_right k (show p+1≤p' from hlt)
   rw[Nat.add_mul,Nat.one_mul]at this;exact this
  ·right
   have:=Nat.mul_le_mul_right k (show p'+1≤p from hlt)
   rw[Nat.add_mul,Nat.one_mul]at this;exact this
 have hres:=Hi hk (swp AD l i j) Bt (by rw[hlen,h1];exact hw) fun p hp=>by
  rw[hlen]at hp
  have hp1:=hle p hp
  rw[Bu (by omega) (by omega)]
  by_cases c1:p=j
  ·rw[if_pos c1,←hrow i hi]
   refine Py (by omega) (by have:=hle i hi;omega) fun c hc=>?_
   rw[h2,if_neg (by have:=Z2 i j Fa;rw[c1];omega),if_pos (by rw[c1];omega),show p*k+c-j*k=c by rw[c1];omega]
  ·rw[if_neg c1]
   by_cases c2:p=i
   ·rw[if_pos c2,←hrow j hj]
    refine Py (by omega) (by have:=hle j hj;omega) fun c hc=>?_
    rw[h2,if_pos (by rw[c2];omega),show p*k+c-i*k=c by rw[c2];omega]
   ·rw[if_neg c2,←hrow p hp]
    refine Py (by omega) (by omega) fun c hc=>?_
    rw[h2,if_neg (by have:=Z2 p i c2;omega),if_neg (by have:=Z2 p j c1;omega)]
 rw[hlen]at hres
 exact hres
theorem WV(h:D5 W r k g N cap q o told ws l){i j:Nat}(hi:i<q)(hj:j<q)(Fa:i≠j)(XB:r≠g):Calls Tryz.prog 162 #[.pointer (some ⟨r,0,none⟩),.int .i64 i,.int .i64 j] W fun e w'=>e=.returned (.tuple #[])∧(∃Bt,D5 w' r k g N cap q o told Bt (swp AD l i j))∧AK (fun b=>b=g) W w':=by
 have hle:∀p,p<q→p*k+k≤N:=fun p hp=>by
  have:=Nat.mul_le_mul_right k (show p+1≤q from hp)
  rw[Nat.add_mul,Nat.one_mul,←h.nn.1]at this;exact this
 have Z2:i*k+k≤j*k∨j*k+k≤i*k:=by
  rcases Nat.lt_or_gt_of_ne Fa with hlt|hlt
  ·left
   have:=Nat.mul_le_mul_right k (show i+1≤j from hlt)
   rw[Nat.add_mul,Nat.one_mul]at this;exact this
  ·right
   have:=Nat.mul_le_mul_right k (show j+1≤i from hlt)
   rw[Nat.add_mul,Nat.one_mul]at this;exact this
 obtain⟨n1,n2,n3,n4,n5⟩:=h.nn
 have hk:=h.kk
 have hia:=hle i hi
 have xJ:=hle j hj
 have Q1:Hid (∀d os,Calls Tryz.prog 127 #[.agg #[.int .i64 k,.slice (some ⟨g,0,none⟩) N cap],.int .i64 i] (Sort.grow (redrawn W d) os) fun e DG=>e=.returned (.slice (some ⟨g,i*k,none⟩) k (cap-i*k))∧∃p:Regrown,DG=Sort.grow (redrawn W p.d) p.os):=fun d os=>Calls.regrown_of (MF k i g N cap _ hk.1 hk.2 hia n2 n3)
 have Q2:Hid (∀d os,Calls Tryz.prog 127 #[.agg #[.int .i64 k,.slice (some ⟨g,0,none⟩) N cap],.int .i64 j] (Sort.grow (redrawn W d) os) fun e DG=>e=.returned (.slice (some ⟨g,j*k,none⟩) k (cap-j*k))∧∃p:Regrown,DG=Sort.grow (redrawn W p.d) p.os):=fun d os=>Calls.regrown_of (MF k j g N cap _ hk.1 hk.2 xJ n2 n3)
 have k0:∀d os,(Sort.grow (redrawn W d) os).cell? ⟨r,0,none⟩=some (.int .i64 k):=cell_regrown (h.row.cell 0)
 have k1:∀d os,(Sort.grow (redrawn W d) os).cell? ⟨r,1,none⟩=some (.slice (some ⟨g,0,none⟩) N cap):=cell_regrown (h.row.cell 1)
 have Aq:Hid (∀w9 Bt,AK (fun b=>b=g) W w9→Row w9 g 127 (Bt.map vw)→OW ws Bt (i*k) (j*k) k→D5 w9 r k g N cap q o told Bt (swp AD l i j)):=fun w9 Bt hf hr hs=>by
  refine⟨hf.row h.row fun e=>XB e,hr,hk,⟨n1,n2,n3,hs.1.trans n4,n5⟩,B3.trans h.len,h.tol,?_,fun u hu=>?_⟩
  ·rw[n1];exact Yh hk.2 h.len (by omega) (by rw[←n1];exact h.flat) hi hj Fa hs
  ·obtain⟨p,hp,rfl⟩:=List.getElem_of_mem hu
   rw[B3,h.len]at hp
   rw[←B6 (by rw[B3,h.len];exact hp),Bu (by rw[h.len];exact hi) (by rw[h.len];exact hj)]
   have hfit:∀p,p<q→CQ (l.getD p AD)∧Ac k (l.getD p AD)=true:=fun p hp=>h.fit _ (Iz (by rw[h.len];exact hp))
   split
   ·exact hfit i hi
   ·split
    ·exact hfit j hj
    ·exact hfit p hp
 have HW:=Lib.hid h.words
 have Ns:Hid (∀Bt c,OW ws Bt (i*k) (j*k) c→c<k→OW ws ((Bt.set (i*k+c) (Bt.getD (j*k+c) 0)).set (j*k+c) (Bt.getD (i*k+c) 0)) (i*k) (j*k) (c+1)∧i*k+c<Bt.length∧j*k+c<Bt.length):=fun Bt c h1 h2=>⟨WE h1 h2 Z2 (by omega) (by omega),by rw[h1.1];omega,by rw[h1.1];omega⟩
 have Ea:Hid (OW ws ws (i*k) (j*k) 0):=TV _ _ _
 have cn:Hid (∀c,c<k→i*k+c≠j*k+c):=fun c hc=>by omega
 clear h hle hi hj XB n1 n4
 generalize i*k=a at*
 generalize j*k=b at*
 generalize jC:(fun(e:Ending) (w':World)=>e=.returned (.tuple #[])∧(∃Bt,D5 w' r k g N cap q o told Bt (swp AD l i j))∧AK (fun b=>b=g) W w')=EO
 have HP:Hid (∀w9 Bt,AK (fun b=>b=g) W w9→Row w9 g 127 (Bt.map vw)→OW ws Bt a b k→EO (.returned (.tuple #[])) w9):=fun w9 Bt h1 h2 h3=>by rw[←jC];exact⟨rfl,⟨Bt,Aq.out w9 Bt h1 h2 h3⟩,h1⟩
 clear jC Aq
 go_enter Tryz.func162,Tryz.ntmps162
 go_wp2
 refine wp_region_quiet_below (by kernel_rfl) (by kernel_rfl) ?_
 repeat(any_goals(first|go_big_quiet_step (with_reducible first|exact Q1.out _ _|exact Q2.out _ _)|quiet_step (with_reducible first|exact Q1.out _ _|exact Q2.out _ _)))
 refine wpQuiet_nil ?_
 intro w5 EU
 obtain⟨⟨dq,osq⟩,EU⟩:=EU
 have Bm:=below_regrown W dq osq
 rw[←EU]at Bm
 have nZ:Hid (AK (fun b=>b=g) W w5):=AK.AJ Bm _
 have sy:Hid (Row w5 g 127 (ws.map vw)):=HW.out.below Bm HW.out.lt
 clear EU Bm k0 k1 Q1 Q2 HW
 go_wp2
 go_loopw [8,23] (fun _ iv wr=>∃(c:Nat) (Bt:List Nat),c≤k∧iv=.int .i64 (c:Int)∧Hid (AK (fun b=>b=g) W wr)∧Hid (Row wr g 127 (Bt.map vw))∧Hid (OW ws Bt a b c)) (fun _ iv _=>k-(intOf iv).toNat)
 case atStart=>exact⟨0,ws,Nat.zero_le _,rfl,nZ.out,sy.out,Ea.out⟩
 case round=>
  obtain⟨c,Bt,hc,rfl,HF,HG,HS⟩:=hrel
  by_cases hlt:c<k
  ·obtain⟨EP,EB,NF⟩:=Ns.out Bt c HS.out hlt
   have hne:=cn.out c hlt
   have c0:wr.cell? ⟨g,a+c,none⟩=some (.int .u64 (Bt.getD (a+c) 0:Nat)):=by rw[HG.out.cell (a+c)];exact IS EB
   have c1:wr.cell? ⟨g,b+c,none⟩=some (.int .u64 (Bt.getD (b+c) 0:Nat)):=by rw[HG.out.cell (b+c)];exact IS NF
   have f0:=HG.out.free (a+c)
   have f1:=HG.out.free (b+c)
   have uj:=Lib.hid EP
   have HG9:Hid (Row ((wr.setCell ⟨g,a+c,none⟩ (.int .u64 (Bt.getD (b+c) 0:Nat))).setCell ⟨g,b+c,none⟩ (.int .u64 (Bt.getD (a+c) 0:Nat))) g 127 (((Bt.set (a+c) (Bt.getD (b+c) 0)).set (b+c) (Bt.getD (a+c) 0)).map vw)):=by
    unfold Hid;rw[List.map_set,List.map_set];exact(HG.out.set (a+c) _).set (b+c) _
   have Ki:Hid (AK (fun b=>b=g) W ((wr.setCell ⟨g,a+c,none⟩ (.int .u64 (Bt.getD (b+c) 0:Nat))).setCell ⟨g,b+c,none⟩ (.int .u64 (Bt.getD (a+c) 0:Nat)))):=(HF.out.set (p:=⟨g,a+c,none⟩) (.inl rfl) _).set (p:=⟨g,b+c,none⟩) (.inl rfl) _
   have j0:(0:Int)≤(c:Int):=by omega
   have j1:(c:Int)<(k:Int):=by omega
   clear EP EB NF
   generalize Bt.getD (a+c) 0=xa at*
   generalize Bt.getD (b+c) 0=xb at*
   go_wp2
   go_region
   have HG8:=Lib.hid (HG9.out.drewN 1)
   have YJ:=Lib.hid Ki.out.drew
   clear HG9 Ki HF HG c0 c1 f0 f1
   go_wp2
   go_roundw
   case rel=>exact⟨c+1,_,by omega,by go_num,YJ.out,HG8.out,uj.out⟩
   case measure=>simp[intOf];omega
  ·obtain rfl:c=k:=by omega
   have H9:=Lib.hid (HP.out wr Bt HF.out HG.out HS.out)
   go_wp2
   go_end0
   exact H9.out
end
def EJ(l:List AB)(a m b:Nat):List AB:=l.take a++((l.drop m).take (b-m)++((l.drop a).take (m-a)++l.drop b))
section
variable {o : AB} {l l' : List AB} {a b m i j k n : Nat}
theorem El(h1:a≤m)(h2:m≤b)(h3:b≤l.length):(EJ l a m b).length=l.length:=by
 unfold EJ
 rw[List.length_append,List.length_append,List.length_append,List.length_take,List.length_take,List.length_take,List.length_drop,List.length_drop,List.length_drop];omega
theorem K7{l m:List AB}{i:Nat}(h:i<l.length):(l++m).getD i AD=l.getD i AD:=by
 rw[List.getD_eq_getElem?_getD,List.getD_eq_getElem?_getD,List.getElem?_append_left h]
theorem Je{l m:List AB}{i:Nat}(h:l.length≤i):(l++m).getD i AD=m.getD (i-l.length) AD:=by
 rw[List.getD_eq_getElem?_getD,List.getD_eq_getElem?_getD,List.getElem?_append_right h]
theorem He(h1:a≤m)(h2:m≤b)(h3:b≤l.length)(i:Nat):(EJ l a m b).getD i AD=if i<a then l.getD i AD else if i<a+(b-m)then l.getD (i+(m-a)) AD else if i<b then l.getD (i-(b-m)) AD else l.getD i AD:=by
 unfold EJ
 have l1:(l.take a).length=a:=by rw[List.length_take];omega
 have l2:((l.drop m).take (b-m)).length=b-m:=by rw[List.length_take,List.length_drop];omega
 have l3:((l.drop a).take (m-a)).length=m-a:=by rw[List.length_take,List.length_drop];omega
 by_cases c1:i<a
 ·rw[if_pos c1,K7 (by omega),Da c1]
 ·rw[if_neg c1,Je (by omega),l1]
  by_cases c2:i<a+(b-m)
  ·rw[if_pos c2,K7 (by omega),Da (by omega),Db,show m+(i-a)=i+(m-a)by omega]
  ·rw[if_neg c2,Je (by omega),l2]
   by_cases c3:i<b
   ·rw[if_pos c3,K7 (by omega),Da (by omega),Db,show a+(i-a-(b-m))=i-(b-m)by omega]
   ·rw[if_neg c3,Je (by omega),l3,Db,show b+(i-a-(b-m)-(m-a))=i by omega]
theorem Y8(h:m≤b):EJ l m m b=l:=by
 unfold EJ
 rw[Nat.sub_self,List.take_zero,List.nil_append]
 conv=>rhs;rw[←List.take_append_drop m l,←List.take_append_drop (b-m) (l.drop m),List.drop_drop,show m+(b-m)=b by omega]
theorem Y7(h:a≤m):EJ l a m m=l:=by
 unfold EJ
 rw[Nat.sub_self,List.take_zero,List.nil_append]
 conv=>rhs;rw[←List.take_append_drop a l,←List.take_append_drop (m-a) (l.drop a),List.drop_drop,show a+(m-a)=m by omega]
theorem U3{x:AB}(h:x∈(l.drop a).take (b-a))(hb:b≤l.length):∃i,a≤i∧i<b∧l.getD i AD=x:=by
 obtain⟨j,hj,e⟩:=List.getElem_of_mem h
 rw[List.length_take,List.length_drop]at hj
 refine⟨a+j,by omega,by omega,?_⟩
 rw[←e,←B6,Da (by omega),Db]
theorem kL(h1:a≤m)(h2:m≤b)(h3:b≤l.length)(h:∀i j,a≤i→i<m→m≤j→j<b→AN o (l.getD j AD) (l.getD i AD)<0):Ch o a b l (EJ l a m b):=by
 refine⟨El h1 h2 h3,fun i hi=>?_,?_⟩
 ·rw[He h1 h2 h3]
  by_cases c1:i<a
  ·rw[if_pos c1]
  ·rw[if_neg c1,if_neg (by omega),if_neg (by omega)]
 ·have d1:l=l.take a++(((l.drop a).take (m-a)++(l.drop m).take (b-m))++l.drop b):=by
   conv=>lhs;rw[←List.take_append_drop a l,←List.take_append_drop (m-a) (l.drop a),List.drop_drop,show a+(m-a)=m by omega,←List.take_append_drop (b-m) (l.drop m),List.drop_drop,show m+(b-m)=b by omega]
   rw[List.append_assoc]
  unfold EJ
  conv=>arg 2;rw[d1]
  rw[←List.append_assoc ((l.drop m).take (b-m))]
  refine(Cl.refl o _).append ((Cl.swap fun u hu v hv=>?_).append (Cl.refl o _))
  obtain⟨i,i1,i2,rfl⟩:=U3 hu (by omega)
  obtain⟨j,j1,j2,rfl⟩:=U3 hv h3
  have:=h i j i1 i2 j1 j2;omega
def WD(l:List AB)(a b n:Nat):Nat→AB:=fun i=>if a≤i∧i<a+n then l.getD (i+(b-a)) AD else if b≤i∧i<b+n then l.getD (i-(b-a)) AD else l.getD i AD
def Im(l l':List AB)(a b k:Nat):Prop:=l'.length=l.length∧∀i,l'.getD i AD=WD l a b k i
theorem WC(l:List AB)(a b:Nat):Im l l a b 0:=⟨rfl,fun i=>by unfold WD;rw[if_neg (by omega),if_neg (by omega)]⟩
theorem Yf(h:Im l l' a b k)(YC:a+n≤b)(hb:b+n≤l.length)(hk:k<n):Im l (swp AD l' (a+k) (b+k)) a b (k+1):=by
 obtain⟨h1,h2⟩:=h
 refine⟨B3.trans h1,fun i=>?_⟩
 rw[Bu (by omega) (by omega),h2,h2,h2]
 unfold WD
 by_cases c1:i=b+k
 ·rw[if_pos c1,if_neg (by omega),if_neg (by omega),if_neg (by omega),if_pos (by omega),c1,show b+k-(b-a)=a+k by omega]
 ·rw[if_neg c1]
  by_cases c2:i=a+k
  ·rw[if_pos c2,if_neg (by omega),if_neg (by omega),if_pos (by omega),c2,show a+k+(b-a)=b+k by omega]
  ·rw[if_neg c2]
   by_cases c3:a≤i∧i<a+k
   ·rw[if_pos c3,if_pos (by omega)]
   ·rw[if_neg c3,if_neg (show ¬(a≤i∧i<a+(k+1))by omega)]
    by_cases c4:b≤i∧i<b+k
    ·rw[if_pos c4,if_pos (by omega)]
    ·rw[if_neg c4,if_neg (by omega)]
def JL(l0 l:List AB)(a m b i j:Nat):Prop:=l.length=l0.length∧a+i≤m∧m+j≤b∧EJ l (m-i) m (m+j)=EJ l0 a m b
theorem Rb(h1:a≤m)(h2:m≤b):JL l l a m b (m-a) (b-m):=⟨rfl,by omega,by omega,by rw[show m-(m-a)=a by omega,show m+(b-m)=b by omega]⟩
theorem ZA{l0:List AB}(h:JL l0 l a m b i j)(hb:b≤l0.length)(Fa:j<i)(hs:Im l l' (m-i) m j):JL l0 l' a m b (i-j) j:=by
 obtain⟨h1,h2,h3,h4⟩:=h
 obtain⟨s1,s2⟩:=hs
 refine⟨s1.trans h1,by omega,h3,?_⟩
 rw[←h4]
 refine ext_get (by rw[El (by omega) (by omega) (by omega),El (by omega) (by omega) (by omega),s1]) fun q hq=>?_
 rw[El (by omega) (by omega) (by omega)]at hq
 rw[He (by omega) (by omega) (by omega),He (by omega) (by omega) (by omega),s2,s2,s2]
 unfold WD
 by_cases c1:q<m-i
 ·rw[if_pos (show q<m-(i-j)by omega),if_pos c1,if_neg (by omega),if_neg (by omega)]
 ·rw[if_neg c1]
  by_cases c2:q<m-i+(m+j-m)
  ·rw[if_pos (show q<m-(i-j)by omega),if_pos c2,if_pos (by omega),show q+(m-(m-i))=q+(m-(m-i))from rfl]
  ·rw[if_neg c2,if_neg (show ¬q<m-(i-j)by omega)]
   by_cases c3:q<m-(i-j)+(m+j-m)
   ·rw[if_pos c3,if_neg (by omega),if_pos (by omega),if_pos (by omega)]
    congr 1;omega
   ·rw[if_neg c3]
    by_cases c4:q<m+j
    ·rw[if_pos c4,if_pos c4,if_neg (by omega),if_neg (by omega)]
    ·rw[if_neg c4,if_neg c4,if_neg (by omega),if_neg (by omega)]
theorem Y9{l0:List AB}(h:JL l0 l a m b i j)(hb:b≤l0.length)(Fa:i<j)(hs:Im l l' (m-i) (m+j-i) i):JL l0 l' a m b i (j-i):=by
 obtain⟨h1,h2,h3,h4⟩:=h
 obtain⟨s1,s2⟩:=hs
 refine⟨s1.trans h1,h2,by omega,?_⟩
 rw[←h4]
 refine ext_get (by rw[El (by omega) (by omega) (by omega),El (by omega) (by omega) (by omega),s1]) fun q hq=>?_
 rw[El (by omega) (by omega) (by omega)]at hq
 rw[He (by omega) (by omega) (by omega),He (by omega) (by omega) (by omega),s2,s2,s2]
 unfold WD
 by_cases c1:q<m-i
 ·rw[if_pos c1,if_pos c1,if_neg (by omega),if_neg (by omega)]
 ·rw[if_neg c1,if_neg c1]
  by_cases c2:q<m-i+(m+(j-i)-m)
  ·rw[if_pos c2,if_neg (by omega),if_neg (by omega),if_pos (by omega)]
  ·rw[if_neg c2]
   by_cases c3:q<m+(j-i)
   ·rw[if_pos c3,if_pos (by omega),if_pos (by omega)]
    congr 1;omega
   ·rw[if_neg c3]
    by_cases c4:q<m+j
    ·rw[if_neg (by omega),if_pos (by omega),if_neg (by omega),if_pos c4]
     congr 1;omega
    ·rw[if_neg (by omega),if_neg (by omega),if_neg (by omega),if_neg c4]
theorem WW{l0:List AB}(h:JL l0 l a m b i i)(hb:b≤l0.length)(hs:Im l l' (m-i) m i):l'=EJ l0 a m b:=by
 obtain⟨h1,h2,h3,h4⟩:=h
 obtain⟨s1,s2⟩:=hs
 rw[←h4]
 refine ext_get (by rw[El (by omega) (by omega) (by omega),s1]) fun q hq=>?_
 rw[He (by omega) (by omega) (by omega),s2]
 unfold WD
 by_cases c1:q<m-i
 ·rw[if_pos c1,if_neg (by omega),if_neg (by omega)]
 ·rw[if_neg c1]
  by_cases c2:q<m-i+(m+i-m)
  ·rw[if_pos c2,if_pos (by omega)]
  ·rw[if_neg c2,if_neg (by omega)]
   by_cases c3:q<m+i
   ·rw[if_pos c3,if_pos (by omega)]
    congr 1;omega
   ·rw[if_neg c3,if_neg (by omega)]
theorem Wo{s e mid:Nat}(has:a≤s)(wP:s≤m)(oN:m≤e)(heb:e≤b)(hb:b≤l.length)(Du:mid=s+(e-m))(h1:Bh o l a m)(h2:Bh o l m b)
  (hAD:a<s→e<b→AN o (l.getD (s-1) AD) (l.getD e AD)≤0) (hCB:s<m→m<e→AN o (l.getD (e-1) AD) (l.getD s AD)<0):
  Ch o a b l (EJ l s m e)∧Bh o (EJ l s m e) a s∧Bh o (EJ l s m e) s mid∧Bh o (EJ l s m e) mid e∧Bh o (EJ l s m e) e b∧∀p q,a≤p→p<mid→mid≤q→q<b→AN o ((EJ l s m e).getD p AD) ((EJ l s m e).getD q AD)≤0:=by
 have hg:=He (l:=l) wP oN (by omega)
 have VT:∀i j,s≤i→i<m→m≤j→j<e→AN o (l.getD j AD) (l.getD i AD)<0:=fun i j i1 i2 j1 j2=>by
  have k1:=h2.le j1 (show j≤e-1 by omega) (show e-1<b by omega)
  have k2:=h1.le has i1 i2
  exact Gk (Gl k1 (hCB (by omega) (by omega))) k2
 refine⟨(kL wP oN (by omega) VT).mono has heb,fun i i1 i2=>?_,fun i i1 i2=>?_,fun i i1 i2=>?_,fun i i1 i2=>?_,fun p q p1 p2 q1 q2=>?_⟩
 ·rw[hg,hg,if_pos (show i<s by omega),if_pos (show i+1<s by omega)]
  exact h1 i i1 (by omega)
 ·rw[hg,hg,if_neg (show ¬i<s by omega),if_neg (show ¬i+1<s by omega),if_pos (show i<s+(e-m)by omega),if_pos (show i+1<s+(e-m)by omega),show i+1+(m-s)=i+(m-s)+1 by omega]
  exact h2 _ (by omega) (by omega)
 ·rw[hg,hg,if_neg (show ¬i<s by omega),if_neg (show ¬i+1<s by omega),if_neg (show ¬i<s+(e-m)by omega),if_neg (show ¬i+1<s+(e-m)by omega),if_pos (show i<e by omega),if_pos (show i+1<e by omega),show i+1-(e-m)=i-(e-m)+1 by omega]
  exact h1 _ (by omega) (by omega)
 ·rw[hg,hg,if_neg (show ¬i<s by omega),if_neg (show ¬i+1<s by omega),if_neg (show ¬i<s+(e-m)by omega),if_neg (show ¬i+1<s+(e-m)by omega),if_neg (show ¬i<e by omega),if_neg (show ¬i+1<e by omega)]
  exact h2 _ (by omega) (by omega)
 ·rw[hg,hg,if_neg (show ¬q<s by omega),if_neg (show ¬q<s+(e-m)by omega)]
  by_cases c1:p<s
  ·rw[if_pos c1]
   by_cases c2:q<e
   ·rw[if_pos c2];exact h1.le p1 (by omega) (by omega)
   ·rw[if_neg c2]
    exact Bz (h1.le p1 (show p≤s-1 by omega) (by omega)) (Bz (hAD (by omega) (by omega)) (h2.le oN (show e≤q by omega) q2))
  ·rw[if_neg c1,if_pos (show p<s+(e-m)by omega)]
   by_cases c2:q<e
   ·rw[if_pos c2]
    have:=VT (q-(e-m)) (p+(m-s)) (by omega) (by omega) (by omega) (by omega);omega
   ·rw[if_neg c2];exact h2.le (by omega) (by omega) q2
theorem Tr{l1 l2 l3:List AB}{mid:Nat}(mB:a≤mid)(Qx:mid≤b)(hb:b≤l1.length)(hx:∀p q,a≤p→p<mid→mid≤q→q<b→AN o (l1.getD p AD) (l1.getD q AD)≤0)(c1:Ch o a mid l1 l2)(s1:Bh o l2 a mid)(c2:Ch o mid b l2 l3)(s2:Bh o l3 mid b):Ch o a b l1 l3∧Bh o l3 a b:=by
 refine⟨(c1.mono (Nat.le_refl _) Qx).trans (c2.mono mB (Nat.le_refl _)),fun i i1 i2=>?_⟩
 by_cases h1:i+1<mid
 ·rw[c2.out i (by omega),c2.out (i+1) (by omega)];exact s1 i i1 h1
 ·by_cases h2:mid≤i
  ·exact s2 i h2 i2
  ·obtain⟨p,p1,p2,p3⟩:=c1.oE mB (by omega) (i:=i) i1 (by omega)
   obtain⟨q,q1,q2,q3⟩:=c2.oE Qx (by rw[c1.len];exact hb) (i:=i+1) (by omega) i2
   rw[c2.out i (by omega),←p3,←q3,c1.out q (by omega)]
   exact hx p q p1 p2 q1 q2
def Js(o:AB)(l:List AB)(s a b:Nat):Prop:=∀i,a≤i→i+1<b→(i+1)%s≠0→AN o (l.getD i AD) (l.getD (i+1) AD)≤0
end
structure JK (r n:Nat) (o:AB) (R:List AB→World→Prop):Prop where
 len:∀l W,R l W→l.length=n
 less:∀l W,R l W→∀i j:Nat,i<n→j<n→Calls Tryz.prog 160 #[.pointer (some ⟨r,0,none⟩),.int .i64 i,.int .i64 j] W fun e w'=>e=.returned (.bool (decide (AN o (l.getD i AD) (l.getD j AD)<0)))∧R l w'
 swap:∀l W,R l W→∀i j:Nat,i<n→j<n→i≠j→Calls Tryz.prog 162 #[.pointer (some ⟨r,0,none⟩),.int .i64 i,.int .i64 j] W fun e w'=>e=.returned (.tuple #[])∧R (swp AD l i j) w'
theorem J5(r:Nat)(w:World):Sem.run Tryz.prog (method 335 157 (.pointer (some ⟨r,0,none⟩)) "Less") w=.ok (160,.pointer (some ⟨r,0,none⟩)) w:=by kernel_rfl
theorem J4(r:Nat)(w:World):Sem.run Tryz.prog (method 335 157 (.pointer (some ⟨r,0,none⟩)) "Swap") w=.ok (162,.pointer (some ⟨r,0,none⟩)) w:=by kernel_rfl
theorem dn(r:Nat)(w:World):Sem.run Tryz.prog (method 335 157 (.pointer (some ⟨r,0,none⟩)) "Len") w=.ok (111,.pointer (some ⟨r,0,none⟩)) w:=by kernel_rfl
section
variable {r n : Nat} {o : AB} {R : List AB → World → Prop} {l : List AB} {W : World}
theorem VE(C:JK r n o R)(hn:n≤100000)(a b:Nat)(YC:a≤b)(hb:b≤n)(h:R l W):
  Calls Tryz.prog 128 #[.iface 157 (.pointer (some ⟨r,0,none⟩)),.int .i64 a,.int .i64 b] W fun e w'=>e=.returned (.tuple #[])∧∃l',R l' w'∧Ch o a b l l'∧Bh o l' a b:=by
 have mL:=J5 r
 have mS:=J4 r
 have HC:=Lib.hid C
 have H:=Lib.hid h
 clear h C
 go_enter Tryz.func128,Tryz.ntmps128
 go_wp2
 go_loopw [6] (fun vi wr=>∃(i:Nat) (lk:List AB),vi=.int .i64 (i:Int)∧a<i∧i≤b+1∧Hid (R lk wr)∧Hid (Ch o a b l lk)∧Hid (Bh o lk a i)) (fun vi _=>b+1-(intOf vi).toNat)
 case atStart=>exact⟨a+1,l,by go_num,by omega,by omega,H.out,Ch.refl _ _ _ _,fun i i1 i2=>by omega⟩
 case round=>
  obtain⟨i,lk,rfl,hai,hib,HR,gY,HA⟩:=hrel
  have hlk:=HC.out.len _ _ HR.out
  by_cases hlt:i<b
  ·go_wp2
   go_loopw [7] (fun vj cy=>∃(j:Nat) (lj:List AB),vj=.int .i64 (j:Int)∧a≤j∧j≤i∧Hid (R lj cy)∧Hid (Ch o a (i+1) lk lj)∧Hid (sF o lj a i j)) (fun vj _=>(intOf vj).toNat)
   case atStart=>exact⟨i,lk,rfl,by omega,Nat.le_refl _,HR.out,Ch.refl _ _ _ _,Wz HA.out⟩
   case round=>
    obtain⟨j,lj,rfl,haj,xH,nE,pF,HI⟩:=hrel
    have hlj:=HC.out.len _ _ nE.out
    have OUT:(j=a∨¬AN o (lj.getD j AD) (lj.getD (j-1) AD)<0)→∀w9,R lj w9→∃(i':Nat) (vZ:List AB),Value.int .i64 ((i:Int)+1)=.int .i64 (i':Int)∧a<i'∧i'≤b+1∧Hid (R vZ w9)∧Hid (Ch o a b l vZ)∧Hid (Bh o vZ a i'):=fun hs w9 h9=>
     ⟨i+1,lj,by go_num,by omega,by omega,h9,gY.out.trans (pF.out.mono (Nat.le_refl _) (by omega)),Zk HI.out xH hs⟩
    have se:=Lib.hid OUT
    clear OUT
    by_cases xJ:a<j
    ·have hl:=HC.out.less _ _ nE.out j (j-1) (by omega) (by omega)
     rw[show ((j-1:Nat):Int)=(j:Int)-1 by omega]at hl
     have HL:=Lib.hid hl
     clear hl
     by_cases KG:AN o (lj.getD j AD) (lj.getD (j-1) AD)<0
     ·have HS:Hid (∀w9,R lj w9→Calls Tryz.prog 162 #[.pointer (some ⟨r,0,none⟩),.int .i64 j,.int .i64 ((j:Int)-1)] w9 fun e w'=>e=.returned (.tuple #[])∧R (swp AD lj j (j-1)) w'):=fun w9 h9=>by
       have:=HC.out.swap _ _ h9 j (j-1) (by omega) (by omega) (by omega)
       rwa [show ((j-1:Nat):Int)=(j:Int)-1 by omega]at this
      have Ea:=Lib.hid (Zl HI.out xJ xH (by omega) KG)
      have g1:=decide_eq_true KG
      go_wp2_with fail
      refine HL.out.mono ?_
      rintro e w1 ⟨rfl,h1⟩
      rw[g1]
      have H1:=Lib.hid h1
      clear h1
      go_wp2_with fail
      refine(HS.out _ H1.out).mono ?_
      rintro e w2 ⟨rfl,h2⟩
      have H2:=Lib.hid h2
      clear h2
      go_wp2
      go_roundw
      case rel=>
       exact⟨j-1,_,by congr 1;omega,by omega,by omega,H2.out,pF.out.trans Ea.out.2,Ea.out.1⟩
      case measure=>simp[intOf];omega
     ·have g1:=decide_eq_false KG
      go_wp2_with fail
      refine HL.out.mono ?_
      rintro e w1 ⟨rfl,h1⟩
      rw[g1]
      have H1:=Lib.hid (se.out (.inr KG) _ h1)
      clear h1
      go_wp2
      go_roundw
      case rel=>exact H1.out
      case measure=>simp[intOf];omega
    ·have H1:=Lib.hid (se.out (.inl (by omega)) _ nE.out)
     go_wp2
     go_roundw
     case rel=>exact H1.out
     case measure=>simp[intOf];omega
  ·go_wp2
   go_end0
   exact⟨rfl,lk,HR.out,gY.out,fun p p1 p2=>HA.out p p1 (by omega)⟩
end
section
variable {r n : Nat} {o : AB} {R : List AB → World → Prop} {l : List AB} {W : World}
theorem Pp(C:JK r n o R)(hn:n≤100000)(a b k:Nat)(YC:a+k≤b)(hb:b+k≤n)(h:R l W):
  Calls Tryz.prog 140 #[.iface 157 (.pointer (some ⟨r,0,none⟩)),.int .i64 a,.int .i64 b,.int .i64 k] W fun e w'=>e=.returned (.tuple #[])∧∃l',R l' w'∧Im l l' a b k:=by
 have mS:=J4 r
 have HC:=Lib.hid C
 have H:=Lib.hid h
 clear h C
 go_enter Tryz.func140,Tryz.ntmps140
 go_wp2
 go_loopw [8] (fun vi wr=>∃(i:Nat) (lk:List AB),vi=.int .i64 (i:Int)∧i≤k∧Hid (R lk wr)∧Hid (Im l lk a b i)) (fun vi _=>k-(intOf vi).toNat)
 case atStart=>exact⟨0,l,rfl,by omega,H.out,WC _ _ _⟩
 case round=>
  obtain⟨i,lk,rfl,UB,HR,HS⟩:=hrel
  by_cases hlt:i<k
  ·have Jc:=HC.out.len _ _ H.out
   have hl:=HC.out.swap _ _ HR.out (a+i) (b+i) (by omega) (by omega) (by omega)
   rw[Int.natCast_add,Int.natCast_add]at hl
   have HL:=Lib.hid hl
   have HT:=Lib.hid (Yf HS.out YC (by omega) hlt)
   clear hl
   go_wp2_with fail
   refine HL.out.mono ?_
   rintro e w1 ⟨rfl,h1⟩
   have H1:=Lib.hid h1
   clear h1
   go_wp2
   go_roundw
   case rel=>exact⟨i+1,_,by go_num,by omega,H1.out,HT.out⟩
   case measure=>simp[intOf];omega
  ·have xM:i=k:=by omega
   subst xM
   go_wp2
   go_end0
   exact⟨rfl,lk,HR.out,HS.out⟩
theorem dx(C:JK r n o R)(hn:n≤100000)(a m b:Nat)(mB:a<m)(Qx:m<b)(hb:b≤n)(h:R l W):
  Calls Tryz.prog 136 #[.iface 157 (.pointer (some ⟨r,0,none⟩)),.int .i64 a,.int .i64 m,.int .i64 b] W fun e w'=>e=.returned (.tuple #[])∧R (EJ l a m b) w':=by
 have HC:=Lib.hid C
 have H:=Lib.hid h
 have OF:=Lib.hid (C.len _ _ h)
 obtain⟨i0,CA⟩:∃i0:Nat,i0=m-a:=⟨_,rfl⟩
 obtain⟨j0,NK⟩:∃j0:Nat,j0=b-m:=⟨_,rfl⟩
 have s1:(m:Int)-(a:Int)=(i0:Int):=by omega
 have s2:(b:Int)-(m:Int)=(j0:Int):=by omega
 have Ea:Hid (JL l l a m b i0 j0):=by rw[CA,NK];exact Rb (by omega) (by omega)
 have hp:0<i0∧0<j0:=by omega
 clear CA NK h C
 go_enter Tryz.func136,Tryz.ntmps136
 go_wp2
 go_loopw [8,9] (fun vi vj wr=>∃(i j:Nat) (lk:List AB),vi=.int .i64 (i:Int)∧vj=.int .i64 (j:Int)∧0<i∧0<j∧Hid (R lk wr)∧Hid (JL l lk a m b i j)) (fun vi vj _=>(intOf vi).toNat+(intOf vj).toNat)
 case atStart=>exact⟨i0,j0,l,rfl,rfl,hp.1,hp.2,H.out,Ea.out⟩
 case round=>
  clear s1 s2 hp Ea
  obtain⟨i,j,lk,rfl,rfl,hi,hj,HR,HS⟩:=hrel
  have Z9:a+i≤m:=HS.out.2.1
  have VI:m+j≤b:=HS.out.2.2.1
  have HQ:=Lib.hid (And.intro Z9 VI)
  obtain⟨x,hx⟩:∃x:Nat,x=m-i:=⟨_,rfl⟩
  have s3:(m:Int)-(i:Int)=(x:Int):=by omega
  have Jc:lk.length=n:=HC.out.len _ _ HR.out
  by_cases hne:i=j
  ·subst hne
   have HL:=Lib.hid (Pp HC.out hn x m i (by omega) (by omega) HR.out)
   have HE:Hid (∀l',Im lk l' x m i→l'=EJ l a m b):=fun l' h'=>by rw[hx]at h';exact WW HS.out (by rw[OF.out];exact hb) h'
   clear hx Z9 VI Jc
   go_wp2_with fail
   refine HL.out.mono ?_
   rintro e w1 ⟨rfl,l',h1,h2⟩
   have h3:=HE.out l' h2
   rw[h3]at h1
   have H1:=Lib.hid h1
   clear h1 h2 h3
   go_wp2
   go_end0
   exact⟨rfl,H1.out⟩
  ·have aH:¬(i:Int)=(j:Int):=by omega
   have gne:((i:Int) !=(j:Int))=true:=by simpa using aH
   by_cases hgt:j<i
   ·obtain⟨i2,hi2⟩:∃i2:Nat,i2=i-j:=⟨_,rfl⟩
    have s4:(i:Int)-(j:Int)=(i2:Int):=by omega
    have HL:=Lib.hid (Pp HC.out hn x m j (by omega) (by omega) HR.out)
    have HE:Hid (∀l',Im lk l' x m j→JL l l' a m b i2 j):=fun l' h'=>by rw[hx]at h';rw[hi2];exact ZA HS.out (by rw[OF.out];exact hb) hgt h'
    have HI2:Hid (0<i2∧i2<i):=by constructor<;>omega
    clear hx Z9 VI Jc hi2 hne aH
    go_wp2_with fail
    refine HL.out.mono ?_
    rintro e w1 ⟨rfl,l',h1,h2⟩
    have H1:=Lib.hid h1
    have H2:=Lib.hid (HE.out l' h2)
    clear h1 h2
    go_wp2
    go_roundw
    case rel=>exact⟨i2,j,l',rfl,rfl,HI2.out.1,hj,H1.out,H2.out⟩
    case measure=>have:=HI2.out;simp[intOf];omega
   ·obtain⟨j2,hj2⟩:∃j2:Nat,j2=j-i:=⟨_,rfl⟩
    have s4:(j:Int)-(i:Int)=(j2:Int):=by omega
    obtain⟨z,hz⟩:∃z:Nat,z=m+j:=⟨_,rfl⟩
    have s6:(m:Int)+(j:Int)=(z:Int):=by omega
    have tq:z≤n:=by omega
    obtain⟨y,hy⟩:∃y:Nat,y=m+j-i:=⟨_,rfl⟩
    have s5:(z:Int)-(i:Int)=(y:Int):=by omega
    have HL:=Lib.hid (Pp HC.out hn x y i (by omega) (by omega) HR.out)
    have HE:Hid (∀l',Im lk l' x y i→JL l l' a m b i j2):=fun l' h'=>by rw[hx,hy]at h';rw[hj2];exact Y9 HS.out (by rw[OF.out];exact hb) (by omega) h'
    have HJ2:Hid (0<j2∧j2<j):=by constructor<;>omega
    clear hx Z9 VI Jc hj2 hne aH hy hz
    go_wp2_with fail
    refine HL.out.mono ?_
    rintro e w1 ⟨rfl,l',h1,h2⟩
    have H1:=Lib.hid h1
    have H2:=Lib.hid (HE.out l' h2)
    clear h1 h2
    go_wp2
    go_roundw
    case rel=>exact⟨i,j2,l',rfl,rfl,hi,HJ2.out.1,H1.out,H2.out⟩
    case measure=>have:=HJ2.out;simp[intOf];omega
end
section
variable {r n : Nat} {o : AB} {R : List AB → World → Prop} {l : List AB} {W : World}
def Pa(R:List AB→World→Prop)(o:AB)(l:List AB)(a b:Nat)(e:Ending)(w':World):Prop:=e=.returned (.tuple #[])∧∃l',R l' w'∧Ch o a b l l'∧Bh o l' a b
theorem dQ(C:JK r n o R)(hn:n≤100000)(a m b:Nat)(hm:m=a+1)(Qx:m<b)(hb:b≤n)(h:R l W)(hs:Bh o l (a+1) b):
  Calls Tryz.prog 129 #[.iface 157 (.pointer (some ⟨r,0,none⟩)),.int .i64 a,.int .i64 m,.int .i64 b] W (Pa R o l a b):=by
 have mL:=J5 r
 have mS:=J4 r
 have HC:=Lib.hid C
 have H:=Lib.hid h
 have HS:=Lib.hid hs
 have OF:=Lib.hid (C.len _ _ h)
 have s1:(m:Int)-(a:Int)=1:=by omega
 have HM:=Lib.hid hm
 have mB:a<m:=by omega
 clear h hs C hm
 go_enter Tryz.func129,Tryz.ntmps129
 go_wp2
 go_loopw [8,9] (fun vi vj wr=>∃(i j:Nat),vi=.int .i64 (i:Int)∧vj=.int .i64 (j:Int)∧m≤i∧i≤j∧j≤b∧Hid (R l wr)∧Hid (∀p,m≤p→p<i→AN o (l.getD p AD) (l.getD a AD)<0)∧Hid (∀p,j≤p→p<b→0≤AN o (l.getD p AD) (l.getD a AD))) (fun vi vj _=>(intOf vj).toNat-(intOf vi).toNat)
 case atStart=>exact⟨m,b,rfl,rfl,by omega,by omega,by omega,H.out,fun p p1 p2=>by omega,fun p p1 p2=>by omega⟩
 case round=>
  clear s1
  obtain⟨i,j,rfl,rfl,hi,Fa,lW,HR,gP,gR⟩:=hrel
  by_cases hlt:i<j
  ·obtain⟨ij,Ky⟩:∃ij:Nat,ij=i+j:=⟨_,rfl⟩
   obtain⟨h,hh⟩:∃h:Nat,h=ij/2:=⟨_,rfl⟩
   have Lx:i≤h:=by omega
   have xP:h<j:=by omega
   have K5:(i:Int)+(j:Int)=(ij:Int):=by omega
   have Lu:IntKind.i64.wrap (ij:Int)=(ij:Int):=IntWalk.i64_in _ (by omega)
   have hdiv:(ij:Int)/2=(h:Int):=by omega
   have HL:=Lib.hid (HC.out.less _ _ HR.out h a (by omega) (by omega))
   clear Ky hh
   by_cases KG:AN o (l.getD h AD) (l.getD a AD)<0
   ·have g1:=decide_eq_true KG
    have HN:Hid (∀p,m≤p→p<h+1→AN o (l.getD p AD) (l.getD a AD)<0):=fun p p1 p2=>Gl (HS.out.le (by have:=HM.out;omega) (show p≤h by omega) (by omega)) KG
    go_wp2_with fail
    refine HL.out.mono ?_
    rintro e w1 ⟨rfl,h1⟩
    rw[g1]
    have H1:=Lib.hid h1
    clear h1 KG
    go_wp2
    go_roundw
    case rel=>exact⟨h+1,j,by go_num,rfl,by omega,by omega,lW,H1.out,HN.out,gR.out⟩
    case measure=>simp[intOf];omega
   ·have g1:=decide_eq_false KG
    have HN:Hid (∀p,h≤p→p<b→0≤AN o (l.getD p AD) (l.getD a AD)):=fun p p1 p2=>Int.not_lt.1 fun p3=>KG (Gl (HS.out.le (by have:=HM.out;omega) p1 p2) p3)
    go_wp2_with fail
    refine HL.out.mono ?_
    rintro e w1 ⟨rfl,h1⟩
    rw[g1]
    have H1:=Lib.hid h1
    clear h1 KG
    go_wp2
    go_roundw
    case rel=>exact⟨i,h,rfl,rfl,hi,Lx,by omega,H1.out,gP.out,HN.out⟩
    case measure=>simp[intOf];omega
  ·have XJ:i=j:=by omega
   subst XJ
   obtain⟨x,hx⟩:∃x:Nat,x+1=i:=⟨i-1,by omega⟩
   have s2:(i:Int)-1=(x:Int):=by omega
   have HX:=Lib.hid hx
   have hax:a≤x:=by omega
   have Jt:x+1≤b:=by omega
   clear hx
   go_wp2
   go_loopw [11] (fun vk w3=>∃(k:Nat) (lk:List AB),vk=.int .i64 (k:Int)∧a≤k∧k≤x∧Hid (R lk w3)∧Hid (sD l lk a k)∧Hid (Ch o a b l lk)) (fun vk _=>x-(intOf vk).toNat)
   case atStart=>exact⟨a,l,rfl,by omega,by omega,HR.out,Wm _ _,Ch.refl _ _ _ _⟩
   case round=>
    obtain⟨k,lk,rfl,iS,FK,nD,sj,tD⟩:=hrel
    by_cases lV:k<x
    ·have hlk:=HC.out.len _ _ nD.out
     have oH:=HC.out.swap _ _ nD.out k (k+1) (by omega) (by omega) (by omega)
     rw[Int.natCast_add]at oH
     have jO:=Lib.hid oH
     have hst:=ZY (o:=o) sj.out iS (by rw[OF.out];omega) (by rw[hlk,OF.out]) (gP.out (k+1) (by have:=HM.out;omega) (by have:=HX.out;omega))
     have Ea:=Lib.hid hst
     clear oH hlk hst
     go_wp2_with fail
     refine jO.out.mono ?_
     rintro e w4 ⟨rfl,h4⟩
     have H4:=Lib.hid h4
     clear h4
     go_wp2
     go_roundw
     case rel=>exact⟨k+1,_,by go_num,by omega,by omega,H4.out,Ea.out.1,tD.out.trans (Ea.out.2.mono (by omega) (by omega))⟩
     case measure=>simp[intOf];omega
    ·have lU:k=x:=by omega
     subst lU
     have HE:=Lib.hid (eJ (o:=o) (l:=l) (l':=lk) (a:=a) (b:=b) (i:=i) (by rw[show i-1=k by have:=HX.out;omega];exact sj.out) (by have:=HX.out;omega) lW HS.out (fun p p1 p2=>gP.out p (by have:=HM.out;omega) p2) gR.out)
     go_wp2
     go_end0
     exact⟨rfl,lk,nD.out,tD.out,HE.out⟩
theorem Ye(C:JK r n o R)(hn:n≤100000)(a m b:Nat)(mB:a+1<m)(hm:b=m+1)(hb:b≤n)(h:R l W)(hs:Bh o l a m):
  Calls Tryz.prog 129 #[.iface 157 (.pointer (some ⟨r,0,none⟩)),.int .i64 a,.int .i64 m,.int .i64 b] W (Pa R o l a b):=by
 have mL:=J5 r
 have mS:=J4 r
 have HC:=Lib.hid C
 have H:=Lib.hid h
 have HS:=Lib.hid hs
 have OF:=Lib.hid (C.len _ _ h)
 obtain⟨d,hd⟩:∃d:Nat,d=m-a:=⟨_,rfl⟩
 have s1:(m:Int)-(a:Int)=(d:Int):=by omega
 have g0:((d:Int)==1)=false:=by simp;omega
 have s2:(b:Int)-(m:Int)=1:=by omega
 have HM:=Lib.hid hm
 have Qx:m<b:=by omega
 clear h hs C hm hd
 go_enter Tryz.func129,Tryz.ntmps129
 go_wp2
 go_loopw [12,13] (fun vi vj wr=>∃(i j:Nat),vi=.int .i64 (i:Int)∧vj=.int .i64 (j:Int)∧a≤i∧i≤j∧j≤m∧Hid (R l wr)∧Hid (∀p,a≤p→p<i→0≤AN o (l.getD m AD) (l.getD p AD))∧Hid (∀p,j≤p→p<m→AN o (l.getD m AD) (l.getD p AD)<0)) (fun vi vj _=>(intOf vj).toNat-(intOf vi).toNat)
 case atStart=>exact⟨a,m,rfl,rfl,by omega,by omega,by omega,H.out,fun p p1 p2=>by omega,fun p p1 p2=>by omega⟩
 case round=>
  clear s1 s2 g0
  obtain⟨i,j,rfl,rfl,hi,Fa,uI,HR,gP,gR⟩:=hrel
  by_cases hlt:i<j
  ·obtain⟨ij,Ky⟩:∃ij:Nat,ij=i+j:=⟨_,rfl⟩
   obtain⟨h,hh⟩:∃h:Nat,h=ij/2:=⟨_,rfl⟩
   have Lx:i≤h:=by omega
   have xP:h<j:=by omega
   have K5:(i:Int)+(j:Int)=(ij:Int):=by omega
   have Lu:IntKind.i64.wrap (ij:Int)=(ij:Int):=IntWalk.i64_in _ (by omega)
   have hdiv:(ij:Int)/2=(h:Int):=by omega
   have HL:=Lib.hid (HC.out.less _ _ HR.out m h (by omega) (by omega))
   clear Ky hh
   by_cases KG:AN o (l.getD m AD) (l.getD h AD)<0
   ·have g1:=decide_eq_true KG
    have HN:Hid (∀p,h≤p→p<m→AN o (l.getD m AD) (l.getD p AD)<0):=fun p p1 p2=>Gk KG (HS.out.le (by omega) p1 p2)
    go_wp2_with fail
    refine HL.out.mono ?_
    rintro e w1 ⟨rfl,h1⟩
    rw[g1]
    have H1:=Lib.hid h1
    clear h1 KG
    go_wp2
    go_roundw
    case rel=>exact⟨i,h,rfl,rfl,hi,Lx,by omega,H1.out,gP.out,HN.out⟩
    case measure=>simp[intOf];omega
   ·have g1:=decide_eq_false KG
    have HN:Hid (∀p,a≤p→p<h+1→0≤AN o (l.getD m AD) (l.getD p AD)):=fun p p1 p2=>Int.not_lt.1 fun p3=>KG (Gk p3 (HS.out.le p1 (show p≤h by omega) (by omega)))
    go_wp2_with fail
    refine HL.out.mono ?_
    rintro e w1 ⟨rfl,h1⟩
    rw[g1]
    have H1:=Lib.hid h1
    clear h1 KG
    go_wp2
    go_roundw
    case rel=>exact⟨h+1,j,by go_num,rfl,by omega,by omega,uI,H1.out,HN.out,gR.out⟩
    case measure=>simp[intOf];omega
  ·have XJ:i=j:=by omega
   subst XJ
   go_wp2
   go_loopw [15] (fun vk w3=>∃(k:Nat) (lk:List AB),vk=.int .i64 (k:Int)∧i≤k∧k≤m∧Hid (R lk w3)∧Hid (sE l lk m k)∧Hid (Ch o a b l lk)) (fun vk _=>(intOf vk).toNat)
   case atStart=>exact⟨m,l,rfl,by omega,by omega,HR.out,Wq _ _,Ch.refl _ _ _ _⟩
   case round=>
    obtain⟨k,lk,rfl,iS,FK,nD,sj,tD⟩:=hrel
    by_cases lV:i<k
    ·have hlk:=HC.out.len _ _ nD.out
     obtain⟨y,hy⟩:∃y:Nat,y+1=k:=⟨k-1,by omega⟩
     have s3:(k:Int)-1=(y:Int):=by omega
     have oH:=HC.out.swap _ _ nD.out k y (by omega) (by omega) (by omega)
     have jO:=Lib.hid oH
     have hst:=Zb (o:=o) sj.out (by omega) FK (by rw[OF.out];omega) (by rw[hlk,OF.out]) (gR.out (k-1) (by omega) (by omega))
     rw[show k-1=y by omega]at hst
     have Ea:=Lib.hid hst
     have HY:=Lib.hid hy
     clear oH hlk hst hy
     go_wp2_with fail
     refine jO.out.mono ?_
     rintro e w4 ⟨rfl,h4⟩
     have H4:=Lib.hid h4
     clear h4
     go_wp2
     go_roundw
     case rel=>exact⟨y,_,rfl,by have:=HY.out;omega,by have:=HY.out;omega,H4.out,Ea.out.1,tD.out.trans (Ea.out.2.mono (by have:=HY.out;omega) (by have:=HY.out;omega))⟩
     case measure=>have:=HY.out;simp[intOf];omega
    ·have lU:k=i:=by omega
     subst lU
     have HE:=Lib.hid (eK (o:=o) (l:=l) (l':=lk) (m:=m) (a:=a) (i:=k) sj.out FK hi HS.out gP.out gR.out)
     go_wp2
     go_end0
     exact⟨rfl,lk,nD.out,tD.out,by rw[HM.out];exact HE.out⟩
end
section
variable {r n : Nat} {o : AB} {R : List AB → World → Prop} {l : List AB} {W : World}
theorem dR(C:JK r n o R)(hn:n≤100000)(a m b:Nat)(mB:a+1<m)(Qx:m+1<b)(hb:b≤n)(h:R l W)(EP:Bh o l a m)(EB:Bh o l m b)
  (IH:∀a' m' b',b'-a'<b-a→a'<m'→m'<b'→b'≤n→∀l W,R l W→Bh o l a' m'→Bh o l m' b'→Calls Tryz.prog 129 #[.iface 157 (.pointer (some ⟨r,0,none⟩)),.int .i64 a',.int .i64 m',.int .i64 b'] W (Pa R o l a' b')):
  Calls Tryz.prog 129 #[.iface 157 (.pointer (some ⟨r,0,none⟩)),.int .i64 a,.int .i64 m,.int .i64 b] W (Pa R o l a b):=by
 have mL:=J5 r
 have HC:=Lib.hid C
 have H:=Lib.hid h
 have bS:=Lib.hid EP
 have JN:=Lib.hid EB
 have HIH:=Lib.hid IH
 have OF:=Lib.hid (C.len _ _ h)
 obtain⟨d,hd⟩:∃d:Nat,d=m-a:=⟨_,rfl⟩
 have s1:(m:Int)-(a:Int)=(d:Int):=by omega
 have g0:((d:Int)==1)=false:=by simp;omega
 obtain⟨d2,hd2⟩:∃d2:Nat,d2=b-m:=⟨_,rfl⟩
 have s2:(b:Int)-(m:Int)=(d2:Int):=by omega
 have g1:((d2:Int)==1)=false:=by simp;omega
 obtain⟨ab,YC⟩:∃ab:Nat,ab=a+b:=⟨_,rfl⟩
 have K5:(a:Int)+(b:Int)=(ab:Int):=by omega
 have Lu:IntKind.i64.wrap (ab:Int)=(ab:Int):=IntWalk.i64_in _ (by omega)
 obtain⟨mid,Du⟩:∃mid:Nat,mid=ab/2:=⟨_,rfl⟩
 have hdiv:(ab:Int)/2=(mid:Int):=by omega
 obtain⟨nn,lN⟩:∃nn:Nat,nn=mid+m:=⟨_,rfl⟩
 have s6:(mid:Int)+(m:Int)=(nn:Int):=by omega
 have AC2:nn≤2*n:=by omega
 obtain⟨WM,r0,XA⟩:∃WM r0:Nat,(mid<m∧WM+b=nn∧r0=mid)∨(m≤mid∧WM=a∧r0=m):=by
  by_cases hmm:mid<m
  ·exact⟨nn-b,mid,.inl ⟨hmm,by omega,rfl⟩⟩
  ·exact⟨a,m,.inr ⟨by omega,rfl,rfl⟩⟩
 have q1:a≤WM:=by omega
 have q2:WM≤r0:=by omega
 have q3:r0≤m:=by omega
 have q4:r0≤mid:=by omega
 have q5:nn≤b+WM:=by omega
 have q6:mid<b:=by omega
 have q7:a<mid:=by omega
 have HQ:=Lib.hid (And.intro q1 (And.intro q2 (And.intro q3 (And.intro q4 (And.intro q5 (And.intro q6 (And.intro q7 (And.intro lN (And.intro XA (And.intro mB Qx))))))))))
 obtain⟨pp,NI⟩:∃pp:Nat,pp+1=nn:=⟨nn-1,by omega⟩
 have s7:(nn:Int)-1=(pp:Int):=by omega
 have HPP:=Lib.hid NI
 clear h EP EB IH C hd hd2 YC Du lN XA q1 q2 q3 q4 q5 q6 q7 NI
 go_enter Tryz.func129,Tryz.ntmps129
 go_upto_if 102 with(fail)
 go_cut [18,19]from 103 to 108 (fun s18 s19 wx=>s18=.int .i64 (WM:Int)∧s19=.int .i64 (r0:Int)∧wx=W)
 case first=>
  by_cases hmm:mid<m
  ·have hst:(nn:Int)-(b:Int)=(WM:Int):=by have:=HQ.out;omega
   have Cz:mid=r0:=by have:=HQ.out;omega
   have Gy:=Lib.hid Cz
   clear Cz
   go_wp2_with fail
   go_meet
   exact⟨rfl,congrArg (fun x:Nat=>Value.int .i64 (x:Int)) Gy.out,rfl⟩
  ·have hst:a=WM:=by have:=HQ.out;omega
   have Cz:m=r0:=by have:=HQ.out;omega
   have Gy:=Lib.hid Cz
   have Ea:=Lib.hid hst
   clear Cz hst
   go_wp2_with fail
   go_meet
   exact⟨congrArg (fun x:Nat=>Value.int .i64 (x:Int)) Ea.out,congrArg (fun x:Nat=>Value.int .i64 (x:Int)) Gy.out,rfl⟩
 case rest=>
  obtain⟨rfl,rfl,rfl⟩:=hcut
  clear s1 s2 g0 g1 K5 Lu hdiv s6
  go_wp2_with fail
  go_loopw [18,19] (fun vi vj wr=>∃(i j:Nat),vi=.int .i64 (i:Int)∧vj=.int .i64 (j:Int)∧WM≤i∧i≤j∧j≤r0∧Hid (R l wr)∧Hid (WM<i→0≤AN o (l.getD (nn-i) AD) (l.getD (i-1) AD))∧Hid (j<r0→AN o (l.getD (nn-1-j) AD) (l.getD j AD)<0)) (fun vi vj _=>(intOf vj).toNat-(intOf vi).toNat)
  case atStart=>exact⟨WM,r0,rfl,rfl,by omega,by have:=HQ.out;omega,by omega,H.out,fun hh=>by omega,fun hh=>by omega⟩
  case round=>
   obtain⟨i,j,rfl,rfl,hi,Fa,hjr,HR,gP,gR⟩:=hrel
   have hq:=HQ.out
   have hp:=HPP.out
   by_cases hlt:i<j
   ·obtain⟨ij,Ky⟩:∃ij:Nat,ij=i+j:=⟨_,rfl⟩
    obtain⟨c,hh⟩:∃c:Nat,c=ij/2:=⟨_,rfl⟩
    have Lx:i≤c:=by omega
    have xP:c<j:=by omega
    have K5:(i:Int)+(j:Int)=(ij:Int):=by omega
    have Lu:IntKind.i64.wrap (ij:Int)=(ij:Int):=IntWalk.i64_in _ (by omega)
    have hdiv:(ij:Int)/2=(c:Int):=by omega
    obtain⟨q,VI⟩:∃q:Nat,q+c=pp:=⟨pp-c,by omega⟩
    have s8:(pp:Int)-(c:Int)=(q:Int):=by omega
    have HL:=Lib.hid (HC.out.less _ _ HR.out q c (by omega) (by omega))
    have jR:Hid (q=nn-(c+1)∧q=nn-1-c):=by constructor<;>omega
    have XJ:ij≤2*n:=by omega
    clear Ky hh hq hp VI
    by_cases KG:AN o (l.getD q AD) (l.getD c AD)<0
    ·have g1:=decide_eq_true KG
     have HN:Hid (c<r0→AN o (l.getD (nn-1-c) AD) (l.getD c AD)<0):=fun _=>by rw[←jR.out.2];exact KG
     go_wp2_with fail
     refine HL.out.mono ?_
     rintro e w1 ⟨rfl,h1⟩
     rw[g1]
     have H1:=Lib.hid h1
     clear h1 KG
     go_wp2
     go_roundw
     case rel=>exact⟨i,c,rfl,rfl,hi,Lx,by omega,H1.out,gP.out,HN.out⟩
     case measure=>simp[intOf];omega
    ·have g1:=decide_eq_false KG
     have HN:Hid (WM<c+1→0≤AN o (l.getD (nn-(c+1)) AD) (l.getD (c+1-1) AD)):=fun _=>by rw[←jR.out.1,Nat.add_sub_cancel];exact Int.not_lt.1 KG
     go_wp2_with fail
     refine HL.out.mono ?_
     rintro e w1 ⟨rfl,h1⟩
     rw[g1]
     have H1:=Lib.hid h1
     clear h1 KG
     go_wp2
     go_roundw
     case rel=>exact⟨c+1,j,by go_num,rfl,by omega,by omega,hjr,H1.out,HN.out,gR.out⟩
     case measure=>simp[intOf];omega
   ·have XJ:i=j:=by omega
    subst XJ
    obtain⟨e,he⟩:∃e:Nat,e+i=nn:=⟨nn-i,by omega⟩
    have s8:(nn:Int)-(i:Int)=(e:Int):=by omega
    have k1:a≤i:=by omega
    have k2:i≤m:=by omega
    have k3:m≤e:=by omega
    have k4:e≤b:=by omega
    have k5:mid=i+(e-m):=by omega
    have hMR:=Wo (o:=o) k1 k2 k3 k4 (by rw[OF.out];exact hb) k5 bS.out JN.out (fun c1 c2=>by
     have:=gP.out (by omega)
     rw[show nn-i=e by omega]at this
     rw[Ag];omega) (fun c1 c2=>by
     have:=gR.out (by omega)
     rwa [show nn-1-i=e-1 by omega]at this)
    have jU:=Lib.hid hMR
    have HK:=Lib.hid (And.intro k1 (And.intro k2 (And.intro k3 (And.intro k4 (And.intro k5 hq)))))
    have L8:Hid (∀w9,R l w9→i<m→m<e→Calls Tryz.prog 136 #[.iface 157 (.pointer (some ⟨r,0,none⟩)),.int .i64 i,.int .i64 m,.int .i64 e] w9 fun e' w'=>e'=.returned (.tuple #[])∧R (EJ l i m e) w'):=fun w9 h9 x1 x2=>dx HC.out hn i m e x1 x2 (by omega) h9
    have Gy:Hid (¬(i<m∧m<e)→EJ l i m e=l):=fun hno=>by
     rcases Nat.lt_or_ge i m with x|x
     ·have:m=e:=by omega
      rw[←this];exact Y7 k2
     ·have:i=m:=by omega
      rw[this];exact Y8 k3
    have QT:(EJ l i m e).length=n:=by rw[El k2 k3 (by rw[OF.out];omega),OF.out]
    have OG:=Lib.hid QT
    generalize EJ l i m e=l1 at*
    clear he k1 k2 k3 k4 k5 hMR hq hp QT s7
    go_upto_region 39 with(fail)
    go_cut [140]from 133 to 140 (fun s wx=>s=.bool (decide (i<m∧m<e))∧wx=wr)
    case first=>
     by_cases x1:i<m
     ·by_cases x2:m<e
      ·go_wp2_with fail
       go_meet
       exact⟨congrArg Value.bool (decide_eq_true (And.intro x1 x2)).symm,rfl⟩
      ·go_wp2_with fail
       go_meet
       exact⟨congrArg Value.bool (decide_eq_false (fun x=>x2 x.2)).symm,rfl⟩
     ·go_wp2_with fail
      go_meet
      exact⟨congrArg Value.bool (decide_eq_false (fun x=>x1 x.1)).symm,rfl⟩
    case rest=>
     obtain⟨rfl,rfl⟩:=hcut
     go_upto_if 140 with(fail)
     go_cut []from 140 to 145 (fun wx=>Hid (R l1 wx))
     case first=>
      by_cases x:i<m∧m<e
      ·have g2:=decide_eq_true x
       have HX:=Lib.hid x
       clear x
       rw[g2]
       go_wp2_with fail
       refine(L8.out _ HR.out HX.out.1 HX.out.2).mono ?_
       rintro e' w2 ⟨rfl,h2⟩
       have H2:=Lib.hid h2
       clear h2
       go_wp2_with fail
       go_meet
       exact H2.out
      ·have g2:=decide_eq_false x
       have HX:=Lib.hid x
       clear x
       rw[g2]
       go_wp2_with fail
       go_meet
       rw[Gy.out HX.out];exact HR.out
     case rest=>
      have H1:=Lib.hid hcut.out
      clear hcut HR L8 Gy
      go_upto_region 41 with(fail)
      go_cut [153]from 146 to 153 (fun s wx=>s=.bool (decide (a<i∧i<mid))∧wx=wc)
      case first=>
       by_cases x1:a<i
       ·by_cases x2:i<mid
        ·go_wp2_with fail
         go_meet
         exact⟨congrArg Value.bool (decide_eq_true (And.intro x1 x2)).symm,rfl⟩
        ·go_wp2_with fail
         go_meet
         exact⟨congrArg Value.bool (decide_eq_false (fun x=>x2 x.2)).symm,rfl⟩
       ·go_wp2_with fail
        go_meet
        exact⟨congrArg Value.bool (decide_eq_false (fun x=>x1 x.1)).symm,rfl⟩
      case rest=>
       obtain⟨rfl,rfl⟩:=hcut
       go_upto_if 153 with(fail)
       go_cut []from 153 to 158 (fun wx=>∃l2,Hid (R l2 wx)∧Hid (Ch o a mid l1 l2)∧Hid (Bh o l2 a mid))
       case first=>
        by_cases x:a<i∧i<mid
        ·have g2:=decide_eq_true x
         have HX:=Lib.hid x
         have vB:=Lib.hid (HIH.out a i mid (by have:=HK.out;omega) x.1 x.2 (by have:=HK.out;omega) _ _ H1.out jU.out.2.1 jU.out.2.2.1)
         clear x
         rw[g2]
         go_wp2_with fail
         refine vB.out.mono ?_
         rintro e' w2 ⟨rfl,l2,h2,h3,h4⟩
         have H2:=Lib.hid h2
         have H3:=Lib.hid h3
         have H4:=Lib.hid h4
         clear h2 h3 h4
         go_wp2_with fail
         go_meet
         exact⟨l2,H2.out,H3.out,H4.out⟩
        ·have g2:=decide_eq_false x
         have HX:Hid (Bh o l1 a mid):=by
          have hk:=HK.out
          rcases Nat.lt_or_ge a i with y|y
          ·have:i=mid:=by omega
           rw[←this];exact jU.out.2.1
          ·have:a=i:=by omega
           rw[this];exact jU.out.2.2.1
         clear x
         rw[g2]
         go_wp2_with fail
         go_meet
         exact⟨l1,H1.out,Ch.refl _ _ _ _,HX.out⟩
       case rest=>
        obtain⟨l2,H2,H3,H4⟩:=hcut
        have Fg:Hid (∀l3,Ch o mid b l2 l3→Bh o l3 mid b→Ch o a b l l3∧Bh o l3 a b):=fun l3 c1 c2=>by
         have hk:=HK.out
         obtain⟨x1,x2⟩:=Tr (o:=o) (l1:=l1) (a:=a) (b:=b) (mid:=mid) (by omega) (by omega) (by rw[OG.out];exact hb) jU.out.2.2.2.2.2 H3.out H4.out c1 c2
         exact⟨jU.out.1.trans x1,x2⟩
        have nU:Hid (Bh o l2 mid e):=fun p p1 p2=>by
         rw[H3.out.out p (by omega),H3.out.out (p+1) (by omega)];exact jU.out.2.2.2.1 p p1 p2
        have zE:Hid (Bh o l2 e b):=fun p p1 p2=>by
         have hk:=HK.out
         rw[H3.out.out p (by omega),H3.out.out (p+1) (by omega)];exact jU.out.2.2.2.2.1 p p1 p2
        have HLC:Hid (mid<e→e<b→Calls Tryz.prog 129 #[.iface 157 (.pointer (some ⟨r,0,none⟩)),.int .i64 mid,.int .i64 e,.int .i64 b] wc (Pa R o l2 mid b)):=fun y1 y2=>HIH.out mid e b (by have:=HK.out;omega) y1 y2 hb _ _ H2.out nU.out zE.out
        have Kh:Hid (¬(mid<e∧e<b)→Bh o l2 mid b):=fun hno=>by
         have hk:=HK.out
         rcases Nat.lt_or_ge mid e with y|y
         ·have:e=b:=by omega
          rw[←this];exact nU.out
         ·have:mid=e:=by omega
          rw[this];exact zE.out
        by_cases x1:mid<e
        ·by_cases x2:e<b
         ·go_wp2_with fail
          refine(HLC.out x1 x2).mono ?_
          rintro e' w3 ⟨rfl,l3,h3,h4,h5⟩
          have H5:=Lib.hid (Fg.out l3 h4 h5)
          have H6:=Lib.hid h3
          clear h3 h4 h5
          go_wp2
          go_end0
          exact⟨rfl,l3,H6.out,H5.out.1,H5.out.2⟩
         ·have H5:=Lib.hid (Fg.out l2 (Ch.refl _ _ _ _) (Kh.out fun y=>x2 y.2))
          go_wp2
          go_end0
          exact⟨rfl,l2,H2.out,H5.out.1,H5.out.2⟩
        ·have H5:=Lib.hid (Fg.out l2 (Ch.refl _ _ _ _) (Kh.out fun y=>x1 y.1))
         go_wp2
         go_end0
         exact⟨rfl,l2,H2.out,H5.out.1,H5.out.2⟩
theorem Po(C:JK r n o R)(hn:n≤100000):∀(d a m b:Nat),b-a≤d→a<m→m<b→b≤n→∀l W,R l W→Bh o l a m→Bh o l m b→Calls Tryz.prog 129 #[.iface 157 (.pointer (some ⟨r,0,none⟩)),.int .i64 a,.int .i64 m,.int .i64 b] W (Pa R o l a b)
 |0,a,m,b,hd,h1,h2,_,_,_,_,_,_=>by omega
 |d+1,a,m,b,hd,h1,h2,hb,l,W,h,s1,s2=>by
  by_cases c1:m=a+1
  ·exact dQ C hn a m b c1 h2 hb h (by rw[←c1];exact s2)
  ·by_cases c2:b=m+1
   ·exact Ye C hn a m b (by omega) c2 hb h s1
   ·exact dR C hn a m b (by omega) (by omega) hb h s1 s2 fun a' m' b' hlt k1 k2 k3 l W hR t1 t2=>Po C hn d a' m' b' (by omega) k1 k2 k3 l W hR t1 t2
end
section
variable {r n : Nat} {o : AB} {R : List AB → World → Prop} {l l' : List AB} {W : World} {s a b : Nat}
theorem Wn{s q i:Nat}(h1:q*s≤i)(h2:i<q*s+s):i%s=i-q*s:=by
 obtain⟨x,rfl⟩:∃x,i=q*s+x:=⟨i-q*s,by omega⟩
 rw[Nat.mul_comm,Nat.mul_add_mod,Nat.mod_eq_of_lt (by rw[Nat.mul_comm]at h1 h2;omega),Nat.add_sub_cancel_left]
theorem Gn{q:Nat}(h:Js o l s 0 (q*s))(hc:Ch o (q*s) b l l')(ha:Bh o l' (q*s) b):Js o l' s 0 b:=fun i _ i2 i3=>by
 by_cases h1:i+1<q*s
 ·rw[hc.out i (by omega),hc.out (i+1) (by omega)];exact h i (Nat.zero_le _) h1 i3
 ·by_cases h2:i+1=q*s
  ·exfalso;apply i3;rw[h2,Nat.mul_mod_left]
  ·exact ha i (by omega) i2
theorem Xl{a' b':Nat}(h:Js o l s a' b')(hc:Ch o a b l l')(hd:b≤a'∨b'≤a):Js o l' s a' b':=fun i i1 i2 i3=>by
 rw[hc.out i (by omega),hc.out (i+1) (by omega)];exact h i i1 i2 i3
theorem Qj{q a' b':Nat}(h:Js o l s a' b')(h1:a'≤a)(h2:b≤b')(h3:q*s≤a)(h4:b≤q*s+s):Bh o l a b:=fun i i1 i2=>h i (by omega) (by omega) (by
 rw[Wn (q:=q) (by omega) (by omega)];omega)
theorem bJ(h:Js o l s 0 b)(hb:b≤s):Bh o l 0 b:=fun i i1 i2=>h i i1 i2 (by rw[Nat.mod_eq_of_lt (by omega)];omega)
end
section
variable {r n : Nat} {o : AB} {R : List AB → World → Prop} {l : List AB} {W : World}
theorem Yn(C:JK r n o R)(hn:n≤100000)(h:R l W):
  Calls Tryz.prog 113 #[.iface 157 (.pointer (some ⟨r,0,none⟩)),.int .i64 n] W fun e w'=>e=.returned (.tuple #[])∧∃l',R l' w'∧Ch o 0 n l l'∧Bh o l' 0 n:=by
 have HC:=Lib.hid C
 have H:=Lib.hid h
 clear h C
 go_enter Tryz.func113,Tryz.ntmps113
 go_wp2
 go_loopw [5,6] (fun va vb wr=>∃(q a b:Nat) (lk:List AB),va=.int .i64 (a:Int)∧vb=.int .i64 (b:Int)∧a≤n∧Hid (a=q*20)∧Hid (b=a+20)∧Hid (R lk wr)∧Hid (Ch o 0 n l lk)∧Hid (Js o lk 20 0 a)) (fun va _ _=>n-(intOf va).toNat)
 case atStart=>exact⟨0,0,20,l,rfl,rfl,by omega,rfl,rfl,H.out,Ch.refl _ _ _ _,fun i _ i2=>by omega⟩
 case round=>
  obtain⟨q,a,b,lk,rfl,rfl,xo,HA,HB,HR,gY,HM⟩:=hrel
  by_cases hlt:b≤n
  ·obtain⟨b2,AX⟩:∃b2:Nat,b2=b+20:=⟨_,rfl⟩
   have s1:(b:Int)+20=(b2:Int):=by omega
   have HL:=Lib.hid (VE HC.out hn a b (by have:=HB.out;omega) hlt HR.out)
   have Cd:=Lib.hid AX
   clear AX
   go_wp2_with fail
   refine HL.out.mono ?_
   rintro e w1 ⟨rfl,l',h1,h2,h3⟩
   have H1:=Lib.hid h1
   have H2:=Lib.hid (gY.out.trans (h2.mono (Nat.zero_le _) hlt))
   have H3:Hid (Js o l' 20 0 b):=by
    have hA:=HA.out
    have hm:=HM.out
    rw[hA]at h2 h3 hm
    exact Gn hm h2 h3
   clear h1 h2 h3
   go_wp2
   go_roundw
   case rel=>exact⟨q+1,b,b2,l',rfl,rfl,hlt,by have:=HA.out;have:=HB.out;unfold Hid;omega,Cd.out,H1.out,H2.out,H3.out⟩
   case measure=>have:=HB.out;simp[intOf];omega
  ·have HL:=Lib.hid (VE HC.out hn a n xo (Nat.le_refl _) HR.out)
   have HBN:Hid (n<a+20):=by have:=HB.out;unfold Hid;omega
   go_wp2_with fail
   refine HL.out.mono ?_
   rintro e w1 ⟨rfl,l1,h1,h2,h3⟩
   have H1:=Lib.hid h1
   have H2:=Lib.hid (gY.out.trans (h2.mono (Nat.zero_le _) (Nat.le_refl _)))
   have H3:Hid (Js o l1 20 0 n):=by
    have hA:=HA.out
    have hm:=HM.out
    rw[hA]at h2 h3 hm
    exact Gn hm h2 h3
   clear h1 h2 h3 HL HR gY HM HA HB HBN hlt xo
   go_wp2
   go_loopw [4,5,6,7] (fun v4 v5 v6 v7 wr=>∃(s:Nat) (lk:List AB),v4=.int .i64 (s:Int)∧20≤s∧s≤300000∧Hid (R lk wr)∧Hid (Ch o 0 n l lk)∧Hid (Js o lk s 0 n)) (fun v4 _ _ _ _=>n-(intOf v4).toNat)
   case atStart=>exact⟨20,l1,rfl,by omega,by omega,H1.out,H2.out,H3.out⟩
   case round=>
    obtain⟨s,lk,rfl,AB4,wP,HR,gY,HM⟩:=hrel
    by_cases hlt:s<n
    ·obtain⟨d,hd⟩:∃d:Nat,d=2*s:=⟨_,rfl⟩
     have s1:(2:Int)*(s:Int)=(d:Int):=by omega
     have s2:(s:Int)*2=(d:Int):=by omega
     have lq:d≤200000:=by omega
     have HD:=Lib.hid hd
     clear hd
     go_wp2
     go_loopw [5,6] (fun va vb wq=>∃(q a b:Nat) (lj:List AB),va=.int .i64 (a:Int)∧vb=.int .i64 (b:Int)∧a≤n∧b≤400000∧Hid (a=q*d)∧Hid (b=a+d)∧Hid (R lj wq)∧Hid (Ch o 0 n l lj)∧Hid (Js o lj d 0 a)∧Hid (Js o lj s a n)) (fun va _ _=>n-(intOf va).toNat)
     case atStart=>exact⟨0,0,d,lk,rfl,rfl,by omega,by omega,by unfold Hid;omega,by unfold Hid;omega,HR.out,gY.out,fun i _ i2=>by omega,HM.out⟩
     case round=>
      obtain⟨q,a,b,lj,rfl,rfl,xo,PB,HA,HB,nE,pF,zC,uo⟩:=hrel
      obtain⟨m,hm⟩:∃m:Nat,m=a+s:=⟨_,rfl⟩
      have s3:(a:Int)+(s:Int)=(m:Int):=by omega
      have uy:Hid (∀x,x≤n→m≤x→x≤b→Bh o lj a m∧Bh o lj m x):=fun x x1 x2 x3=>by
       have hA:=HA.out
       have hB:=HB.out
       have hD:=HD.out
       have e1:a=(2*q)*s:=by rw[hA,hD,←Nat.mul_assoc,Nat.mul_comm q 2]
       have e2:m=(2*q+1)*s:=by rw[Nat.add_mul,←e1,Nat.one_mul];exact hm
       exact⟨Qj (q:=2*q) uo.out (Nat.le_refl _) (by omega) (by omega) (by omega),Qj (q:=2*q+1) uo.out (by omega) x1 (by omega) (by omega)⟩
      have zE:=Lib.hid hm
      by_cases OS:b≤n
      ·obtain⟨b2,AX⟩:∃b2:Nat,b2=b+d:=⟨_,rfl⟩
       have s4:(b:Int)+(d:Int)=(b2:Int):=by omega
       have HL:=Lib.hid (Po HC.out hn (b-a) a m b (Nat.le_refl _) (by omega) (by have:=HB.out;have:=HD.out;omega) OS lj wr (by exact nE.out) (uy.out b OS (by have:=HB.out;have:=HD.out;omega) (Nat.le_refl _)).1 (uy.out b OS (by have:=HB.out;have:=HD.out;omega) (Nat.le_refl _)).2)
       have Cd:=Lib.hid AX
       clear AX hm
       go_wp2_with fail
       refine HL.out.mono ?_
       rintro e w1 ⟨rfl,l',h1,h2,h3⟩
       have H1:=Lib.hid h1
       have H2:=Lib.hid (pF.out.trans (h2.mono (Nat.zero_le _) OS))
       have H4:=Lib.hid (Xl (a':=b) (b':=n) (fun i i1 i2 i3=>uo.out i (by have:=HB.out;omega) i2 i3) h2 (.inl (Nat.le_refl _)))
       have H3:Hid (Js o l' d 0 b):=by
        have hA:=HA.out
        have hq:=zC.out
        rw[hA]at h2 h3 hq
        exact Gn hq h2 h3
       clear h1 h2 h3
       go_wp2
       go_roundw
       case rel=>exact⟨q+1,b,b2,l',rfl,rfl,OS,by have:=Cd.out;omega,by have:=HA.out;have:=HB.out;unfold Hid;rw[Nat.add_mul];omega,Cd.out,H1.out,H2.out,H3.out,H4.out⟩
       case measure=>have:=HB.out;have:=HD.out;simp[intOf];omega
      ·by_cases hmn:m<n
       ·have HL:=Lib.hid (Po HC.out hn (n-a) a m n (Nat.le_refl _) (by omega) hmn (Nat.le_refl _) lj wr (by exact nE.out) (uy.out n (Nat.le_refl _) (by omega) (by omega)).1 (uy.out n (Nat.le_refl _) (by omega) (by omega)).2)
        clear hm
        go_wp2_with fail
        refine HL.out.mono ?_
        rintro e w1 ⟨rfl,l',h1,h2,h3⟩
        have H1:=Lib.hid h1
        have H2:=Lib.hid (pF.out.trans (h2.mono (Nat.zero_le _) (Nat.le_refl _)))
        have H3:Hid (Js o l' d 0 n):=by
         have hA:=HA.out
         have hq:=zC.out
         rw[hA]at h2 h3 hq
         exact Gn hq h2 h3
        clear h1 h2 h3
        go_wp2
        go_roundw
        case rel=>exact⟨d,l',rfl,by have:=HD.out;omega,by omega,H1.out,H2.out,H3.out⟩
        case measure=>have:=HD.out;simp[intOf];omega
       ·have H3:Hid (Js o lj d 0 n):=by
         have hA:=HA.out
         have hq:=zC.out
         have hD:=HD.out
         have e1:a=(2*q)*s:=by rw[hA,hD,←Nat.mul_assoc,Nat.mul_comm q 2]
         have h3:Bh o lj a n:=Qj (q:=2*q) uo.out (Nat.le_refl _) (Nat.le_refl _) (by omega) (by omega)
         rw[hA]at h3 hq
         exact Gn hq (Ch.refl _ _ _ _) h3
        clear hm
        go_wp2
        go_roundw
        case rel=>exact⟨d,lj,rfl,by have:=HD.out;omega,by omega,nE.out,pF.out,H3.out⟩
        case measure=>have:=HD.out;simp[intOf];omega
    ·have HE:=Lib.hid (bJ HM.out (show n≤s by omega))
     go_wp2
     go_end0
     exact⟨rfl,lk,HR.out,gY.out,HE.out⟩
theorem dZ(C:JK r n o R)(hn:n≤100000)(h:R l W)(hlen:∀l W,R l W→Calls Tryz.prog 111 #[.pointer (some ⟨r,0,none⟩)] W fun e w'=>e=.returned (.int .i64 n)∧R l w'):
  Calls Tryz.prog 93 #[.iface 157 (.pointer (some ⟨r,0,none⟩))] W fun e w'=>e=.returned (.tuple #[])∧∃l',R l' w'∧Ch o 0 n l l'∧Bh o l' 0 n:=by
 have mN:=dn r
 have HL:=Lib.hid (hlen _ _ h)
 have HS:Hid (∀w,R l w→Calls Tryz.prog 113 #[.iface 157 (.pointer (some ⟨r,0,none⟩)),.int .i64 n] w fun e w'=>e=.returned (.tuple #[])∧∃l',R l' w'∧Ch o 0 n l l'∧Bh o l' 0 n):=fun w hw=>Yn C hn hw
 clear h C hlen
 go_enter Tryz.func93,Tryz.ntmps93
 go_wp2_with fail
 refine HL.out.mono ?_
 rintro e w1 ⟨rfl,h1⟩
 have H1:=Lib.hid (HS.out _ h1)
 clear h1
 go_wp2_with fail
 refine H1.out.mono ?_
 rintro e w2 ⟨rfl,h2⟩
 have H2:=Lib.hid h2
 clear h2
 go_wp2
 go_end0
 exact⟨rfl,H2.out⟩
end
def Dg(k:Nat)(l:List AB):Prop:=∀u∈l,CQ u∧Ac k u=true
section
variable {X : Cx} {os : List AU} {m i ir ig : Nat} {W W' : World} {r b g M k q told : Nat} {o : AB} {l : List AB}
theorem Wd.U4(h:Wd X os m W)(hr:os[ir]?=some (AI r 161 (FG k g (q*k) M o told)))(hg:os[ig]?=some (CN b g M k l))(hk:0<k∧k≤5)(hM:q*k≤M∧M≤1000000∧q≤1000000)(hl:l.length=q)(ht:told≤q)(hf:Dg k l):∃ws,D5 W r k g (q*k) M q o told ws l∧r≠g:=by
 obtain⟨h1,ws,h2,h4,h5⟩:=h.at_ hg
 have Z5:=h.row hr
 exact⟨ws,⟨Z5,h4,hk,⟨rfl,hM.1,hM.2.1,h2,hM.2.2⟩,hl,ht,by rw[←hl];exact h5,hf⟩,fun e=>absurd (Z5.typed (e▸h4)) (by decide)⟩
theorem Wd.words(h:Wd X os m W)(hg:os[ig]?=some (CN b g M k l)){ws:List Nat}{l':List AB}(hf:AK (fun k=>k=g) W W')(hr:Row W' g 127 (ws.map vw))(hw:ws.length=M)(ht:ws.take (l'.length*k)=BA k l'):Wd X (os.set ig (CN b g M k l')) m W':=by
 obtain⟨h1,ws0,h2,h4,h5⟩:=h.at_ hg
 have Qz:b≠g:=fun e=>absurd (h1.typed (e▸h4)) (by decide)
 have hb':=hf.row h1 Qz
 refine h.I3 hg hf (fun k' Ep=>⟨.inr Ep,fun v hv=>?_⟩) Pm ⟨hb',ws,hw,hr,ht⟩ (fun k' Ep=>⟨.inl Ep,?_⟩) rfl rfl (fun _ _=>trivial)
 ·subst Ep;exact absurd (h4.typed hv) (by decide)
 ·exact Ep.elim (fun e=>by rw[e];exact hb'.lt) fun e=>by rw[e];exact hr.lt
theorem WU(h0:os[ir]?=some (AI r 161 (FG k g (q*k) M o told)))(hi:ir≠ig)(hk:0<k∧k≤5)(hM:q*k≤M∧M≤1000000∧q≤1000000)(ht:told≤q)(hlt:ig<os.length):
  JK r q o (fun l W=>Wd X (os.set ig (CN b g M k l)) m W∧l.length=q∧Dg k l):=by
 have hr:∀l,(os.set ig (CN b g M k l))[ir]?=some (AI r 161 (FG k g (q*k) M o told)):=fun l=>B4 h0 fun e=>hi e.symm
 have hg:∀l,(os.set ig (CN b g M k l))[ig]?=some (CN b g M k l):=fun l=>by rw[List.getElem?_set,if_pos rfl,if_pos hlt]
 have hss:∀l l',(os.set ig (CN b g M k l)).set ig (CN b g M k l')=os.set ig (CN b g M k l'):=fun l l'=>List.set_set _
 refine⟨fun l W h=>h.2.1,fun l W ⟨h,h1,h2⟩ i j hi hj=>?_,fun l W ⟨h,h1,h2⟩ i j hi hj Fa=>?_⟩
 ·obtain⟨ws,Z7,_⟩:=h.U4 (hr l) (hg l) hk hM h1 ht h2
  exact(WY Z7 hi hj).mono fun e w' ⟨he,hb⟩=>⟨he,h.below hb,h1,h2⟩
 ·obtain⟨ws,Z7,XB⟩:=h.U4 (hr l) (hg l) hk hM h1 ht h2
  refine(WV Z7 hi hj Fa XB).mono ?_
  rintro e w' ⟨he,⟨Bt,SF⟩,hf⟩
  have h9:=h.words (hg l) hf SF.words (SF.nn.2.2.2.1) (by rw[SF.len];exact SF.flat)
  rw[hss]at h9
  exact⟨he,h9,SF.len,SF.fit⟩
theorem EI{os:List AU}{i:Nat}{a:AU}(h:os[i]?=some a):os.set i a=os:=by
 refine List.ext_getElem? fun j=>?_
 rw[List.getElem?_set]
 by_cases Fa:i=j
 ·subst Fa
  rw[if_pos rfl,h,if_pos]
  rcases Nat.lt_or_ge i os.length with hl|hl
  ·exact hl
  ·rw[List.getElem?_eq_none hl]at h;cases h
 ·rw[if_neg Fa]
theorem IT{os:List AU}{i:Nat}{a:AU}(h:os[i]?=some a):i<os.length:=by
 rcases Nat.lt_or_ge i os.length with hl|hl
 ·exact hl
 ·rw[List.getElem?_eq_none hl]at h;cases h
theorem V5(h:Wd X os m W)(hr:os[ir]?=some (AI r 161 (FG k g (q*k) M o told)))(hg:os[ig]?=some (CN b g M k l))(hi:ir≠ig)(hk:0<k∧k≤5)(hM:q*k≤M∧M≤1000000∧q≤100000)(hl:l.length=q)(ht:told≤q)(hf:Dg k l):
  Calls Tryz.prog 93 #[.iface 157 (.pointer (some ⟨r,0,none⟩))] W fun e w'=>e=.returned (.tuple #[])∧∃l',Gz o l'∧Cl o l l'∧l'.length=q∧Dg k l'∧Wd X (os.set ig (CN b g M k l')) m w':=by
 have C:=WU (X:=X) (m:=m) (b:=b) hr hi hk ⟨hM.1,hM.2.1,by omega⟩ ht (IT hg)
 refine(dZ (l:=l) (W:=W) C hM.2.2 ⟨by rw[EI hg];exact h,hl,hf⟩ fun l W hR=>?_).mono ?_
 ·have hrow:=hR.1.row (B4 (b:=CN b g M k l) hr fun e=>hi e.symm)
  exact(Mq hrow hk.1 rfl (by omega)).mono fun e w' ⟨he,d,hw⟩=>⟨he,by rw[hw];exact hR.1.drewN d,hR.2⟩
 ·rintro e w' ⟨he,l',⟨h1,h2,h3⟩,hc,ha⟩
  exact⟨he,l',Qi.2 (by rw[h2];exact ha),hc.cl,h2,h3,h1⟩
theorem YS(h:Wd X os m W)(hr:os[ir]?=some (AI r 161 (FG k g (q*k) M o told)))(hg:os[ig]?=some (CN b g M k l))(hk:0<k∧k≤5)(hM:q*k≤M∧M≤1000000∧q≤1000000)(hl:l.length=q)(ht:told<q)(hf:Dg k l){t:AB}(YA:l[told]?=some t):
  Calls Tryz.prog 161 #[.pointer (some ⟨r,0,none⟩)] W fun e w'=>e=.returned (.tuple #[.agg #[.int .i64 t.a,.int .i64 t.b,.int .i64 t.c,.int .i64 t.d,.int .i64 t.e],.bool true,.int .i64 0])∧Wd X (os.set ir (AI r 161 (FG k g (q*k) M o (told+1)))) m w':=by
 obtain⟨ws,Z7,XB⟩:=h.U4 hr hg hk hM hl (by omega) hf
 have hd:l.getD told AD=t:=by rw[List.getD_eq_getElem?_getD,YA];rfl
 refine(ZB Z7 ht XB).mono ?_
 rw[hd]
 rintro e w' ⟨he,SF,KK⟩
 exact⟨he,h.Jz hr (by decide) KK SF.row⟩
theorem Pf(h:Wd X os m W)(hr:os[ir]?=some (AI r 161 (FG k g (q*k) M o q)))(hg:os[ig]?=some (CN b g M k l))(hk:0<k∧k≤5)(hM:q*k≤M∧M≤1000000∧q≤1000000)(hl:l.length=q)(hf:Dg k l):
  Calls Tryz.prog 161 #[.pointer (some ⟨r,0,none⟩)] W fun e w'=>e=.returned (.tuple #[.agg #[.int .i64 0,.int .i64 0,.int .i64 0,.int .i64 0,.int .i64 0],.bool false,.int .i64 0])∧Wd X os m w':=by
 obtain⟨ws,Z7,_⟩:=h.U4 hr hg hk hM hl (Nat.le_refl _) hf
 exact(WX Z7).mono fun e w' ⟨he,hb⟩=>⟨he,h.below hb⟩
def DR(l:List AB)(i:Nat)(t:AB):List AB:=l.take i++t::l.drop (i+1)
theorem J6{l:List AB}{i:Nat}{t:AB}(h:i≤l.length):(DR l i t).length=max l.length (i+1):=by unfold DR;rw[List.length_append,List.length_cons,List.length_take,List.length_drop];omega
theorem J7{l:List AB}{i p:Nat}{t:AB}(h:i≤l.length):(DR l i t).getD p AD=if p=i then t else l.getD p AD:=by
 unfold DR
 have hl:(l.take i).length=i:=by rw[List.length_take];omega
 rw[List.getD_eq_getElem?_getD,List.getD_eq_getElem?_getD]
 by_cases h1:p<i
 ·rw[if_neg (by omega),List.getElem?_append_left (by omega),List.getElem?_take,if_pos h1]
 ·rw[List.getElem?_append_right (by omega),hl]
  by_cases h2:p=i
  ·rw[if_pos h2,h2,Nat.sub_self];rfl
  ·rw[if_neg h2,show p-i=(p-i-1)+1 by omega,List.getElem?_cons_succ,List.getElem?_drop,show i+1+(p-i-1)=p by omega]
theorem Ri(l:List AB)(t:AB):DR l l.length t=l++[t]:=by unfold DR;rw[List.take_length,List.drop_eq_nil_of_le (by omega)]
theorem Rj{l:List AB}{i:Nat}{t:AB}(h:Dg k l)(ht:CQ t∧Ac k t=true):Dg k (DR l i t):=fun u hu=>by
 unfold DR at hu
 rcases List.mem_append.1 hu with hu|hu
 ·exact h u (List.mem_of_mem_take hu)
 ·rcases List.mem_cons.1 hu with hu|hu
  ·rw[hu];exact ht
  ·exact h u (List.mem_of_mem_drop hu)
theorem TW{ws:List Nat}{l:List AB}{i:Nat}{t:AB}(hk:k≤5)(hf:ws.take (l.length*k)=BA k l)(hi:i≤l.length)(hw:i*k+k≤ws.length)(hlw:l.length*k≤ws.length):(splice ws (i*k) (AY k t)).take ((DR l i t).length*k)=BA k (DR l i t):=by
 have Oz:=CG hk t
 have O4:(splice ws (i*k) (AY k t)).length=ws.length:=AR _ _ _ (by rw[Oz];exact hw)
 have hle:∀p p',p<p'→p*k+k≤p'*k:=fun p p' h=>by
  have:=Nat.mul_le_mul_right k (show p+1≤p' from h)
  rw[Nat.add_mul,Nat.one_mul]at this;exact this
 have hrow:∀p,p<l.length→(ws.drop (p*k)).take k=AY k (l.getD p AD):=fun p hp=>(KT hk rfl rfl hf (getD_some hp)).2
 have hlen:(DR l i t).length*k≤ws.length:=by
  rw[J6 hi]
  rcases Nat.le_total l.length (i+1)with h|h
  ·rw[Nat.max_eq_right h,Nat.add_mul,Nat.one_mul];exact hw
  ·rw[Nat.max_eq_left h];exact hlw
 refine Hi hk _ _ (by rw[O4];exact hlen) fun p hp=>?_
 have wj:p*k+k≤(DR l i t).length*k:=hle p _ hp
 rw[J7 hi]
 by_cases h1:p=i
 ·rw[if_pos h1,h1]
  unfold splice
  rw[List.drop_left' (by rw[List.length_take];omega),List.take_left' Oz]
 ·rw[if_neg h1]
  rw[J6 hi]at hp
  rw[←hrow p (by omega)]
  refine Py (by omega) (by omega) fun c hc=>?_
  rw[List.getD_eq_getElem?_getD,List.getD_eq_getElem?_getD,BL _ _ _ (by rw[Oz];exact hw)]
  rw[Oz]
  rcases Nat.lt_or_gt_of_ne h1 with h2|h2
  ·have:=hle p i h2;omega
  ·have:=hle i p h2;omega
theorem TM(h:Wd X os m W)(hg:os[ig]?=some (CN b g M k l))(hk:0<k∧k≤5){N:Nat}(i:Nat)(t:AB)(hi:i≤l.length)(hn:i*k+k≤N)(hM:N≤M∧M≤1000000)(hlw:l.length*k≤M):
  Calls Tryz.prog 112 #[.agg #[.int .i64 k,.slice (some ⟨g,0,none⟩) N M],.int .i64 i,.agg #[.int .i64 t.a,.int .i64 t.b,.int .i64 t.c,.int .i64 t.d,.int .i64 t.e]] W fun e w'=>e=.returned (.tuple #[])∧Wd X (os.set ig (CN b g M k (DR l i t))) m w'∧(∀{c ty vs},ty≠127→Row W c ty vs→Row w' c ty vs):=by
 obtain⟨h1,ws,h2,h4,h5⟩:=h.at_ hg
 refine(dh t h4 hk hn hM.1 hM.2 (by rw[h2];exact hM.1)).mono ?_
 rintro e w' ⟨he,hr,hf⟩
 exact⟨he,h.words hg hf hr (by rw[AR _ _ _ (by rw[CG hk.2];omega)];exact h2) (TW hk.2 h5 hi (by omega) (by omega)),fun hty hc=>hf.row hc fun e=>hty (Row.typed hc (e▸h4))⟩
theorem Wb(x:Nat)(w:World):Sem.run Tryz.prog (method 335 101 (.pointer (some ⟨x,0,none⟩)) "Next") w=.ok (52,.pointer (some ⟨x,0,none⟩)) w:=by kernel_rfl
end
section
variable {X : Cx} {os : List AU} {m ix ir ig : Nat} {W W' : World} {x r b g M k q told : Nat} {o : AB} {rt : Rt} {l : List AB}
def Cw(rt:Rt)(i:Nat):Rt:={rt with pos:=rt.pos+i}
def Io(X:Cx)(os:List AU)(m ix ig x b g M k:Nat)(rt:Rt)(l:List AB)(i:Nat)(w':World):Prop:=
 Wd X ((os.set ix (DQ X.p x (Cw rt i) X.sz l)).set ig (CN b g M k ((l.drop rt.pos).take i))) (m+(AA rt.h (rt.pos+i)-AA rt.h rt.pos)) w'
def KY(X:Cx)(os:List AU)(m ix ig x b g M k:Nat)(rt:Rt)(l:List AB)(i:Nat)(w':World):Prop:=
 Wd X ((os.set ix (DQ X.p x (Cw rt (i+1)) X.sz l)).set ig (CN b g M k ((l.drop rt.pos).take i))) (m+(AA rt.h (rt.pos+(i+1))-AA rt.h rt.pos)) w'
def LH(X:Cx)(os:List AU)(ix ig x b g M k:Nat)(w':World):Prop:=¬X.cm∧∃pV l' m',Wd X ((os.set ix (N3 X.p x pV)).set ig (CN b g M k l')) m' w'
theorem Wr(hi:ix≠ig)(hok:gB rt X.sz l)(Bv:Src os X.sz rt.first rt.k rt.h l)(hx:os[ix]?=some (DQ X.p x rt X.sz l))(hg:os[ig]?=some (CN b g M k [])){i:Nat}(hp:rt.pos+i<rt.count)(hn:X.N+(m+(AA rt.h (rt.pos+i)-AA rt.h rt.pos))<1000000){w:World}(h:Io X os m ix ig x b g M k rt l i w){t:AB}(ht:l[rt.pos+i]?=some t):
  Calls Tryz.prog 52 #[.pointer (some ⟨x,0,none⟩)] w fun e w'=>
   (e=.returned (.tuple #[.agg #[.int .i64 t.a,.int .i64 t.b,.int .i64 t.c,.int .i64 t.d,.int .i64 t.e],.bool true,.int .i64 0])∧Wd X ((os.set ix (DQ X.p x (Cw rt (i+1)) X.sz l)).set ig (CN b g M k ((l.drop rt.pos).take i))) (m+(AA rt.h (rt.pos+(i+1))-AA rt.h rt.pos)) w')∨
   (e=.returned (.tuple #[.agg #[.int .i64 0,.int .i64 0,.int .i64 0,.int .i64 0,.int .i64 0],.bool false,.int .i64 6])∧LH X os ix ig x b g M k w'):=by
 have wB:((os.set ix (DQ X.p x (Cw rt i) X.sz l)).set ig (CN b g M k ((l.drop rt.pos).take i)))[ix]?=some (DQ X.p x (Cw rt i) X.sz l):=B4 (Mn os hx _) fun e=>hi e.symm
 have XF:gB (Cw rt i) X.sz l:=⟨⟨hok.ok.k,hok.ok.h,hok.ok.sz,⟨hok.ok.count.1,by show rt.pos+i≤rt.count;omega⟩,hok.ok.first⟩,hok.cnt,hok.fit⟩
 have qJ:Src ((os.set ix (DQ X.p x (Cw rt i) X.sz l)).set ig (CN b g M k ((l.drop rt.pos).take i))) X.sz (Cw rt i).first (Cw rt i).k (Cw rt i).h l:=(Bv.set hx (b:=DQ X.p x (Cw rt i) X.sz l) ⟨rfl,rfl⟩).set (i:=ig) (a:=CN b g M k []) (B4 hg hi) ⟨rfl,rfl⟩
 have Aj:=Am (h:=rt.h) (c:=rt.pos) (c':=rt.pos+i) hok.ok.h.1 (by omega)
 have AX:=Am (h:=rt.h) (c:=rt.pos+i) (c':=rt.pos+(i+1)) hok.ok.h.1 (by omega)
 refine(MD h wB XF hn hp qJ ht).mono ?_
 rintro e w' (⟨he,h1⟩|⟨he,hc,h1⟩)
 ·refine .inl ⟨he,?_⟩
  rw[List.set_comm _ _ (fun e=>hi e.symm),List.set_set]at h1
  have e1:m+(AA rt.h (rt.pos+i)-AA rt.h rt.pos)+(AA (Cw rt i).h ((Cw rt i).pos+1)-AA (Cw rt i).h (Cw rt i).pos)=m+(AA rt.h (rt.pos+(i+1))-AA rt.h rt.pos):=by
   show m+(AA rt.h (rt.pos+i)-AA rt.h rt.pos)+(AA rt.h (rt.pos+i+1)-AA rt.h (rt.pos+i))= _
   rw[show rt.pos+i+1=rt.pos+(i+1)by omega];omega
  rw[e1]at h1
  exact h1
 ·rw[List.set_comm _ _ (fun e=>hi e.symm),List.set_set]at h1
  exact .inr ⟨he,hc,_,_,_,h1⟩
theorem FU{h:Nat}(hh:0<h)(p:Nat):∀i,AA h (p+i)≤AA h p+i
 |0=>Nat.le_refl _
 |i+1=>by
  have h1:=FU hh p i
  have h2:=Lf (h:=h) (i:=p+i) hh
  rw[show p+(i+1)=p+i+1 by omega,h2]
  split<;>omega
theorem WA{l:List AB}{p i:Nat}{t:AB}(ht:l[p+i]?=some t):DR ((l.drop p).take i) i t=(l.drop p).take (i+1):=by
 have uD:p+i<l.length:=(List.getElem?_eq_some_iff.1 ht).1
 have hl:((l.drop p).take i).length=i:=by rw[List.length_take,List.length_drop];omega
 have e:DR ((l.drop p).take i) i t=(l.drop p).take i++[t]:=by
  have:=Ri ((l.drop p).take i) t
  rwa [hl]at this
 rw[e,List.take_add_one,List.getElem?_drop,ht];rfl
theorem dD(h:Wd X os m W)(hr:os[ir]?=some (AI r 161 (FG k g (q*k) M o told)))(hg:os[ig]?=some (CN b g M k []))(hx:os[ix]?=some (DQ X.p x rt X.sz l))(XB:ir≠ig)(MI:ir≠ix)(Sy:ix≠ig)(hk:0<k∧k≤5)(hM:q*k≤M∧M≤1000000∧q≤100000)
  (hok:gB rt X.sz l) (Bv:Src os X.sz rt.first rt.k rt.h l) (hp:rt.pos+q≤rt.count) (hn:X.N+m+q+1≤1000000):
  Calls Tryz.prog 92 #[.pointer (some ⟨r,0,none⟩),.iface 101 (.pointer (some ⟨x,0,none⟩))] W fun e w'=>
   (e=.returned (.int .i64 0)∧Io X os m ix ig x b g M k rt l q w')∨(e=.returned (.int .i64 6)∧LH X os ix ig x b g M k w'):=by
 have mN:=Wb x
 have hrow:=h.row hr
 have Ew:=Lib.hid (Mq hrow hk.1 rfl (by omega))
 have H0:Hid (∀d,Io X os m ix ig x b g M k rt l 0 (W.drewN d)):=fun d=>by
  unfold Io
  have e1:Cw rt 0=rt:=rfl
  rw[e1,Nat.add_zero,Nat.sub_self,Nat.add_zero,List.take_zero,EI (i:=ix) hx,EI (i:=ig) hg]
  exact h.drewN d
 have Q7:Hid (∀i w t,i<q→l[rt.pos+i]?=some t→Io X os m ix ig x b g M k rt l i w→Calls Tryz.prog 52 #[.pointer (some ⟨x,0,none⟩)] w fun e w'=>
   (e=.returned (.tuple #[.agg #[.int .i64 t.a,.int .i64 t.b,.int .i64 t.c,.int .i64 t.d,.int .i64 t.e],.bool true,.int .i64 0])∧KY X os m ix ig x b g M k rt l i w')∨
   (e=.returned (.tuple #[.agg #[.int .i64 0,.int .i64 0,.int .i64 0,.int .i64 0,.int .i64 0],.bool false,.int .i64 6])∧LH X os ix ig x b g M k w')):=fun i w t hi ht hL=>by
  have hbd:AA rt.h (rt.pos+i)-AA rt.h rt.pos≤i:=by
   have h1:=FU hok.ok.h.1 rt.pos i
   omega
  exact Wr Sy hok Bv hx hg (by omega) (by omega) hL ht
 have HTU:Hid (∀i,i<q→∃t,l[rt.pos+i]?=some t):=fun i hi=>⟨_,List.getElem?_eq_getElem (by have:=hok.cnt;omega)⟩
 have Uh:Hid (∀i w t bt,i<q→l[rt.pos+i]?=some t→KY X os m ix ig x b g M k rt l i w→Row w bt 63 [.int .i64 t.a,.int .i64 t.b,.int .i64 t.c,.int .i64 t.d,.int .i64 t.e]→
   (w.cell? ⟨r,0,none⟩=some (.int .i64 k)∧w.cell? ⟨r,1,none⟩=some (.slice (some ⟨g,0,none⟩) (q*k) M))∧Calls Tryz.prog 112 #[.agg #[.int .i64 k,.slice (some ⟨g,0,none⟩) (q*k) M],.int .i64 i,.agg #[.int .i64 t.a,.int .i64 t.b,.int .i64 t.c,.int .i64 t.d,.int .i64 t.e]] w fun e w'=>e=.returned (.tuple #[])∧Io X os m ix ig x b g M k rt l (i+1) w'∧
    (w'.cell? ⟨r,0,none⟩=some (.int .i64 k)∧w'.cell? ⟨r,1,none⟩=some (.slice (some ⟨g,0,none⟩) (q*k) M))∧Row w' bt 63 [.int .i64 t.a,.int .i64 t.b,.int .i64 t.c,.int .i64 t.d,.int .i64 t.e]):=fun i w t bt hi ht hW OA=>by
  have Z5:=hW.row (B4 (b:=CN b g M k ((l.drop rt.pos).take i)) (B4 (b:=DQ X.p x (Cw rt (i+1)) X.sz l) hr fun e=>MI e.symm) fun e=>XB e.symm)
  have hl:((l.drop rt.pos).take i).length=i:=by rw[List.length_take,List.length_drop,hok.cnt];omega
  have UB:i*k+k≤q*k:=by
   have:=Nat.mul_le_mul_right k (show i+1≤q from hi)
   rw[Nat.add_mul,Nat.one_mul]at this;exact this
  refine⟨⟨Z5.cell 0,Z5.cell 1⟩,?_⟩
  refine(TM hW (Mn _ (B4 (b:=DQ X.p x (Cw rt (i+1)) X.sz l) hg Sy) _) hk i t (by omega) UB ⟨hM.1,hM.2.1⟩ (by rw[hl];omega)).mono ?_
  rintro e w' ⟨he,h1,h2⟩
  refine⟨he,?_,⟨(h2 (by decide) Z5).cell 0,(h2 (by decide) Z5).cell 1⟩,h2 (by decide) OA⟩
  rw[List.set_set,WA ht]at h1
  exact h1
 clear h hr hg hx XB MI Sy Bv hrow hok hp hn
 have o5:Hid (∀i w w',KY X os m ix ig x b g M k rt l i w→Below w.heap.size w w'→KY X os m ix ig x b g M k rt l i w'):=fun i w w' h1 h2=>Wd.below h1 h2
 have si:Hid (∀w w',LH X os ix ig x b g M k w→Below w.heap.size w w'→LH X os ix ig x b g M k w'):=fun w w' h1 h2=>by
  obtain⟨h3,pV,l',m',h4⟩:=h1
  exact⟨h3,pV,l',m',h4.below h2⟩
 generalize KY X os m ix ig x b g M k rt l=LM at*
 generalize Io X os m ix ig x b g M k rt l=LA at*
 generalize LH X os ix ig x b g M k=LN at*
 generalize q*k=N at*
 have hq:q≤100000:=hM.2.2
 go_enter Tryz.func92,Tryz.ntmps92
 go_wp2_with fail
 refine Ew.out.mono ?_
 rintro e w1 ⟨rfl,d,rfl⟩
 have H1:=Lib.hid (H0.out d)
 clear H0 Ew
 generalize W.drewN d=w1 at*
 go_wp2
 go_loopw [5,6,7,8,11] (fun _ _ _ _ iv wr=>∃i:Nat,i≤q∧iv=.int .i64 (i:Int)∧Hid (LA i wr)) (fun _ _ _ _ iv _=>q-(intOf iv).toNat)
 case atStart=>exact⟨0,Nat.zero_le _,rfl,H1.out⟩
 case round=>
  obtain⟨i,hi,rfl,HL⟩:=hrel
  by_cases hlt:i<q
  ·obtain⟨t,ht⟩:=HTU.out i hlt
   have ur:=Lib.hid (Q7.out i wr t hlt ht HL.out)
   have HT:=Lib.hid ht
   obtain⟨ta,tb,tc,td,te⟩:=t
   simp only at ur
   clear ht
   go_wp2_with fail
   refine ur.out.mono ?_
   rintro e w2 (⟨rfl,h2⟩|⟨rfl,h2⟩)
   ·have OA:Below w2.heap.size w2 (w2.alloc (.cells #[.int .i64 ta,.int .i64 tb,.int .i64 tc,.int .i64 td,.int .i64 te] 63)):=(Below.refl _ _).alloc (Nat.le_refl _) _
    have EC:Row (w2.alloc (.cells #[.int .i64 ta,.int .i64 tb,.int .i64 tc,.int .i64 td,.int .i64 te] 63)) w2.heap.size 63 [.int .i64 ta,.int .i64 tb,.int .i64 tc,.int .i64 td,.int .i64 te]:=heap_alloc_new _ _
    have De:=Lib.hid EC
    have Q6:=Lib.hid (o5.out _ _ _ h2 OA)
    clear h2 OA EC
    go_upto_region 7 with(fail)
    generalize w2.alloc (.cells #[.int .i64 ta,.int .i64 tb,.int .i64 tc,.int .i64 td,.int .i64 te] 63)=w3 at*
    generalize w2.heap.size=bt at*
    have Vp:Hid (((w3.drewN 1).cell? ⟨r,0,none⟩=some (.int .i64 k)∧(w3.drewN 1).cell? ⟨r,1,none⟩=some (.slice (some ⟨g,0,none⟩) N M))∧Calls Tryz.prog 112 #[.agg #[.int .i64 k,.slice (some ⟨g,0,none⟩) N M],.int .i64 i,.agg #[.int .i64 ta,.int .i64 tb,.int .i64 tc,.int .i64 td,.int .i64 te]] (w3.drewN 1) fun e w'=>e=.returned (.tuple #[])∧LA (i+1) w'∧
     (w'.cell? ⟨r,0,none⟩=some (.int .i64 k)∧w'.cell? ⟨r,1,none⟩=some (.slice (some ⟨g,0,none⟩) N M))∧Row w' bt 63 [.int .i64 ta,.int .i64 tb,.int .i64 tc,.int .i64 td,.int .i64 te]):=Uh.out i (w3.drewN 1) ⟨ta,tb,tc,td,te⟩ bt hlt HT.out (o5.out _ _ _ Q6.out (AG (Below.refl _ _) 1)) (De.out.drewN 1)
    have bT:Hid (Row (w3.drewN 1) bt 63 [.int .i64 ta,.int .i64 tb,.int .i64 tc,.int .i64 td,.int .i64 te]):=De.out.drewN 1
    have e0:w3.drew.cell? ⟨r,0,none⟩=some (.int .i64 k):=Vp.out.1.1
    have e1:w3.drew.cell? ⟨r,1,none⟩=some (.slice (some ⟨g,0,none⟩) N M):=Vp.out.1.2
    have d0:w3.drew.cell? ⟨bt,0,none⟩=some (.int .i64 ta):=bT.out.cell 0
    have d1:w3.drew.cell? ⟨bt,1,none⟩=some (.int .i64 tb):=bT.out.cell 1
    have d2:w3.drew.cell? ⟨bt,2,none⟩=some (.int .i64 tc):=bT.out.cell 2
    have d3:w3.drew.cell? ⟨bt,3,none⟩=some (.int .i64 td):=bT.out.cell 3
    have d4:w3.drew.cell? ⟨bt,4,none⟩=some (.int .i64 te):=bT.out.cell 4
    have jj:=Lib.hid Vp.out.2
    have hdr:w3.drewN 1=w3.drew:=rfl
    rw[hdr]at jj
    clear hdr Vp
    go_region_held3 (fun w'=>w'.cell? ⟨r,0,none⟩=some (.int .i64 k)∧w'.cell? ⟨r,1,none⟩=some (.slice (some ⟨g,0,none⟩) N M)∧w'.cell? ⟨bt,0,none⟩=some (.int .i64 ta)∧w'.cell? ⟨bt,1,none⟩=some (.int .i64 tb)∧w'.cell? ⟨bt,2,none⟩=some (.int .i64 tc)∧w'.cell? ⟨bt,3,none⟩=some (.int .i64 td)∧w'.cell? ⟨bt,4,none⟩=some (.int .i64 te)) (first|with_reducible exact⟨e0,e1,d0,d1,d2,d3,d4⟩|with_reducible exact q2)
     ((go_at_call 112;(with_reducible refine jj.out.mono ?_);rintro e w5 ⟨rfl,h5,h6,h7⟩;obtain⟨H5,q2⟩:Hid (LA (i+1) w5)∧(w5.cell? ⟨r,0,none⟩=some (.int .i64 k)∧w5.cell? ⟨r,1,none⟩=some (.slice (some ⟨g,0,none⟩) N M)∧w5.cell? ⟨bt,0,none⟩=some (.int .i64 ta)∧w5.cell? ⟨bt,1,none⟩=some (.int .i64 tb)∧w5.cell? ⟨bt,2,none⟩=some (.int .i64 tc)∧w5.cell? ⟨bt,3,none⟩=some (.int .i64 td)∧w5.cell? ⟨bt,4,none⟩=some (.int .i64 te)):=⟨h5,h6.1,h6.2,h7.cell 0,h7.cell 1,h7.cell 2,h7.cell 3,h7.cell 4⟩))
    go_wp2
    go_roundw
    case rel=>exact⟨i+1,by omega,by go_num,H5.out⟩
    case measure=>simp[intOf];omega
   ·have H2:=Lib.hid h2
    clear h2
    go_wp2
    go_ret
    exact .inr ⟨rfl,si.out _ _ H2.out ((Below.refl _ _).alloc (Nat.le_refl _) _)⟩
  ·obtain rfl:i=q:=by omega
   go_wp2
   go_ret
   exact .inl ⟨rfl,HL.out⟩
end
noncomputable def Kw (P:Nat→Prop):Nat:=@dite Nat (∃n,P n∧∀m,P m→n≤m) (Classical.propDecidable _) (fun h=>h.choose) (fun _=>0)
theorem R1{P:Nat→Prop}{n:Nat}(h:P n):P (Kw P)∧Kw P≤n:=by
 have hex:∀k m,m≤k→P m→∃n,P n∧∀m,P m→n≤m:=fun k=>by
  induction k with
  |zero=>intro m hm h;exact⟨m,h,fun q _=>by omega⟩
  |succ k ih=>
   intro m hm h
   by_cases hq:∃q,q<m∧P q
   ·obtain⟨q,h1,h2⟩:=hq
    exact ih q (by omega) h2
   ·exact⟨m,h,fun q h1=>Nat.not_lt.1 fun h2=>hq ⟨q,h2,h1⟩⟩
 have h0:=hex n n (Nat.le_refl _) h
 have e:Kw P=h0.choose:=by unfold Kw;rw[dif_pos h0]
 rw[e]
 exact⟨h0.choose_spec.1,h0.choose_spec.2 n h⟩
def jM(fN:Nat)(vF:Value)(J:Nat→World→Prop)(Jm:AB→Nat→World→Prop)(E Er:World→Prop):Prop:=
 ∀n w,J n w→Calls Tryz.prog fN #[vF] w fun e w'=>
  (∃t n',e=.returned (.tuple #[I2 t,.bool true,.int .i64 0])∧n'<n∧Jm t n' w')∨
  (e=.returned (.tuple #[I2 AD,.bool false,.int .i64 0])∧E w')∨(e=.returned (.tuple #[I2 AD,.bool false,.int .i64 6])∧Er w')
def sC(fP:Nat)(vT:Value)(J:Nat→World→Prop)(Jm:AB→Nat→World→Prop)(Er:World→Prop):Prop:=
 ∀t n w,Jm t n w→Calls Tryz.prog fP #[vT,I2 t] w fun e w'=>(e=.returned (.int .i64 0)∧J n w')∨(e=.returned (.int .i64 6)∧Er w')
theorem Rk{tF tT fN fP n:Nat}{vF vT:Value}{J:Nat→World→Prop}{Jm:AB→Nat→World→Prop}{E Er:World→Prop}{W:World}
  (mN:∀w,Sem.run Tryz.prog (method 335 tF vF "Next") w=.ok (fN,vF) w) (mP:∀w,Sem.run Tryz.prog (method 335 tT vT "Put") w=.ok (fP,vT) w)
  (eN:∀args w,Sem.run Tryz.prog (callFunc fN args) w=.ok (.enter fN args) w) (eP:∀args w,Sem.run Tryz.prog (callFunc fP args) w=.ok (.enter fP args) w)
  (hN:jM fN vF J Jm E Er) (hP:sC fP vT J Jm Er)
  (bJm:∀t n w w',Jm t n w→Below w.heap.size w w'→Jm t n w') (bE:∀w w',E w→Below w.heap.size w w'→E w') (bEr:∀w w',Er w→Below w.heap.size w w'→Er w')
  (h:J n W):Calls Tryz.prog 71 #[.iface tF vF,.iface tT vT] W fun e w'=>(e=.returned (.int .i64 0)∧E w')∨(e=.returned (.int .i64 6)∧Er w'):=by
 have HN:=Lib.hid hN
 have HP:=Lib.hid hP
 have BJ:=Lib.hid bJm
 have BE:=Lib.hid bE
 have BR:=Lib.hid bEr
 have H:=Lib.hid h
 clear hN hP bJm bE bEr h
 go_enter Tryz.func71,Tryz.ntmps71
 go_wp2_with fail
 go_loopw [4] (fun _ wr=>∃k:Nat,Hid (J k wr)) (fun _ wr=>Kw fun k=>J k wr)
 case atStart=>exact⟨n,H⟩
 case round=>
  obtain⟨k,hJ⟩:=hrel
  have HJ:Hid (J (Kw fun k=>J k wr) wr):=(R1 (P:=fun k=>J k wr) hJ.out).1
  have ur:=Lib.hid (HN.out _ wr HJ.out)
  clear hJ
  go_wp2_with fail
  refine ur.out.mono ?_
  rintro e w2 (⟨t,n',rfl,wv,h2⟩|⟨rfl,h2⟩|⟨rfl,h2⟩)
  ·have Jv:=Lib.hid wv
   have Q6:=Lib.hid (BJ.out t n' _ _ h2 ((Below.refl w2.heap.size w2).alloc (Nat.le_refl _) (.cells #[.int .i64 t.a,.int .i64 t.b,.int .i64 t.c,.int .i64 t.d,.int .i64 t.e] 63)))
   have EC:Row (w2.alloc (.cells #[.int .i64 t.a,.int .i64 t.b,.int .i64 t.c,.int .i64 t.d,.int .i64 t.e] 63)) w2.heap.size 63 [.int .i64 t.a,.int .i64 t.b,.int .i64 t.c,.int .i64 t.d,.int .i64 t.e]:=heap_alloc_new _ _
   have De:=Lib.hid EC
   clear h2 EC wv
   unfold I2
   go_upto_region 4 with(fail)
   generalize w2.alloc (.cells #[.int .i64 t.a,.int .i64 t.b,.int .i64 t.c,.int .i64 t.d,.int .i64 t.e] 63)=w3 at*
   generalize w2.heap.size=bt at*
   have sX:=Lib.hid (HP.out t n' w3 Q6.out)
   unfold I2 at sX
   have d0:w3.cell? ⟨bt,0,none⟩=some (.int .i64 t.a):=De.out.cell 0
   have d1:w3.cell? ⟨bt,1,none⟩=some (.int .i64 t.b):=De.out.cell 1
   have d2:w3.cell? ⟨bt,2,none⟩=some (.int .i64 t.c):=De.out.cell 2
   have d3:w3.cell? ⟨bt,3,none⟩=some (.int .i64 t.d):=De.out.cell 3
   have d4:w3.cell? ⟨bt,4,none⟩=some (.int .i64 t.e):=De.out.cell 4
   go_wp2_with fail
   refine sX.out.mono ?_
   rintro e w4 (⟨rfl,h4⟩|⟨rfl,h4⟩)
   ·have H4:=Lib.hid h4
    clear h4
    go_wp2
    go_roundw
    case rel=>exact⟨n',H4⟩
    case measure=>exact Nat.lt_of_le_of_lt (R1 (P:=fun k=>J k w4) H4.out).2 Jv.out
   ·have H4:=Lib.hid h4
    clear h4
    go_wp2
    go_ret
    exact .inr ⟨rfl,H4.out⟩
  ·have H2:=Lib.hid h2
   clear h2
   unfold I2 AD
   go_wp2
   go_ret
   exact .inl ⟨rfl,BE.out _ _ H2.out ((Below.refl _ _).alloc (Nat.le_refl _) _)⟩
  ·have H2:=Lib.hid h2
   clear h2
   unfold I2 AD
   go_wp2
   go_ret
   exact .inr ⟨rfl,BR.out _ _ H2.out ((Below.refl _ _).alloc (Nat.le_refl _) _)⟩
def Ie(x:Nat)(o:AB)(hd:Bool)(la:AB):List Value:=[.iface 74 (.pointer (some ⟨x,0,none⟩)),.int .i64 o.a,.int .i64 o.b,.int .i64 o.c,.int .i64 o.d,.int .i64 o.e,.bool hd,.int .i64 la.a,.int .i64 la.b,.int .i64 la.c,.int .i64 la.d,.int .i64 la.e]
theorem RA(x:Nat)(w:World):Sem.run Tryz.prog (method 335 74 (.pointer (some ⟨x,0,none⟩)) "Put") w=.ok (39,.pointer (some ⟨x,0,none⟩)) w:=by kernel_rfl
section
variable {X : Cx} {os : List AU} {m iw jf : Nat} {W W' : World} {x f : Nat} {o la t : AB} {hd : Bool}
theorem PI{W:World}(hr:Row W f 156 (Ie x o hd la)):Row (((((((W.setCell ⟨f,6,none⟩ (.bool true)).setCell ⟨f,7,none⟩ (.int .i64 t.a)).setCell ⟨f,8,none⟩ (.int .i64 t.b)).setCell ⟨f,9,none⟩ (.int .i64 t.c)).setCell ⟨f,10,none⟩ (.int .i64 t.d)).setCell ⟨f,11,none⟩ (.int .i64 t.e)).drew) f 156 (Ie x o true t)∧
  AK (fun k=>k=f) W (((((((W.setCell ⟨f,6,none⟩ (.bool true)).setCell ⟨f,7,none⟩ (.int .i64 t.a)).setCell ⟨f,8,none⟩ (.int .i64 t.b)).setCell ⟨f,9,none⟩ (.int .i64 t.c)).setCell ⟨f,10,none⟩ (.int .i64 t.d)).setCell ⟨f,11,none⟩ (.int .i64 t.e)).drew):=
 ⟨by
  have h:=((((((hr.set 6 (.bool true)).set 7 (.int .i64 t.a)).set 8 (.int .i64 t.b)).set 9 (.int .i64 t.c)).set 10 (.int .i64 t.d)).set 11 (.int .i64 t.e)).drewN 1
  have e:((((((Ie x o hd la).set 6 (.bool true)).set 7 (.int .i64 t.a)).set 8 (.int .i64 t.b)).set 9 (.int .i64 t.c)).set 10 (.int .i64 t.d)).set 11 (.int .i64 t.e)=Ie x o true t:=rfl
  rw[e]at h
  exact h,by
  have h0:AK (fun k=>k=f) W W:=AK.refl _ _
  have h1:=h0.set (p:=⟨f,6,none⟩) (.inl rfl) (.bool true)
  have h2:=h1.set (p:=⟨f,7,none⟩) (.inl rfl) (.int .i64 t.a)
  have h3:=h2.set (p:=⟨f,8,none⟩) (.inl rfl) (.int .i64 t.b)
  have h4:=h3.set (p:=⟨f,9,none⟩) (.inl rfl) (.int .i64 t.c)
  have h5:=h4.set (p:=⟨f,10,none⟩) (.inl rfl) (.int .i64 t.d)
  exact(h5.set (p:=⟨f,11,none⟩) (.inl rfl) (.int .i64 t.e)).drew⟩
theorem bF(W:World)(t:AB):Below W.heap.size W (W.alloc (.cells #[.int .i64 t.a,.int .i64 t.b,.int .i64 t.c,.int .i64 t.d,.int .i64 t.e] 63))∧Row (W.alloc (.cells #[.int .i64 t.a,.int .i64 t.b,.int .i64 t.c,.int .i64 t.d,.int .i64 t.e] 63)) W.heap.size 63 [.int .i64 t.a,.int .i64 t.b,.int .i64 t.c,.int .i64 t.d,.int .i64 t.e]:=⟨(Below.refl _ _).alloc (Nat.le_refl _) _,heap_alloc_new _ _⟩
theorem XU(hr:Row W f 156 (Ie x o true la))(hc:AN o la t=0):Calls Tryz.prog 158 #[.pointer (some ⟨f,0,none⟩),.agg #[.int .i64 t.a,.int .i64 t.b,.int .i64 t.c,.int .i64 t.d,.int .i64 t.e]] W fun e w'=>e=.returned (.int .i64 0)∧Below W.heap.size W w':=by
 obtain⟨Aj,EC⟩:=bF W t
 have NG:=hr.below Aj hr.lt
 have Kj:=Lib.hid Aj
 have Q1:Hid (∀W d os,Calls Tryz.prog 159 #[.agg #[.int .i64 la.a,.int .i64 la.b,.int .i64 la.c,.int .i64 la.d,.int .i64 la.e],.agg #[.int .i64 t.a,.int .i64 t.b,.int .i64 t.c,.int .i64 t.d,.int .i64 t.e],.agg #[.int .i64 o.a,.int .i64 o.b,.int .i64 o.c,.int .i64 o.d,.int .i64 o.e]] (Sort.grow (redrawn W d) os) fun e DG=>e=.returned (.int .i64 0)∧∃p:Regrown,DG=Sort.grow (redrawn W p.d) p.os):=fun W d os=>Calls.regrown_of (by have:=MM o la t (Sort.grow (redrawn W d) os);rw[hc]at this;exact this)
 have De:=Lib.hid EC
 have Eh:=Lib.hid NG
 clear Aj hr EC NG hc
 obtain⟨ta,tb,tc,td,te⟩:=t
 obtain⟨vn,vm,vh,vg,ve⟩:=la
 obtain⟨oa,ob,oc,od,oe⟩:=o
 simp only[Ie]at*
 go_enter Tryz.func158,Tryz.ntmps158
 go_upto_region 1 with(fail)
 have k6:=cell_regrown (Eh.out.cell 6)
 have k1:=cell_regrown (Eh.out.cell 1)
 have k2:=cell_regrown (Eh.out.cell 2)
 have k3:=cell_regrown (Eh.out.cell 3)
 have k4:=cell_regrown (Eh.out.cell 4)
 have k5:=cell_regrown (Eh.out.cell 5)
 have k7:=cell_regrown (Eh.out.cell 7)
 have k8:=cell_regrown (Eh.out.cell 8)
 have k9:=cell_regrown (Eh.out.cell 9)
 have eY:=cell_regrown (Eh.out.cell 10)
 have z8:=cell_regrown (Eh.out.cell 11)
 have b0:=cell_regrown (De.out.cell 0)
 have b1:=cell_regrown (De.out.cell 1)
 have b2:=cell_regrown (De.out.cell 2)
 have b3:=cell_regrown (De.out.cell 3)
 have b4:=cell_regrown (De.out.cell 4)
 generalize W.alloc (.cells #[.int .i64 ta,.int .i64 tb,.int .i64 tc,.int .i64 td,.int .i64 te] 63)=W1 at*
 generalize hsz:W.heap.size=bt at*
 have Li:=Lib.hid hsz
 clear hsz
 refine wp_region_quiet_below (by kernel_rfl) (by kernel_rfl) ?_
 repeat(any_goals(first|go_big_quiet_step (with_reducible first|exact Q1.out _ _ _)|quiet_step (with_reducible first|exact Q1.out _ _ _)))
 refine wpQuiet_nil ?_
 intro w5 EU
 obtain⟨⟨dq,osq⟩,EU⟩:=EU
 have Bm:=below_regrown W1 dq osq
 rw[←EU]at Bm
 have HB:=Lib.hid Bm
 clear EU Bm
 go_wp2
 go_ret
 exact⟨rfl,by rw[Li.out];exact Kj.out.trans (HB.out.mono (by have h9:=Kj.out.size;rw[Li.out]at h9;exact h9))⟩
theorem fW(hr:Row W f 156 (Ie x o hd la))(hc:hd=true→AN o la t≠0){P:Int→World→Prop}(hP:∀W6,Row W6 f 156 (Ie x o true t)→AK (fun k=>k=f) W W6→Calls Tryz.prog 39 #[.pointer (some ⟨x,0,none⟩),.agg #[.int .i64 t.a,.int .i64 t.b,.int .i64 t.c,.int .i64 t.d,.int .i64 t.e]] W6 fun e w'=>∃er,e=.returned (.int .i64 er)∧P er w'):Calls Tryz.prog 158 #[.pointer (some ⟨f,0,none⟩),.agg #[.int .i64 t.a,.int .i64 t.b,.int .i64 t.c,.int .i64 t.d,.int .i64 t.e]] W fun e w'=>∃er,e=.returned (.int .i64 er)∧P er w':=by
 obtain⟨Aj,EC⟩:=bF W t
 have NG:=hr.below Aj hr.lt
 have Kj:=Lib.hid Aj
 have mP:=RA x
 have HP:=Lib.hid hP
 clear hP
 have iX:=hr.lt
 have HFW:=Lib.hid iX
 clear iX
 have Q1:Hid (∀W d os,Calls Tryz.prog 159 #[.agg #[.int .i64 la.a,.int .i64 la.b,.int .i64 la.c,.int .i64 la.d,.int .i64 la.e],.agg #[.int .i64 t.a,.int .i64 t.b,.int .i64 t.c,.int .i64 t.d,.int .i64 t.e],.agg #[.int .i64 o.a,.int .i64 o.b,.int .i64 o.c,.int .i64 o.d,.int .i64 o.e]] (Sort.grow (redrawn W d) os) fun e DG=>e=.returned (.int .i64 (AN o la t))∧∃p:Regrown,DG=Sort.grow (redrawn W p.d) p.os):=fun W d os=>Calls.regrown_of (MM o la t (Sort.grow (redrawn W d) os))
 generalize AN o la t=res at*
 have De:=Lib.hid EC
 have Eh:=Lib.hid NG
 clear Aj hr EC NG
 obtain⟨ta,tb,tc,td,te⟩:=t
 obtain⟨vn,vm,vh,vg,ve⟩:=la
 obtain⟨oa,ob,oc,od,oe⟩:=o
 simp only[Ie]at*
 cases hd
 case false=>
  clear hc
  go_enter Tryz.func158,Tryz.ntmps158
  go_upto_region 1 with(fail)
  have k6:=cell_regrown (Eh.out.cell 6)
  have k1:=cell_regrown (Eh.out.cell 1)
  have k2:=cell_regrown (Eh.out.cell 2)
  have k3:=cell_regrown (Eh.out.cell 3)
  have k4:=cell_regrown (Eh.out.cell 4)
  have k5:=cell_regrown (Eh.out.cell 5)
  have k7:=cell_regrown (Eh.out.cell 7)
  have k8:=cell_regrown (Eh.out.cell 8)
  have k9:=cell_regrown (Eh.out.cell 9)
  have eY:=cell_regrown (Eh.out.cell 10)
  have z8:=cell_regrown (Eh.out.cell 11)
  have b0:=cell_regrown (De.out.cell 0)
  have b1:=cell_regrown (De.out.cell 1)
  have b2:=cell_regrown (De.out.cell 2)
  have b3:=cell_regrown (De.out.cell 3)
  have b4:=cell_regrown (De.out.cell 4)
  generalize W.alloc (.cells #[.int .i64 ta,.int .i64 tb,.int .i64 tc,.int .i64 td,.int .i64 te] 63)=W1 at*
  generalize hsz:W.heap.size=bt at*
  have Li:=Lib.hid hsz
  clear hsz
  refine wp_region_quiet_below (by kernel_rfl) (by kernel_rfl) ?_
  repeat(any_goals(first|go_big_quiet_step (with_reducible first|exact Q1.out _ _ _)|quiet_step (with_reducible first|exact Q1.out _ _ _)))
  refine wpQuiet_nil ?_
  intro w5 EU
  obtain⟨⟨dq,osq⟩,EU⟩:=EU
  have Bm:=below_regrown W1 dq osq
  rw[←EU]at Bm
  have HB:=Lib.hid Bm
  clear EU Bm
  go_upto_region 3 with(fail)
  have r6:=Eh.out.below HB.out Eh.out.lt
  have t6:=De.out.below HB.out De.out.lt
  have c1:=t6.cell 0
  have c2:=t6.cell 1
  have c3:=t6.cell 2
  have c4:=t6.cell 3
  have c5:=t6.cell 4
  have e6:=r6.cell 6
  have f6:=r6.free 6
  have e7:=r6.cell 7
  have f7:=r6.free 7
  have e8:=r6.cell 8
  have f8:=r6.free 8
  have e9:=r6.cell 9
  have f9:=r6.free 9
  have yL:=r6.cell 10
  have f10:=r6.free 10
  have yK:=r6.cell 11
  have f11:=r6.free 11
  have l6:=r6.lt
  have l7:=t6.lt
  go_region
  obtain⟨r7,F7⟩:=PI (t:=⟨ta,tb,tc,td,te⟩) (la:=⟨vn,vm,vh,vg,ve⟩) (o:=⟨oa,ob,oc,od,oe⟩) r6
  have I4:f≠bt:=by have h9:=HFW.out;omega
  have t7:=F7.row t6 fun e=>I4 e.symm
  have TF:Below W.heap.size W w5:=by rw[Li.out];exact Kj.out.trans (HB.out.mono (by have h9:=Kj.out.size;rw[Li.out]at h9;exact h9))
  have hF:AK (fun k=>k=f) W (((((((w5.setCell ⟨f,6,none⟩ (.bool true)).setCell ⟨f,7,none⟩ (.int .i64 ta)).setCell ⟨f,8,none⟩ (.int .i64 tb)).setCell ⟨f,9,none⟩ (.int .i64 tc)).setCell ⟨f,10,none⟩ (.int .i64 td)).setCell ⟨f,11,none⟩ (.int .i64 te)).drew):=(AK.AJ TF _).trans F7 fun b hb=>.inl hb
  have HC:=Lib.hid (fun d=>HP.out (World.drewN _ d) (r7.drewN d) (hF.drewN d))
  clear e6 f6 e7 f7 e8 f8 e9 f9 yL f10 yK f11 c1 c2 c3 c4 c5 r6 t6 l6 l7 F7 hF
  generalize(((((((w5.setCell ⟨f,6,none⟩ (.bool true)).setCell ⟨f,7,none⟩ (.int .i64 ta)).setCell ⟨f,8,none⟩ (.int .i64 tb)).setCell ⟨f,9,none⟩ (.int .i64 tc)).setCell ⟨f,10,none⟩ (.int .i64 td)).setCell ⟨f,11,none⟩ (.int .i64 te)).drew)=W7 at*
  have e0:W7.cell? ⟨f,0,none⟩=some (.iface 74 (.pointer (some ⟨x,0,none⟩))):=r7.cell 0
  have c1:=t7.cell 0
  have c2:=t7.cell 1
  have c3:=t7.cell 2
  have c4:=t7.cell 3
  have c5:=t7.cell 4
  go_upto_region 4 with(fail)
  refine wp_region_still_tail 5 (by kernel_rfl) (by kernel_rfl) ?_
  simp only[List.take_succ_cons,List.take_zero,List.drop_succ_cons,List.drop_zero]
  change wpStill Tryz.prog _ W7.drew (fun a'=>wpList Tryz.prog _ _ _ a' W7.drew) _ _
  repeat still_step
  refine wpStill_nil ?_
  go_wp2_with fail
  refine(HC.out 1).mono ?_
  rintro e w9 ⟨er,rfl,qf⟩
  have H9:=Lib.hid qf
  clear qf
  go_wp2
  go_ret
  exact⟨er,rfl,H9.out⟩
 case true=>
  have hne:=hc rfl
  clear hc
  go_enter Tryz.func158,Tryz.ntmps158
  go_upto_region 1 with(fail)
  have k6:=cell_regrown (Eh.out.cell 6)
  have k1:=cell_regrown (Eh.out.cell 1)
  have k2:=cell_regrown (Eh.out.cell 2)
  have k3:=cell_regrown (Eh.out.cell 3)
  have k4:=cell_regrown (Eh.out.cell 4)
  have k5:=cell_regrown (Eh.out.cell 5)
  have k7:=cell_regrown (Eh.out.cell 7)
  have k8:=cell_regrown (Eh.out.cell 8)
  have k9:=cell_regrown (Eh.out.cell 9)
  have eY:=cell_regrown (Eh.out.cell 10)
  have z8:=cell_regrown (Eh.out.cell 11)
  have b0:=cell_regrown (De.out.cell 0)
  have b1:=cell_regrown (De.out.cell 1)
  have b2:=cell_regrown (De.out.cell 2)
  have b3:=cell_regrown (De.out.cell 3)
  have b4:=cell_regrown (De.out.cell 4)
  generalize W.alloc (.cells #[.int .i64 ta,.int .i64 tb,.int .i64 tc,.int .i64 td,.int .i64 te] 63)=W1 at*
  generalize hsz:W.heap.size=bt at*
  have Li:=Lib.hid hsz
  clear hsz
  refine wp_region_quiet_below (by kernel_rfl) (by kernel_rfl) ?_
  repeat(any_goals(first|go_big_quiet_step (with_reducible first|exact Q1.out _ _ _)|quiet_step (with_reducible first|exact Q1.out _ _ _)))
  refine wpQuiet_nil ?_
  intro w5 EU
  obtain⟨⟨dq,osq⟩,EU⟩:=EU
  have Bm:=below_regrown W1 dq osq
  rw[←EU]at Bm
  have HB:=Lib.hid Bm
  clear EU Bm
  go_upto_region 3 with(fail)
  have r6:=Eh.out.below HB.out Eh.out.lt
  have t6:=De.out.below HB.out De.out.lt
  have c1:=t6.cell 0
  have c2:=t6.cell 1
  have c3:=t6.cell 2
  have c4:=t6.cell 3
  have c5:=t6.cell 4
  have e6:=r6.cell 6
  have f6:=r6.free 6
  have e7:=r6.cell 7
  have f7:=r6.free 7
  have e8:=r6.cell 8
  have f8:=r6.free 8
  have e9:=r6.cell 9
  have f9:=r6.free 9
  have yL:=r6.cell 10
  have f10:=r6.free 10
  have yK:=r6.cell 11
  have f11:=r6.free 11
  have l6:=r6.lt
  have l7:=t6.lt
  go_region
  obtain⟨r7,F7⟩:=PI (t:=⟨ta,tb,tc,td,te⟩) (la:=⟨vn,vm,vh,vg,ve⟩) (o:=⟨oa,ob,oc,od,oe⟩) r6
  have I4:f≠bt:=by have h9:=HFW.out;omega
  have t7:=F7.row t6 fun e=>I4 e.symm
  have TF:Below W.heap.size W w5:=by rw[Li.out];exact Kj.out.trans (HB.out.mono (by have h9:=Kj.out.size;rw[Li.out]at h9;exact h9))
  have hF:AK (fun k=>k=f) W (((((((w5.setCell ⟨f,6,none⟩ (.bool true)).setCell ⟨f,7,none⟩ (.int .i64 ta)).setCell ⟨f,8,none⟩ (.int .i64 tb)).setCell ⟨f,9,none⟩ (.int .i64 tc)).setCell ⟨f,10,none⟩ (.int .i64 td)).setCell ⟨f,11,none⟩ (.int .i64 te)).drew):=(AK.AJ TF _).trans F7 fun b hb=>.inl hb
  have HC:=Lib.hid (fun d=>HP.out (World.drewN _ d) (r7.drewN d) (hF.drewN d))
  clear e6 f6 e7 f7 e8 f8 e9 f9 yL f10 yK f11 c1 c2 c3 c4 c5 r6 t6 l6 l7 F7 hF
  generalize(((((((w5.setCell ⟨f,6,none⟩ (.bool true)).setCell ⟨f,7,none⟩ (.int .i64 ta)).setCell ⟨f,8,none⟩ (.int .i64 tb)).setCell ⟨f,9,none⟩ (.int .i64 tc)).setCell ⟨f,10,none⟩ (.int .i64 td)).setCell ⟨f,11,none⟩ (.int .i64 te)).drew)=W7 at*
  have e0:W7.cell? ⟨f,0,none⟩=some (.iface 74 (.pointer (some ⟨x,0,none⟩))):=r7.cell 0
  have c1:=t7.cell 0
  have c2:=t7.cell 1
  have c3:=t7.cell 2
  have c4:=t7.cell 3
  have c5:=t7.cell 4
  go_upto_region 4 with(fail)
  refine wp_region_still_tail 5 (by kernel_rfl) (by kernel_rfl) ?_
  simp only[List.take_succ_cons,List.take_zero,List.drop_succ_cons,List.drop_zero]
  change wpStill Tryz.prog _ W7.drew (fun a'=>wpList Tryz.prog _ _ _ a' W7.drew) _ _
  repeat still_step
  refine wpStill_nil ?_
  go_wp2_with fail
  refine(HC.out 1).mono ?_
  rintro e w9 ⟨er,rfl,qf⟩
  have H9:=Lib.hid qf
  clear qf
  go_wp2
  go_ret
  exact⟨er,rfl,H9.out⟩
end
section
variable {X : Cx} {os a b z : List AU} {m i j n : Nat} {W W' : World} {G : Nat → Prop} {D : St} {A : Ar} {S : Sp} {x v : AU}
theorem By(hz:z.length=n):(a++z++b)[a.length+n+j]?=b[j]?:=by
 rw[List.getElem?_append_right (by rw[List.length_append];omega),List.length_append,hz,show a.length+n+j-(a.length+n)=j by omega]
theorem CY(hz:z.length=n):(a++z++b).set (a.length+n+j) v=a++z++b.set j v:=by
 rw[List.set_append,if_neg (by rw[List.length_append];omega),List.length_append,hz,show a.length+n+j-(a.length+n)=j by omega]
theorem Zp(hj:j<z.length):(a++z++b)[a.length+j]?=z[j]?:=by
 rw[List.getElem?_append_left (by rw[List.length_append];omega),List.getElem?_append_right (by omega),show a.length+j-a.length=j by omega]
theorem NB(hj:j<z.length):(a++z++b).set (a.length+j) v=a++z.set j v++b:=by
 rw[List.set_append,if_pos (by rw[List.length_append];omega),List.set_append,if_neg (by omega),show a.length+j-a.length=j by omega]
def pZ(n j:Nat):Nat:=if j<n then j else j+1
theorem U7{n i j:Nat}(h:pZ n i=pZ n j):i=j:=by unfold pZ at h;split at h<;>split at h<;>omega
theorem GH(hj:(a++b)[j]?=some v):(a++x::b)[pZ a.length j]?=some v:=by
 unfold pZ
 split
 ·next h=>rw[List.getElem?_append_left h]at hj⊢;exact hj
 ·next h=>
  rw[List.getElem?_append_right (by omega)]at hj
  rw[List.getElem?_append_right (by omega),show j+1-a.length=(j-a.length)+1 by omega,List.getElem?_cons_succ];exact hj
theorem kP(hj:(a++x::b)[j]?=some v):v=x∨∃i:Nat,(a++b)[i]?=some v:=by
 rcases Nat.lt_or_ge j a.length with h|h
 ·rw[List.getElem?_append_left h]at hj
  exact .inr ⟨j,by rw[List.getElem?_append_left h];exact hj⟩
 ·rw[List.getElem?_append_right h]at hj
  obtain⟨k,hk⟩:∃k,j-a.length=k:=⟨_,rfl⟩
  rw[hk]at hj
  cases k with
  |zero=>exact .inl (by rw[List.getElem?_cons_zero]at hj;exact(Option.some.inj hj).symm)
  |succ k=>exact .inr ⟨a.length+k,by rw[List.getElem?_append_right (by omega),show a.length+k-a.length=k by omega];rwa [List.getElem?_cons_succ]at hj⟩
theorem BI{α:Type}(f:α→Nat)(l k:List α):Aa f (l++k)=Aa f l+Aa f k:=by unfold Aa;rw[List.map_append,List.sum_append]
theorem BZ{α:Type}(f:α→Nat)(q:α)(k:List α):Aa f (q::k)=f q+Aa f k:=by unfold Aa;rw[List.map_cons,List.sum_cons]
theorem Fb.cut (h : Fb X (a ++ x :: b) m W G D A S) (hg : x.gr = none) (hx : x.ex.2 = 0) : Fb X (a ++ b) m W G D A S := by
  have Hs : x.gw = 0 := by unfold AU.gw; rw [hg]
  have vu : x.xw = 0 := hx
  have hu := h.used
  have hs := h.sum
  rw [BI, BZ] at hu hs
  exact { sys := h.sys, Ii := h.Ii, base := h.base, Lg := h.Lg, size := h.size, blocks := h.blocks, alive := h.alive, calm := h.calm, Ab := h.Ab, room := h.room, s0 := h.s0, sp := h.sp, range := h.range
          used := by rw [BI]; omega
          sum := by rw [BI]; omega
          ok := fun j c hc => h.ok _ c (GH hc)
          st := fun j c p q hc hg => h.st _ c p q (GH hc) hg
          mem := fun j c hc => h.mem _ c (GH hc)
          Nb := fun j c hc => h.Nb _ c (GH hc)
          apart := fun j j2 c c2 hc N8 hne => h.apart _ _ c c2 (GH hc) (GH N8) fun e => hne (U7 e)
          exa := fun j j2 c c2 hc N8 hne => h.exa _ _ c c2 (GH hc) (GH N8) fun e => hne (U7 e)
          exs := fun j c hc => h.exs _ c (GH hc)
          free := fun z => by
            rw [h.free z]
            refine ⟨fun ⟨h1, h2⟩ => ⟨h1, fun j c hc => h2 _ c (GH hc)⟩, fun ⟨h1, h2⟩ => ⟨h1, fun j c hc CM => ?_⟩⟩
            rcases kP hc with e | ⟨i, hi⟩
            · rw [e] at CM; unfold En at CM; omega
            · exact h2 i c hi CM }
theorem Wd.cut(h:Wd X (a++x::b) m W)(hg:x.gr=none)(hx:x.ex.2=0):Wd X (a++b) m W:=by
 obtain⟨G,D,A,S,h⟩:=h
 exact⟨G,D,A,S,h.cut hg hx⟩
def GP(l:List AU):Prop:=∀q∈l,q.gr=none∧q.ex.2=0
theorem Wd.fh:∀(z:List AU) (_:GP z) (_:Wd X (a++z++b) m W),Wd X (a++b) m W
 |[],_,h=>by rwa [List.append_nil]at h
 |q::z,hb,h=>by
  have hq:=hb q List.mem_cons_self
  have h1:Wd X (a++q::(z++b)) m W:=by simpa using h
  have h2:=h1.cut hq.1 hq.2
  exact Wd.fh z (fun u hu=>hb u (List.mem_cons_of_mem _ hu)) (by rw[List.append_assoc];exact h2)
end
def BC(once:Bool)(o:AB)(s:List AB):List AB:=if once then As o s else s
theorem M8(once:Bool)(o:AB)(s:List AB):(BC once o s).length≤s.length:=by
 unfold BC;split
 ·exact My o s
 ·exact Nat.le_refl _
def Sl(X:Cx)(x n:Nat)(z:List AU):Prop:=∃t r,z=jn X.p x t::r∧z.length=n∧GP r
structure bM (X:Cx) (o:AB) (once:Bool) (k hh bd x tT fP:Nat) (vT:Value) (Z:List AB→List AU) (n:Nat):Prop where
 len:∀s,(Z s).length=n
 mm:∀w,Sem.run Tryz.prog (method 335 tT vT "Put") w=.ok (fP,vT) w
 me:∀args w,Sem.run Tryz.prog (callFunc fP args) w=.ok (.enter fP args) w
 put:∀(AO Ou:List AU) (m:Nat) (s:List AB) (tu:AB) (W:World),Wd X (AO++Z s++Ou) m W→Ac k tu=true→s.length<bd→X.N+m<1000000→
  Calls Tryz.prog fP #[vT,I2 tu] W fun e w'=>
   (e=.returned (.int .i64 0)∧Wd X (AO++Z (s++[tu])++Ou) (m+((BC once o (s++[tu])).length/hh-(BC once o s).length/hh)) w')∨
   (e=.returned (.int .i64 6)∧¬X.cm∧∃z m',Sl X x n z∧Wd X (AO++z++Ou) m' w')
 hd:∀s,s.length≤bd→∃t r,Z s=Ir X.p x t X.sz::r∧B8 t X.sz∧t.k=k∧t.h=hh∧t.bound=bd∧t.l=BC once o s∧GP r
def Nz(t:Wt)(l:List AB):Wt:={t with l:=l}
theorem Pj{t:Wt}{sz:Nat}(h:B8 t sz){l:List AB}(hl:l.length≤t.bound):B8 (Nz t l) sz:=⟨h.k,h.h,h.sz,⟨h.bound.1,hl⟩,h.blocks,h.first⟩
section
variable {X : Cx} {t0 : Wt} {o : AB} {x f : Nat}
theorem pS(hok:B8 t0 X.sz):bM X o false t0.k t0.h t0.bound x 74 39 (.pointer (some ⟨x,0,none⟩)) (fun s=>[Ir X.p x (Nz t0 s) X.sz]) 1 where
 len:=fun _=>rfl
 mm:=RA x
 me:=fun args w=>by kernel_rfl
 put:=fun AO Ou m s tu W h hf hs hn=>by
  have hi:(AO++[Ir X.p x (Nz t0 s) X.sz]++Ou)[AO.length+0]?=some (Ir X.p x (Nz t0 s) X.sz):=Zp (j:=0) (by simp)
  refine(TN h hi (Pj hok (by omega)) hn hf (by show s.length<t0.bound;exact hs)).mono ?_
  rintro e w' (⟨he,h1⟩|⟨he,hc,h1⟩)
  ·rw[NB (by simp)]at h1
   refine .inl ⟨he,?_⟩
   have e1:(BC false o (s++[tu])).length/t0.h-(BC false o s).length/t0.h=((Nz t0 s).l.length+1)/(Nz t0 s).h-(Nz t0 s).l.length/(Nz t0 s).h:=by
    show (s++[tu]).length/t0.h-s.length/t0.h=(s.length+1)/t0.h-s.length/t0.h
    rw[List.length_append];rfl
   rw[e1];exact h1
  ·rw[NB (by simp)]at h1
   exact .inr ⟨he,hc,_,_,⟨_,[],rfl,rfl,fun q hq=>by cases hq⟩,h1⟩
 hd:=fun s hs=>⟨_,[],rfl,Pj hok hs,rfl,rfl,rfl,rfl,fun q hq=>by cases hq⟩
def Qc(x:Nat)(o:AB)(q:List AB):List Value:=Ie x o (!q.isEmpty) (q.getLast?.getD AD)
theorem Xb(x:Nat)(o:AB)(q:List AB)(t:AB):Qc x o (q++[t])=Ie x o true t:=by
 unfold Qc;rw[List.getLast?_concat]
 cases q<;>rfl
theorem an(f:Nat)(w:World):Sem.run Tryz.prog (method 335 154 (.pointer (some ⟨f,0,none⟩)) "Put") w=.ok (158,.pointer (some ⟨f,0,none⟩)) w:=by kernel_rfl
theorem pT(hok:B8 t0 X.sz):bM X o true t0.k t0.h t0.bound x 154 158 (.pointer (some ⟨f,0,none⟩)) (fun s=>[Ir X.p x (Nz t0 (As o s)) X.sz,AI f 156 (Qc x o (As o s))]) 2 where
 len:=fun _=>rfl
 mm:=an f
 me:=fun args w=>by kernel_rfl
 put:=fun AO Ou m s tu W h hf hs hn=>by
  have hle:=My o s
  have hsn:=JX o s tu
  have hj:(AO++[Ir X.p x (Nz t0 (As o s)) X.sz,AI f 156 (Qc x o (As o s))]++Ou)[AO.length+1]?=some (AI f 156 (Qc x o (As o s))):=Zp (j:=1) (by simp)
  have hrow:=h.row hj
  have xF:∀q,BC true o q=As o q:=fun q=>rfl
  simp only[xF]
  by_cases Zz:∃u,(As o s).getLast?=some u∧AN o u tu=0
  ·obtain⟨u,hu,hc⟩:=Zz
   have e1:As o (s++[tu])=As o s:=by
    rw[hsn];unfold stepO;rw[hu];simp only[if_pos hc]
   have e2:Qc x o (As o s)=Ie x o true u:=by
    unfold Qc;rw[hu]
    cases hq:As o s with
    |nil=>rw[hq]at hu;cases hu
    |cons a l=>rfl
   rw[e2]at hrow
   refine(XU hrow hc).mono ?_
   rintro e w' ⟨he,hb⟩
   refine .inl ⟨he,?_⟩
   rw[e1,Nat.sub_self,Nat.add_zero]
   exact h.below hb
  ·have e1:As o (s++[tu])=As o s++[tu]:=by
    rw[hsn];unfold stepO
    cases hu:(As o s).getLast? with
    |none=>rfl
    |some u=>simp only[if_neg fun hc=>Zz ⟨u,hu,hc⟩]
   have hgo:(!(As o s).isEmpty)=true→AN o ((As o s).getLast?.getD AD) tu≠0:=fun hne hc=>by
    cases hu:(As o s).getLast? with
    |none=>rw[List.getLast?_eq_none_iff.1 hu]at hne;cases hne
    |some u=>rw[hu]at hc;exact Zz ⟨u,hu,hc⟩
   refine(fW (P:=fun er w'=>(er=0∧Wd X (AO++[Ir X.p x (Nz t0 (As o (s++[tu]))) X.sz,AI f 156 (Qc x o (As o (s++[tu])))]++Ou) (m+((As o (s++[tu])).length/t0.h-(As o s).length/t0.h)) w')∨
    (er=6∧¬X.cm∧∃z m',Sl X x 2 z∧Wd X (AO++z++Ou) m' w')) hrow hgo fun W6 FJ Ju=>?_).mono ?_
   ·have h6:=h.Jz hj (by decide) Ju FJ
    rw[NB (by simp)]at h6
    have rX:Wd X (AO++[Ir X.p x (Nz t0 (As o s)) X.sz,AI f 156 (Ie x o true tu)]++Ou) m W6:=h6
    have hi:(AO++[Ir X.p x (Nz t0 (As o s)) X.sz,AI f 156 (Ie x o true tu)]++Ou)[AO.length+0]?=some (Ir X.p x (Nz t0 (As o s)) X.sz):=Zp (j:=0) (by simp)
    refine(TN rX hi (Pj hok (by omega)) hn hf (by show (As o s).length<t0.bound;omega)).mono ?_
    rintro e w' (⟨he,h1⟩|⟨he,hc,h1⟩)
    ·rw[NB (by simp)]at h1
     refine⟨0,he,.inl ⟨rfl,?_⟩⟩
     rw[e1,Xb]
     have e2:((As o s++[tu]).length/t0.h-(As o s).length/t0.h)=((Nz t0 (As o s)).l.length+1)/(Nz t0 (As o s)).h-(Nz t0 (As o s)).l.length/(Nz t0 (As o s)).h:=by
      rw[List.length_append];rfl
     rw[e2];exact h1
    ·rw[NB (by simp)]at h1
     exact⟨6,he,.inr ⟨rfl,hc,_,_,⟨_,[AI f 156 (Ie x o true tu)],rfl,rfl,fun q hq=>by rw[List.mem_singleton.1 hq];exact⟨rfl,rfl⟩⟩,h1⟩⟩
   ·rintro e w' ⟨er,he,⟨rfl,h1⟩|⟨rfl,h1⟩⟩
    ·exact .inl ⟨he,h1⟩
    ·exact .inr ⟨he,h1⟩
 hd:=fun s hs=>⟨_,_,rfl,Pj hok (Nat.le_trans (My o s) hs),rfl,rfl,rfl,rfl,fun q hq=>by rw[List.mem_singleton.1 hq];exact⟨rfl,rfl⟩⟩
end
theorem Ym(o:AB)(q:List AB)(t:AB):q.length≤(stepO o q t).length:=by
 unfold stepO
 split
 ·split
  ·exact Nat.le_refl _
  ·rw[List.length_append];omega
 ·rw[List.length_append];omega
theorem Zi(once:Bool)(o:AB)(s:List AB)(t:AB):(BC once o s).length≤(BC once o (s++[t])).length:=by
 unfold BC;split
 ·rw[JX];exact Ym _ _ _
 ·rw[List.length_append];omega
def ES(once:Bool)(o:AB)(hh:Nat)(s:List AB):Nat:=(BC once o s).length/hh
theorem JR(once:Bool)(o:AB)(hh:Nat)(s:List AB):ES once o hh s≤s.length:=Nat.le_trans (Nat.div_le_self _ _) (M8 once o s)
theorem RC(once:Bool)(o:AB)(hh:Nat)(s:List AB)(t:AB)(m:Nat):m+ES once o hh s+((BC once o (s++[t])).length/hh-(BC once o s).length/hh)=m+ES once o hh (s++[t]):=by
 have:=Nat.div_le_div_right (c:=hh) (Zi once o s t)
 unfold ES;omega
theorem Tg(r:Nat)(w:World):Sem.run Tryz.prog (method 335 157 (.pointer (some ⟨r,0,none⟩)) "Next") w=.ok (161,.pointer (some ⟨r,0,none⟩)) w:=by kernel_rfl
section
variable {X : Cx} {AO : List AU} {o : AB} {once : Bool} {k hh bd xw tT fP n : Nat} {vT : Value} {Z : List AB → List AU} {bx rd : AU} {r b g M q m : Nat} {s0 l : List AB} {W : World}
def GG(AO:List AU)(Z:List AB→List AU)(bx rd:AU)(b g M k q r:Nat)(o:AB)(s l:List AB)(told:Nat):List AU:=AO++Z s++[bx,rd,CN b g M k l,AI r 161 (FG k g (q*k) M o told)]
theorem Y0(hS:bM X o once k hh bd xw tT fP vT Z n)(hk:0<k∧k≤5)(hM:q*k≤M∧M≤1000000∧q≤1000000)(hl:l.length=q)(hf:Dg k l)(hbd:s0.length+q≤bd)(hn:X.N+m+(s0.length+q)<1000000)
  (h:Wd X (GG AO Z bx rd b g M k q r o s0 l 0) (m+ES once o hh s0) W):
  Calls Tryz.prog 71 #[.iface 157 (.pointer (some ⟨r,0,none⟩)),.iface tT vT] W fun e w'=>
   (e=.returned (.int .i64 0)∧Wd X (GG AO Z bx rd b g M k q r o (s0++l) l q) (m+ES once o hh (s0++l)) w')∨
   (e=.returned (.int .i64 6)∧¬X.cm∧∃z m' told,Sl X xw n z∧Wd X (AO++z++[bx,rd,CN b g M k l,AI r 161 (FG k g (q*k) M o told)]) m' w'):=by
 have O4:∀told,told≤q→(s0++l.take told).length=s0.length+told:=fun told ht=>by rw[List.length_append,List.length_take];omega
 refine Rk (n:=q) (J:=fun j w=>∃told,told+j=q∧Wd X (GG AO Z bx rd b g M k q r o (s0++l.take told) l told) (m+ES once o hh (s0++l.take told)) w)
  (Jm:=fun t j w=>∃told,told+1+j=q∧l[told]?=some t∧Wd X (GG AO Z bx rd b g M k q r o (s0++l.take told) l (told+1)) (m+ES once o hh (s0++l.take told)) w)
  (E:=fun w=>Wd X (GG AO Z bx rd b g M k q r o (s0++l) l q) (m+ES once o hh (s0++l)) w)
  (Er:=fun w=>¬X.cm∧∃z m' told,Sl X xw n z∧Wd X (AO++z++[bx,rd,CN b g M k l,AI r 161 (FG k g (q*k) M o told)]) m' w)
  (Tg r) hS.mm (fun args w=>by kernel_rfl) hS.me ?_ ?_ ?_ ?_ ?_ ⟨0,by omega,by rw[List.take_zero,List.append_nil];exact h⟩
 ·rintro j w ⟨told,ht,h1⟩
  have hr:(GG AO Z bx rd b g M k q r o (s0++l.take told) l told)[AO.length+n+3]?=some (AI r 161 (FG k g (q*k) M o told)):=By (j:=3) (hS.len _)
  have hg:(GG AO Z bx rd b g M k q r o (s0++l.take told) l told)[AO.length+n+2]?=some (CN b g M k l):=By (j:=2) (hS.len _)
  rcases Nat.eq_or_lt_of_le (show told≤q by omega)with he|hlt
  ·subst he
   refine(Pf h1 hr hg hk hM hl hf).mono ?_
   rintro e w' ⟨he,h2⟩
   refine .inr (.inl ⟨he,?_⟩)
   rwa [List.take_of_length_le (by omega)]at h2
  ·have hx:l[told]?=some (l[told]'(by omega)):=List.getElem?_eq_getElem _
   refine(YS h1 hr hg hk hM hl hlt hf hx).mono ?_
   rintro e w' ⟨he,h2⟩
   refine .inl ⟨_,j-1,he,by omega,told,by omega,hx,?_⟩
   have e1:(GG AO Z bx rd b g M k q r o (s0++l.take told) l told).set (AO.length+n+3) (AI r 161 (FG k g (q*k) M o (told+1)))=GG AO Z bx rd b g M k q r o (s0++l.take told) l (told+1):=CY (j:=3) (hS.len _)
   rw[e1]at h2;exact h2
 ·rintro t j w ⟨told,ht,hx,h1⟩
  have hle:=JR once o hh (s0++l.take told)
  rw[O4 told (by omega)]at hle
  refine(hS.put AO _ _ _ t w h1 (hf t (List.mem_of_getElem? hx)).2 (by rw[O4 told (by omega)];omega) (by omega)).mono ?_
  have e1:s0++l.take told++[t]=s0++l.take (told+1):=by rw[List.append_assoc,List.take_add_one,hx];rfl
  rintro e w' (⟨he,h2⟩|⟨he,hc,z,m',hz,h2⟩)
  ·rw[RC,e1]at h2
   exact .inl ⟨he,told+1,by omega,h2⟩
  ·exact .inr ⟨he,hc,z,m',told+1,hz,h2⟩
 ·rintro t j w w' ⟨told,ht,hx,h1⟩ hb
  exact⟨told,ht,hx,h1.below hb⟩
 ·exact fun w w' h1 hb=>h1.below hb
 ·rintro w w' ⟨hc,z,m',told,hz,h1⟩ hb
  exact⟨hc,z,m',told,hz,h1.below hb⟩
end
def TG(o:AB)(q:Nat)(s:List AB):Prop:=∀j,Gz o ((s.drop (j*q)).take q)
theorem KX(o:AB):Gz o []:=by simp[Gz]
theorem bD{o:AB}{a b c d:List AB}(h1:Cl o a b)(h2:Cl o c d):Cl o (a++c) (b++d):=fun t=>by rw[List.filter_append,List.filter_append,h1 t,h2 t]
theorem Sh{o:AB}{q i:Nat}{s r:List AB}(h:TG o q s)(hs:s.length=i*q)(hr:Gz o r)(hq:r.length≤q):TG o q (s++r):=fun j=>by
 rcases Nat.lt_trichotomy j i with hlt|he|hgt
 ·have h1:j*q+q≤i*q:=by
   have:=Nat.mul_le_mul_right q (show j+1≤i from hlt)
   rw[Nat.add_mul,Nat.one_mul]at this;exact this
  rw[List.drop_append_of_le_length (by omega),List.take_append_of_le_length (by rw[List.length_drop];omega)]
  exact h j
 ·subst he
  rw[←hs,List.drop_left,List.take_of_length_le hq];exact hr
 ·have h1:i*q+q≤j*q:=by
   have:=Nat.mul_le_mul_right q (show i+1≤j from hgt)
   rw[Nat.add_mul,Nat.one_mul]at this;exact this
  rw[List.drop_eq_nil_of_le (by rw[List.length_append];omega),List.take_nil];exact KX o
def Bc(w k hh rb Ak:Nat)(o:AB)(once:Bool)(cnt:Nat):List Value:=[.int .i64 k,.int .i64 hh,.int .i64 rb,.int .i64 Ak,.pointer (some ⟨w,0,none⟩),.int .i64 o.a,.int .i64 o.b,.int .i64 o.c,.int .i64 o.d,.int .i64 o.e,.bool once,.int .i64 cnt]
def L6(X:Cx)(x bd n:Nat)(Z:List AB→List AU)(z:List AU):Prop:=(∃s,s.length≤bd∧z=Z s)∨Sl X x n z
theorem Tm{a z b:List AU}{j:Nat}{v:AU}(h:a[j]?=some v):(a++z++b)[j]?=some v:=by
 have hj:j<a.length:=by
  rcases Nat.lt_or_ge j a.length with hl|hl
  ·exact hl
  ·rw[List.getElem?_eq_none hl]at h;cases h
 rw[List.append_assoc,List.getElem?_append_left hj];exact h
structure FP where
 X:Cx
 AO:List AU
 Z:List AB→List AU
 o:AB
 once:Bool
 k:Nat
 hh:Nat
 bd:Nat
 xw:Nat
 tT:Nat
 fP:Nat
 vT:Value
 n:Nat
 first:Nat
 nb:Nat
 count:Nat
 q:Nat
 m:Nat
 fb:Nat
 x:Nat
 b:Nat
 g:Nat
 tb:Nat
 tg:Nat
 l:List AB
def FP.rt(P:FP):Rt:=⟨P.k,P.hh,P.first,P.nb,P.count,0,P.b,P.g⟩
def FP.bx(P:FP):AU:=AI P.fb 39 [.int .i64 P.first,.int .i64 P.nb,.int .i64 P.k,.int .i64 P.count]
def FP.rd(P:FP)(c:Nat):AU:=DQ P.X.p P.x (Cw P.rt c) P.X.sz P.l
def FP.tp(P:FP)(l:List AB):AU:=CN P.tb P.tg (P.q*P.k) P.k l
def FP.run(P:FP)(r q told:Nat):AU:=AI r 161 (FG P.k P.tg (q*P.k) (P.q*P.k) P.o told)
def FP.mm(P:FP)(c:Nat)(s:List AB):Nat:=P.m+AA P.hh c+ES P.once P.o P.hh s
structure FP.Ok (P:FP):Prop where
 S:bM P.X P.o P.once P.k P.hh P.bd P.xw P.tT P.fP P.vT P.Z P.n
 f:Jr P.first P.nb P.k P.hh P.l P.X.sz
 c:P.l.length=P.count
 src:Src P.AO P.X.sz P.first P.k P.hh P.l
 q:P.q≤P.count∧P.q*P.k≤1000000
 bd:P.count≤P.bd∧P.bd≤100000
 n:P.X.N+P.m+3*P.count+3≤1000000
 rok:Fc P.rt P.X.sz
structure FP.mw (P:FP) (c:Nat) (s:List AB):Prop where
 len:s.length=c
 asc:TG P.o P.q s
 cl:Cl P.o (P.l.take c) s
 fit:Dg P.k s
def FP.A(P:FP)(c:Nat)(W:World):Prop:=∃s,P.mw c s∧Wd P.X (P.AO++P.Z s++[P.bx,P.rd c,P.tp []]) (P.mm c s) W
def FP.nx(P:FP)(c:Nat):Nat:=min P.q (P.count-c)
def FP.B(P:FP)(c r:Nat)(W:World):Prop:=∃s,P.mw c s∧Wd P.X (P.AO++P.Z s++[P.bx,P.rd c,P.tp [],P.run r (P.nx c) 0]) (P.mm c s) W
def FP.C(P:FP)(c r:Nat)(W:World):Prop:=∃s,P.mw c s∧Wd P.X (P.AO++P.Z s++[P.bx,P.rd (c+P.nx c),P.tp ((P.l.drop c).take (P.nx c)),P.run r (P.nx c) 0]) (P.mm (c+P.nx c) s) W
def FP.D(P:FP)(c r:Nat)(W:World):Prop:=∃s l',P.mw c s∧(Gz P.o l'∧Cl P.o ((P.l.drop c).take (P.nx c)) l'∧l'.length=P.nx c∧Dg P.k l')∧Wd P.X (P.AO++P.Z s++[P.bx,P.rd (c+P.nx c),P.tp l',P.run r (P.nx c) 0]) (P.mm (c+P.nx c) s) W
def FP.No(P:FP)(W:World):Prop:=¬P.X.cm∧∃z rd tl l' m',L6 P.X P.xw P.bd P.n P.Z z∧((∃c,rd=P.rd c)∨∃r',rd=N3 P.X.p P.x r')∧GP tl∧Wd P.X (P.AO++z++P.bx::rd::P.tp l'::tl) m' W
section
variable {P : FP} {c r : Nat} {W W' : World}
theorem FP.ZZ(hP:P.Ok){s:List AB}(hs:s.length≤c)(hc:c≤P.count):P.X.N+P.mm c s+P.count+3≤1000000:=by
 have h1:=JR P.once P.o P.hh s
 have h2:=FU (h:=P.hh) hP.f.hh.1 0 c
 rw[Nat.zero_add,Aw]at h2
 have h3:=hP.n
 unfold FP.mm;omega
theorem FP.ZV(c:Nat):P.nx c≤P.q∧P.nx c≤P.count-c:=⟨Nat.min_le_left _ _,Nat.min_le_right _ _⟩
theorem FP.toB(h:P.A c W){g:Nat}(hb:Below W.heap.size W W')(hr:Row W' g 161 (FG P.k P.tg (P.nx c*P.k) (P.q*P.k) P.o 0))(hg:W.heap.size≤g):P.B c g W':=by
 obtain⟨s,h1,h2⟩:=h
 refine⟨s,h1,?_⟩
 have h3:=h2.new hb hr hg
 rw[List.append_assoc]at h3
 exact h3
theorem FP.B.load(hP:P.Ok)(hc:c≤P.count)(h:P.B c r W):Calls Tryz.prog 92 #[.pointer (some ⟨r,0,none⟩),.iface 101 (.pointer (some ⟨P.x,0,none⟩))] W fun e w'=>(e=.returned (.int .i64 0)∧P.C c r w')∨(e=.returned (.int .i64 6)∧P.No w'):=by
 obtain⟨s,h1,h2⟩:=h
 have hn:=P.ZV c
 have hq:=hP.q
 have hlen:=hP.S.len s
 have hx:(P.AO++P.Z s++[P.bx,P.rd c,P.tp [],P.run r (P.nx c) 0])[P.AO.length+P.n+1]?=some (DQ P.X.p P.x (Cw P.rt c) P.X.sz P.l):=By (j:=1) hlen
 have hg:(P.AO++P.Z s++[P.bx,P.rd c,P.tp [],P.run r (P.nx c) 0])[P.AO.length+P.n+2]?=some (CN P.tb P.tg (P.q*P.k) P.k []):=By (j:=2) hlen
 have hr:(P.AO++P.Z s++[P.bx,P.rd c,P.tp [],P.run r (P.nx c) 0])[P.AO.length+P.n+3]?=some (AI r 161 (FG P.k P.tg (P.nx c*P.k) (P.q*P.k) P.o 0)):=By (j:=3) hlen
 have hmm:=P.ZZ hP (Nat.le_of_eq h1.len) hc
 have wZ:gB (Cw P.rt c) P.X.sz P.l:=⟨⟨hP.rok.k,hP.rok.h,hP.rok.sz,⟨hP.rok.count.1,by show 0+c≤P.count;omega⟩,hP.rok.first⟩,hP.c,hP.f.fit⟩
 have Bv:Src (P.AO++P.Z s++[P.bx,P.rd c,P.tp [],P.run r (P.nx c) 0]) P.X.sz (Cw P.rt c).first (Cw P.rt c).k (Cw P.rt c).h P.l:=by
  obtain⟨j,f,hj,h3⟩:=hP.src
  exact⟨j,f,Tm hj,h3⟩
 refine(dD h2 hr hg hx (by omega) (by omega) (by omega) hP.f.kk ⟨Nat.mul_le_mul_right _ hn.1,hq.2,by have:=hP.bd;omega⟩ wZ Bv (by show 0+c+P.nx c≤P.count;omega) (by omega)).mono ?_
 rintro e w' (⟨he,h3⟩|⟨he,DP,pV,l',m',h3⟩)
 ·refine .inl ⟨he,s,h1,?_⟩
  unfold Io at h3
  rw[CY hlen,CY hlen]at h3
  have e1:P.mm c s+(AA (Cw P.rt c).h ((Cw P.rt c).pos+P.nx c)-AA (Cw P.rt c).h (Cw P.rt c).pos)=P.mm (c+P.nx c) s:=by
   have:=Am (h:=P.hh) (c:=c) (c':=c+P.nx c) hP.f.hh.1 (by omega)
   show P.mm c s+(AA P.hh (0+c+P.nx c)-AA P.hh (0+c))= _
   rw[Nat.zero_add]
   unfold FP.mm;omega
  rw[e1]at h3
  have e2:Cw (Cw P.rt c) (P.nx c)=Cw P.rt (c+P.nx c):=by
   show ({P.rt with pos:=0+c+P.nx c}:Rt)={P.rt with pos:=0+(c+P.nx c)}
   rw[Nat.add_assoc]
  rw[e2,show (Cw P.rt c).pos=c from Nat.zero_add c]at h3
  exact h3
 ·refine .inr ⟨he,DP,P.Z s,_,[P.run r (P.nx c) 0],l',m',.inl ⟨s,by rw[h1.len];have:=hP.bd;omega,rfl⟩,.inr ⟨pV,rfl⟩,fun q hq=>by rw[List.mem_singleton.1 hq];exact⟨rfl,rfl⟩,?_⟩
  rw[CY hlen,CY hlen]at h3
  exact h3
theorem FP.C.j3(hP:P.Ok)(h:P.C c r W):Calls Tryz.prog 93 #[.iface 157 (.pointer (some ⟨r,0,none⟩))] W fun e w'=>e=.returned (.tuple #[])∧P.D c r w':=by
 obtain⟨s,h1,h2⟩:=h
 have hn:=P.ZV c
 have hq:=hP.q
 have hlen:=hP.S.len s
 have MJ:((P.l.drop c).take (P.nx c)).length=P.nx c:=by rw[List.length_take,List.length_drop,hP.c];omega
 have hg:(P.AO++P.Z s++[P.bx,P.rd (c+P.nx c),P.tp ((P.l.drop c).take (P.nx c)),P.run r (P.nx c) 0])[P.AO.length+P.n+2]?=some (CN P.tb P.tg (P.q*P.k) P.k ((P.l.drop c).take (P.nx c))):=By (j:=2) hlen
 have hr:(P.AO++P.Z s++[P.bx,P.rd (c+P.nx c),P.tp ((P.l.drop c).take (P.nx c)),P.run r (P.nx c) 0])[P.AO.length+P.n+3]?=some (AI r 161 (FG P.k P.tg (P.nx c*P.k) (P.q*P.k) P.o 0)):=By (j:=3) hlen
 refine(V5 h2 hr hg (by omega) hP.f.kk ⟨Nat.mul_le_mul_right _ hn.1,hq.2,by have:=hP.bd;omega⟩ MJ (Nat.zero_le _) fun u hu=>hP.f.fit u (List.mem_of_mem_drop (List.mem_of_mem_take hu))).mono ?_
 rintro e w' ⟨he,l',k1,k2,k3,k4,k5⟩
 refine⟨he,s,l',h1,⟨k1,k2,k3,k4⟩,?_⟩
 rw[CY hlen]at k5
 exact k5
theorem fZ{k:Nat}{a b:List AB}(h1:Dg k a)(h2:Dg k b):Dg k (a++b):=fun u hu=>(List.mem_append.1 hu).elim (h1 u) (h2 u)
theorem FP.D.kO(hP:P.Ok)(hc:c<P.count){i:Nat}(hi:c=i*P.q)(h:P.D c r W):Calls Tryz.prog 71 #[.iface 157 (.pointer (some ⟨r,0,none⟩)),.iface P.tT P.vT] W fun e w'=>(e=.returned (.int .i64 0)∧P.A (c+P.nx c) w')∨(e=.returned (.int .i64 6)∧P.No w'):=by
 obtain⟨s,l',h1,⟨k1,k2,k3,k4⟩,h2⟩:=h
 have hn:=P.ZV c
 have hq:=hP.q
 have hbd:=hP.bd
 have hmm:=P.ZZ hP (c:=c+P.nx c) (s:=s) (by rw[h1.len];omega) (by omega)
 have hmn:=P.ZZ hP (c:=c) (s:=[]) (by simp) (by omega)
 have oZ:Wd P.X (GG P.AO P.Z P.bx (P.rd (c+P.nx c)) P.tb P.tg (P.q*P.k) P.k (P.nx c) r P.o s l' 0) (P.m+AA P.hh (c+P.nx c)+ES P.once P.o P.hh s) W:=h2
 refine(Y0 hP.S hP.f.kk ⟨Nat.mul_le_mul_right _ hn.1,hq.2,by omega⟩ k3 k4 (by rw[h1.len];omega) (by
  rw[h1.len]
  have e1:P.mm (c+P.nx c) s=P.m+AA P.hh (c+P.nx c)+ES P.once P.o P.hh s:=rfl
  omega) oZ).mono ?_
 rintro e w' (⟨he,h3⟩|⟨he,DP,z,m',told,hz,h3⟩)
 ·refine .inl ⟨he,s++l',⟨by rw[List.length_append,h1.len,k3],Sh h1.asc (by rw[h1.len];exact hi) k1 (by omega),?_,fZ h1.fit k4⟩,?_⟩
  ·rw[List.take_add];exact bD h1.cl k2
  ·have h4:Wd P.X ((P.AO++P.Z (s++l')++[P.bx,P.rd (c+P.nx c)])++P.tp l'::[P.run r (P.nx c) (P.nx c)]) (P.mm (c+P.nx c) (s++l')) w':=by
    have h5:Wd P.X (P.AO++P.Z (s++l')++[P.bx,P.rd (c+P.nx c),P.tp l',P.run r (P.nx c) (P.nx c)]) (P.mm (c+P.nx c) (s++l')) w':=h3
    simpa using h5
   have h6:Wd P.X (P.AO++P.Z (s++l')++[P.bx,P.rd (c+P.nx c),P.tp l']++P.run r (P.nx c) (P.nx c)::[]) (P.mm (c+P.nx c) (s++l')) w':=by simpa using h4
   have h7:=h6.cut rfl rfl
   rw[List.append_nil]at h7
   have hg:(P.AO++P.Z (s++l')++[P.bx,P.rd (c+P.nx c),P.tp l'])[P.AO.length+P.n+2]?=some (CN P.tb P.tg (P.q*P.k) P.k l'):=By (j:=2) (hP.S.len _)
   have h8:=h7.YO hg (a':=CN P.tb P.tg (P.q*P.k) P.k []) Pm (fun⟨q1,ws,q2,q3,q4⟩=>⟨q1,ws,q2,q3,by simp[BA]⟩) (fun _ hk=>hk) rfl rfl (fun _ _=>trivial)
   rw[CY (hP.S.len _)]at h8
   exact h8
 ·exact .inr ⟨he,DP,z,_,[P.run r (P.nx c) told],l',m',.inr hz,.inl ⟨_,rfl⟩,fun q hq=>by rw[List.mem_singleton.1 hq];exact⟨rfl,rfl⟩,h3⟩
def FP.Fin(P:FP)(er:Int)(z:List AU)(m':Nat):Prop:=(er=0∧∃s,z=P.Z s∧P.mw P.count s∧m'=P.mm P.count s)∨(er=6∧¬P.X.cm∧L6 P.X P.xw P.bd P.n P.Z z)
def FP.G0(P:FP)(er:Int)(W:World):Prop:=∃z rd tl l' m',P.Fin er z m'∧((∃c,rd=P.rd c)∨∃r',rd=N3 P.X.p P.x r')∧GP tl∧Wd P.X (P.AO++z++P.bx::rd::P.tp l'::tl) m' W
def FP.G1(P:FP)(er:Int)(W:World):Prop:=∃z rd tl m',P.Fin er z m'∧((∃c,rd=P.rd c)∨∃r',rd=N3 P.X.p P.x r')∧GP tl∧Wd P.X (P.AO++z++P.bx::rd::Bl::tl) m' W
def FP.G2(P:FP)(er:Int)(W:World):Prop:=∃z m',P.Fin er z m'∧Wd P.X (P.AO++z) m' W
theorem FP.A.fin(h:P.A P.count W):P.G0 0 W:=by
 obtain⟨s,h1,h2⟩:=h
 exact⟨P.Z s,P.rd P.count,[],[],_,.inl ⟨rfl,s,rfl,h1,rfl⟩,.inl ⟨_,rfl⟩,fun q hq=>(List.not_mem_nil hq).elim,h2⟩
theorem FP.No.fin(h:P.No W):P.G0 6 W:=by
 obtain⟨h1,z,rd,tl,l',m',h2,h3,h4,h5⟩:=h
 exact⟨z,rd,tl,l',m',.inr ⟨rfl,h1,h2⟩,h3,h4,h5⟩
theorem FP.Fin.len(hP:P.Ok){er:Int}{z:List AU}{m':Nat}(h:P.Fin er z m'):z.length=P.n:=by
 rcases h with⟨_,s,rfl,_⟩|⟨_,_,⟨s,_,rfl⟩|⟨t,r',_,h,_⟩⟩
 ·exact hP.S.len s
 ·exact hP.S.len s
 ·exact h
theorem FP.G0.release(hP:P.Ok){er:Int}(u:FrameMode)(h:P.G0 er W):CallsD Tryz.prog 80 #[.pointer (some ⟨P.X.p.a,0,none⟩),.pointer (some ⟨P.tb,0,none⟩)] u W fun e u' w'=>u'=u∧(e=.returned (.bool true)∧P.G1 er w'):=by
 obtain⟨z,rd,tl,l',m',h1,h2,h3,h4⟩:=h
 have hg:(P.AO++z++P.bx::rd::P.tp l'::tl)[P.AO.length+P.n+2]?=some (P.tp l'):=By (j:=2) (h1.len hP)
 refine(II u (b:=P.tb) (g:=P.tg) (M:=P.q*P.k) h4 hg (fun _=>Iff.rfl) rfl rfl).mono ?_
 rintro e u' w' ⟨hu,he,h5⟩
 rw[CY (h1.len hP)]at h5
 exact⟨hu,he,z,rd,tl,m',h1,h2,h3,h5⟩
theorem FP.G1.close(hP:P.Ok){er:Int}(u:FrameMode)(h:P.G1 er W):CallsD Tryz.prog 51 #[.pointer (some ⟨P.x,0,none⟩)] u W fun e u' w'=>u'=u∧(e=.returned (.tuple #[])∧P.G2 er w'):=by
 obtain⟨z,rd,tl,m',h1,h2,h3,h4⟩:=h
 have hlen:=h1.len hP
 have Ia:∀r' w',Wd P.X (P.AO++z++P.bx::N3 P.X.p P.x r'::Bl::tl) m' w'→P.G2 er w':=fun r' w' h5=>by
  have h6:Wd P.X (P.AO++z++(P.bx::N3 P.X.p P.x r'::Bl::tl)++[]) m' w':=by rw[List.append_nil];exact h5
  have h7:=Wd.fh _ (fun q hq=>by
   rcases List.mem_cons.1 hq with rfl|hq
   ·exact⟨rfl,rfl⟩
   ·rcases List.mem_cons.1 hq with rfl|hq
    ·exact⟨rfl,rfl⟩
    ·rcases List.mem_cons.1 hq with rfl|hq
     ·exact⟨rfl,rfl⟩
     ·exact h3 q hq) h6
  rw[List.append_nil]at h7
  exact⟨z,m',h1,h7⟩
 rcases h2 with⟨c,rfl⟩|⟨r',rfl⟩
 ·have hx:(P.AO++z++P.bx::P.rd c::Bl::tl)[P.AO.length+P.n+1]?=some (DQ P.X.p P.x (Cw P.rt c) P.X.sz P.l):=By (j:=1) hlen
  refine(I8 u h4 hx).mono ?_
  rintro e u' w' ⟨hu,he,h5⟩
  rw[CY hlen]at h5
  exact⟨hu,he,Ia _ _ h5⟩
 ·have hx:(P.AO++z++P.bx::N3 P.X.p P.x r'::Bl::tl)[P.AO.length+P.n+1]?=some (N3 P.X.p P.x r'):=By (j:=1) hlen
  refine(Lr u (h4.at_ hx)).mono ?_
  rintro e u' w' ⟨hu,he,rfl⟩
  exact⟨hu,he,Ia _ _ h4⟩
theorem FP.A.below(h:P.A c W)(hb:Below W.heap.size W W'):P.A c W':=by obtain⟨s,h1,h2⟩:=h;exact⟨s,h1,h2.below hb⟩
theorem FP.G0.below{er:Int}(h:P.G0 er W)(hb:Below W.heap.size W W'):P.G0 er W':=by
 obtain⟨z,rd,tl,l',m',h1,h2,h3,h4⟩:=h
 exact⟨z,rd,tl,l',m',h1,h2,h3,h4.below hb⟩
theorem FP.A.rows(hP:P.Ok){MH:Bool}{js sb w rb Ak:Nat}(Lv:P.AO[js]?=some (AI sb 98 (Bc w P.k P.hh rb Ak P.o MH P.bd)))(h:P.A c W):
  Row W sb 98 (Bc w P.k P.hh rb Ak P.o MH P.bd)∧Row W P.fb 39 [.int .i64 P.first,.int .i64 P.nb,.int .i64 P.k,.int .i64 P.count]∧Row W P.tb 126 [.slice (some ⟨P.tg,0,none⟩) (P.q*P.k) (P.q*P.k)]:=by
 obtain⟨s,h1,h2⟩:=h
 have hb:(P.AO++P.Z s++[P.bx,P.rd c,P.tp []])[P.AO.length+P.n+0]?=some P.bx:=By (j:=0) (hP.S.len s)
 have hg:(P.AO++P.Z s++[P.bx,P.rd c,P.tp []])[P.AO.length+P.n+2]?=some (P.tp []):=By (j:=2) (hP.S.len s)
 exact⟨h2.row (Tm Lv),h2.row hb,(h2.at_ hg).1⟩
end
section
variable {X : Cx} {AO : List AU} {o : AB} {once MH : Bool} {k hh bd xw tT fP n : Nat} {vT : Value} {Z : List AB → List AU} {js sb rb Ak first nb count m : Nat} {l : List AB} {W : World}
theorem dH(hS:bM X o once k hh bd xw tT fP vT Z n)(Lv:AO[js]?=some (AI sb 98 (Bc X.p.w k hh rb Ak o MH bd)))
  (h:Wd X (AO++Z []) m W) (hok:Jr first nb k hh l X.sz) (hc:l.length=count) (Bv:Src AO X.sz first k hh l)
  (hrb:0<rb∧rb≤100000) (hroom:X.sz+(min count (rb*hh)*k)+Aa AU.gw (AO++Z [])≤X.rm) (Ap:X.rm≤1000000) (hbd:count≤bd∧bd≤100000) (hn:X.N+m+3*count+3≤1000000):
  Calls Tryz.prog 75 #[.pointer (some ⟨sb,0,none⟩),.agg #[.int .i64 first,.int .i64 nb,.int .i64 k,.int .i64 count],.iface tT vT] W fun e w'=>
   (e=.returned (.int .i64 0)∧∃s,s.length=count∧TG o (rb*hh) s∧Cl o l s∧Dg k s∧Wd X (AO++Z s) (m+nb+ES once o hh s) w')∨
   (e=.returned (.int .i64 6)∧¬X.cm∧∃z m',L6 X xw bd n Z z∧Wd X (AO++z) m' w'):=by
 have Cy:=hS.len []
 have mH:∀W z Ou m,Wd X (AO++z++Ou) m W→Row W sb 98 (Bc X.p.w k hh rb Ak o MH bd):=fun W z Ou m h=>h.row (Tm Lv)
 obtain⟨W1,B2⟩:∃W1,W1=W.alloc (.cells #[.int .i64 first,.int .i64 nb,.int .i64 k,.int .i64 count] 39):=⟨_,rfl⟩
 have Aj:Below W.heap.size W W1:=by rw[B2];exact(Below.refl _ _).alloc (Nat.le_refl _) _
 have BS:Row W1 W.heap.size 39 [.int .i64 first,.int .i64 nb,.int .i64 k,.int .i64 count]:=by rw[B2];exact heap_alloc_new _ _
 have h1:Wd X (AO++Z []++[AI W.heap.size 39 [.int .i64 first,.int .i64 nb,.int .i64 k,.int .i64 count]]) m W1:=h.new Aj BS (Nat.le_refl _)
 have ER:=Lib.hid B2
 generalize O8:W.heap.size=fb at*
 generalize hM:min count (rb*hh)=q at*
 have hqc:q≤count∧q≤rb*hh:=by rw[←hM];exact⟨Nat.min_le_left _ _,Nat.min_le_right _ _⟩
 let P0:Nat→Nat→Nat→Nat→Nat→FP:=fun x b g tb tg=>⟨X,AO,Z,o,once,k,hh,bd,xw,tT,fP,vT,n,first,nb,count,q,m,fb,x,b,g,tb,tg,l⟩
 have Hs:Aa AU.gw (AO++Z []++[AI fb 39 [.int .i64 first,.int .i64 nb,.int .i64 k,.int .i64 count]])=Aa AU.gw (AO++Z []):=by rw[CR];rfl
 have Nu:Hid (∀d,Calls Tryz.prog 50 #[.pointer (some ⟨X.p.w,0,none⟩),.agg #[.int .i64 first,.int .i64 nb,.int .i64 k,.int .i64 count]] (W1.drewN d) fun e w'=>∃x b g,e=.returned (.tuple #[.pointer (some ⟨x,0,none⟩),.int .i64 0])∧
   Fc (⟨k,hh,first,nb,count,0,b,g⟩:Rt) X.sz∧Wd X (AO++Z []++[AI fb 39 [.int .i64 first,.int .i64 nb,.int .i64 k,.int .i64 count],DQ X.p x ⟨k,hh,first,nb,count,0,b,g⟩ X.sz l]) m w'):=fun d=>by
  have h2:=Pg (h1.drewN d) first nb k hh count l hok.N7 hok.hh.1 (by rw[←hc];exact hok.bn) (by omega) hok.fst (by rw[Hs];omega)
  refine h2.mono ?_
  rintro e w' ⟨x,b,g,h3,h4,h5⟩
  refine⟨x,b,g,h3,h4,?_⟩
  rw[List.append_assoc]at h5
  exact h5
 have Ul:Hid (∀x b g W,Fc (⟨k,hh,first,nb,count,0,b,g⟩:Rt) X.sz→Wd X (AO++Z []++[AI fb 39 [.int .i64 first,.int .i64 nb,.int .i64 k,.int .i64 count],DQ X.p x ⟨k,hh,first,nb,count,0,b,g⟩ X.sz l]) m W→
   Calls Tryz.prog 63 #[.pointer (some ⟨X.p.a,0,none⟩),.int .i64 ((q*k:Nat):Int)] W fun e w'=>∃tb tg,e=.returned (.tuple #[.pointer (some ⟨tb,0,none⟩),.int .i64 0])∧(P0 x b g tb tg).Ok∧(P0 x b g tb tg).A 0 w'):=fun x b g W EC h2=>by
  have Z9:q*k≤1000000:=by omega
  have CE:Aa AU.gw (AO++Z []++[AI fb 39 [.int .i64 first,.int .i64 nb,.int .i64 k,.int .i64 count],DQ X.p x ⟨k,hh,first,nb,count,0,b,g⟩ X.sz l])=Aa AU.gw (AO++Z [])+X.sz:=by
   rw[BI,BZ,BZ]
   show _+(0+(X.sz+0))= _
   omega
  refine(RG h2 (q*k) (by rw[CE];omega) Z9).mono ?_
  rintro e w' ⟨tb,tg,he,h3⟩
  refine⟨tb,tg,he,⟨hS,hok,hc,Bv,⟨hqc.1,Z9⟩,hbd,hn,EC⟩,[],⟨rfl,fun j=>by rw[List.drop_nil,List.take_nil];exact KX o,by rw[List.take_zero];exact Cl.refl _ _,fun u hu=>by cases hu⟩,?_⟩
  rw[List.append_assoc]at h3
  have h4:Wd X (AO++Z []++[AI fb 39 [.int .i64 first,.int .i64 nb,.int .i64 k,.int .i64 count],DQ X.p x ⟨k,hh,first,nb,count,0,b,g⟩ X.sz l,jD tb tg (q*k)]) m w':=h3
  have qx:(AO++Z []++[AI fb 39 [.int .i64 first,.int .i64 nb,.int .i64 k,.int .i64 count],DQ X.p x ⟨k,hh,first,nb,count,0,b,g⟩ X.sz l,jD tb tg (q*k)])[AO.length+n+2]?=some (jD tb tg (q*k)):=By (j:=2) Cy
  have h5:=h4.YO qx (a':=CN tb tg (q*k) k []) Pm (fun⟨q1,ws,q2,q3⟩=>⟨q1,ws,q2,q3,by simp[BA]⟩) (fun _ hk=>hk) rfl rfl (fun _ _=>trivial)
  rw[CY Cy]at h5
  show Wd X (AO++Z []++[AI fb 39 [.int .i64 first,.int .i64 nb,.int .i64 k,.int .i64 count],DQ X.p x (Cw ⟨k,hh,first,nb,count,0,b,g⟩ 0) X.sz l,CN tb tg (q*k) k []]) (m+AA hh 0+(BC once o []).length/hh) w'
  have e1:(BC once o []).length/hh=0:=by
   have:(BC once o []).length=0:=by unfold BC;split<;>rfl
   rw[this,Nat.zero_div]
  rw[e1,Aw]
  exact h5
 have Up:Hid (∀z Ou m W,Wd X (AO++z++Ou) m W→Calls Tryz.prog 13 #[.pointer (some ⟨X.p.w,0,none⟩)] W fun e w'=>e=.returned (.pointer (some ⟨X.p.a,0,none⟩))∧w'=W):=fun z Ou m W h=>Ph h
 have L8:Hid (∀(Ou:List AU) (m:Nat) (W:World),Wd X (AO++Z []++AI fb 39 [.int .i64 first,.int .i64 nb,.int .i64 k,.int .i64 count]::Ou) m W→
   Row W sb 98 (Bc X.p.w k hh rb Ak o MH bd)∧Row W fb 39 [.int .i64 first,.int .i64 nb,.int .i64 k,.int .i64 count]):=fun Ou m W h=>⟨mH _ _ _ _ h,h.row (By (j:=0) Cy)⟩
 have Aq:Hid (∀x b g tb tg er w',(P0 x b g tb tg).G2 er w'→(er=0∧∃s,s.length=count∧TG o (rb*hh) s∧Cl o l s∧Dg k s∧Wd X (AO++Z s) (m+nb+ES once o hh s) w')∨
   (er=6∧¬X.cm∧∃z m',L6 X xw bd n Z z∧Wd X (AO++z) m' w')):=fun x b g tb tg er w' h=>by
  obtain⟨z,m',h1,h2⟩:=h
  rcases h1 with⟨he,s,rfl,hp,rfl⟩|⟨he,DP,hz⟩
  ·refine .inl ⟨he,s,hp.len,?_,?_,hp.fit,?_⟩
   ·have hlen:s.length=count:=hp.len
    have UI:TG o q s:=hp.asc
    intro j
    rcases Nat.lt_or_ge count (rb*hh)with hlt|hge
    ·have hq:q=count:=by omega
     cases j with
     |zero=>
      have h3:=UI 0
      rw[Nat.zero_mul,List.drop_zero,List.take_of_length_le (by omega)]at h3⊢
      exact h3
     |succ j=>
      have h4:rb*hh≤(j+1)*(rb*hh):=Nat.le_mul_of_pos_left _ (by omega)
      rw[List.drop_eq_nil_of_le (by omega),List.take_nil];exact KX o
    ·have hq:q=rb*hh:=by omega
     rw[←hq];exact UI j
   ·have h3:Cl o (l.take count) s:=hp.cl
    rwa [List.take_of_length_le (by omega)]at h3
   ·have h3:Wd X (AO++Z s) (m+AA hh count+ES once o hh s) w':=h2
    rwa [←hc,←hok.bn]at h3
  ·exact .inr ⟨he,DP,z,m',hz,h2⟩
 have o7:=Lib.hid h1
 have DS:count≤100000:=by omega
 have O6:0<hh∧hh≤254:=⟨hok.hh.1,hok.hh.2.2⟩
 have hkk:=hok.kk
 have Ui:=Lib.hid (L8.out [] m W1 h1)
 have HQ0:Hid (0<count→0<q):=fun h=>by rw[←hM];exact Nat.lt_min.2 ⟨h,Nat.mul_pos hrb.1 O6.1⟩
 have qY:q*k≤1000000:=by omega
 clear h h1 Aj BS B2 Hs hok hc Bv hroom hn mH
 obtain⟨Q,hQ⟩:∃Q,rb*hh=Q:=⟨_,rfl⟩
 have hmul:(rb:Int)*(hh:Int)=(Q:Int):=by rw[←hQ];exact(Int.natCast_mul rb hh).symm
 have hQb:Q≤25400000:=by
  rw[←hQ];exact Nat.mul_le_mul hrb.2 O6.2
 rw[hQ]at hM
 have HM:=Lib.hid hM
 obtain⟨N,hN⟩:∃N,q*k=N:=⟨_,rfl⟩
 have uC:(q:Int)*(k:Int)=(N:Int):=by rw[←hN];exact(Int.natCast_mul q k).symm
 rw[hN]at Ul
 have yw:=Lib.hid hN
 have hNb:N≤1000000:=by rw[←hN];exact qY
 have hqb:q≤100000:=by omega
 clear hQ hM hN hqc qY
 go_enter_defers Tryz.func75,Tryz.ntmps75
 go_upto_region 1 with(fail)
 rw[←ER.out]
 clear ER
 have BS:=Nu.out 1
 rw[show W1.drewN 1=W1.drew from rfl]at BS
 have Dr:=Lib.hid BS
 clear BS
 have SE:=Ui.out.1.cell 4
 have VV:W1.drew.cell? ⟨sb,4,none⟩=some (.pointer (some ⟨X.p.w,0,none⟩)):=Ui.out.1.cell 4
 have hb0:W1.drew.cell? ⟨fb,0,none⟩=some (.int .i64 first):=Ui.out.2.cell 0
 have Aj:W1.drew.cell? ⟨fb,1,none⟩=some (.int .i64 nb):=Ui.out.2.cell 1
 have AX:W1.drew.cell? ⟨fb,2,none⟩=some (.int .i64 k):=Ui.out.2.cell 2
 have A9:W1.drew.cell? ⟨fb,3,none⟩=some (.int .i64 count):=Ui.out.2.cell 3
 clear SE
 go_region_held3 (fun w'=>w'.cell? ⟨sb,4,none⟩=some (.pointer (some ⟨X.p.w,0,none⟩))∧w'.cell? ⟨fb,0,none⟩=some (.int .i64 first)∧w'.cell? ⟨fb,1,none⟩=some (.int .i64 nb)∧w'.cell? ⟨fb,2,none⟩=some (.int .i64 k)∧w'.cell? ⟨fb,3,none⟩=some (.int .i64 count)) (first|with_reducible exact⟨VV,hb0,Aj,AX,A9⟩|with_reducible exact q2)
  ((go_at_call 50;(with_reducible refine Dr.out.mono ?_);rintro e w2 ⟨x,b,g,rfl,EC,h2⟩;obtain⟨De,H2,q2⟩:Hid (Fc (⟨k,hh,first,nb,count,0,b,g⟩:Rt) X.sz)∧Hid (Wd X (AO++Z []++[AI fb 39 [.int .i64 first,.int .i64 nb,.int .i64 k,.int .i64 count],DQ X.p x ⟨k,hh,first,nb,count,0,b,g⟩ X.sz l]) m w2)∧(w2.cell? ⟨sb,4,none⟩=some (.pointer (some ⟨X.p.w,0,none⟩))∧w2.cell? ⟨fb,0,none⟩=some (.int .i64 first)∧w2.cell? ⟨fb,1,none⟩=some (.int .i64 nb)∧w2.cell? ⟨fb,2,none⟩=some (.int .i64 k)∧w2.cell? ⟨fb,3,none⟩=some (.int .i64 count)):=⟨EC,h2,(L8.out _ _ _ h2).1.cell 4,(L8.out _ _ _ h2).2.cell 0,(L8.out _ _ _ h2).2.cell 1,(L8.out _ _ _ h2).2.cell 2,(L8.out _ _ _ h2).2.cell 3⟩))
 have JN:=Lib.hid (L8.out _ _ _ H2.out)
 clear VV hb0 Aj AX A9 q2 EC h2
 have A9:w2.drew.cell? ⟨fb,3,none⟩=some (.int .i64 count):=JN.out.2.cell 3
 have VV:w2.drew.cell? ⟨sb,1,none⟩=some (.int .i64 hh):=JN.out.1.cell 1
 have KS:w2.drew.cell? ⟨sb,2,none⟩=some (.int .i64 rb):=JN.out.1.cell 2
 have wE:IntKind.i64.wrap (Q:Int)=(Q:Int):=IntWalk.i64_in _ (by omega)
 have hwN:IntKind.i64.wrap (N:Int)=(N:Int):=IntWalk.i64_in _ (by omega)
 have HWN:=Lib.hid hwN
 clear hwN
 have IW:(if IntKind.i64.wrap (Q:Int)<(count:Int)then IntKind.i64.wrap (Q:Int)else (count:Int))=(q:Int):=by
  rw[wE,←HM.out];split<;>omega
 have HMN:=Lib.hid IW
 have HWQ:=Lib.hid wE
 clear IW wE
 go_wp2_with fail
 have H3:=Lib.hid (H2.out.drewN 1)
 rw[show w2.drewN 1=w2.drew from rfl]at H3
 go_region_held3 (fun w'=>w'.cell? ⟨fb,3,none⟩=some (.int .i64 count)∧w'.cell? ⟨sb,1,none⟩=some (.int .i64 hh)∧w'.cell? ⟨sb,2,none⟩=some (.int .i64 rb)) (with_reducible exact⟨A9,VV,KS⟩) (fail)
 rw[HMN.out,HWQ.out]
 clear A9 VV KS JN H2
 generalize w2.drew=w3 at*
 have s9:Hid (∀tb tg,P0 x b g tb tg=P0 x b g tb tg):=fun _ _=>rfl
 have KI:=fun d=>Ul.out x b g (w3.drewN d) De.out (H3.out.drewN d)
 have SL:=KI 1
 rw[show w3.drewN 1=w3.drew from rfl]at SL
 rw[←HWN.out]at SL
 have nY:=Lib.hid SL
 have mA:=Up.out _ _ _ _ (H3.out.drewN 1)
 rw[show w3.drewN 1=w3.drew from rfl]at mA
 have pJ:=Lib.hid mA
 clear KI SL mA s9
 have Vp:=Lib.hid (L8.out _ _ _ H3.out)
 have VV:w3.drew.cell? ⟨sb,4,none⟩=some (.pointer (some ⟨X.p.w,0,none⟩)):=Vp.out.1.cell 4
 have KS:w3.drew.cell? ⟨sb,0,none⟩=some (.int .i64 k):=Vp.out.1.cell 0
 go_wp2_with fail
 go_region_held3 (fun w'=>w'.cell? ⟨sb,4,none⟩=some (.pointer (some ⟨X.p.w,0,none⟩))∧w'.cell? ⟨sb,0,none⟩=some (.int .i64 k)) (first|with_reducible exact⟨VV,KS⟩|with_reducible exact q4)
  (first
   |(go_at_call 13;(with_reducible refine pJ.out.mono ?_);rintro e w4 ⟨rfl,rfl⟩)
   |(go_at_call 63;(with_reducible refine nY.out.mono ?_);rintro e w4 ⟨tb,tg,rfl,fO,hA⟩;obtain⟨HP,HA,q4⟩:Hid (P0 x b g tb tg).Ok∧Hid ((P0 x b g tb tg).A 0 w4)∧(w4.cell? ⟨sb,4,none⟩=some (.pointer (some ⟨X.p.w,0,none⟩))∧w4.cell? ⟨sb,0,none⟩=some (.int .i64 k)):=⟨fO,hA,(hA.rows fO Lv).1.cell 4,(hA.rows fO Lv).1.cell 0⟩))
 rw[HWN.out]
 have HLD:Hid (∀c r W,c≤count→(P0 x b g tb tg).B c r W→Calls Tryz.prog 92 #[.pointer (some ⟨r,0,none⟩),.iface 101 (.pointer (some ⟨x,0,none⟩))] W fun e w'=>(e=.returned (.int .i64 0)∧(P0 x b g tb tg).C c r w')∨(e=.returned (.int .i64 6)∧(P0 x b g tb tg).No w')):=fun c r W h1 h2=>FP.B.load HP.out h1 h2
 have yf:Hid (∀c r W,(P0 x b g tb tg).C c r W→Calls Tryz.prog 93 #[.iface 157 (.pointer (some ⟨r,0,none⟩))] W fun e w'=>e=.returned (.tuple #[])∧(P0 x b g tb tg).D c r w'):=fun c r W h2=>FP.C.j3 HP.out h2
 have gN:Hid (∀c r W (i:Nat),c<count→c=i*q→(P0 x b g tb tg).D c r W→Calls Tryz.prog 71 #[.iface 157 (.pointer (some ⟨r,0,none⟩)),.iface tT vT] W fun e w'=>(e=.returned (.int .i64 0)∧(P0 x b g tb tg).A (c+min q (count-c)) w')∨(e=.returned (.int .i64 6)∧(P0 x b g tb tg).No w')):=fun c r W i h1 h2 h3=>FP.D.kO HP.out h1 h2 h3
 have HB:Hid (∀c W W' r N',N'=min q (count-c)*k→(P0 x b g tb tg).A c W→Below W.heap.size W W'→Row W' r 161 (FG k tg N' N o 0)→W.heap.size≤r→(P0 x b g tb tg).B c r W'):=fun c W W' r N' rR h1 h2 h3 h4=>FP.toB h1 h2 (by rw[rR,←yw.out]at h3;exact h3) h4
 have YG:Hid (∀c W,(P0 x b g tb tg).A c W→Row W sb 98 (Bc X.p.w k hh rb Ak o MH bd)∧Row W fb 39 [.int .i64 first,.int .i64 nb,.int .i64 k,.int .i64 count]∧Row W tb 126 [.slice (some ⟨tg,0,none⟩) N N]):=fun c W h1=>by
  have h2:=h1.rows HP.out Lv
  rw[←yw.out];exact h2
 have gk:Hid (∀c W W',(P0 x b g tb tg).A c W→Below W.heap.size W W'→(P0 x b g tb tg).A c W'):=fun c W W' h1 h2=>h1.below h2
 have pI:Hid (∀c W,(P0 x b g tb tg).A c W→Calls Tryz.prog 13 #[.pointer (some ⟨X.p.w,0,none⟩)] W fun e w'=>e=.returned (.pointer (some ⟨X.p.a,0,none⟩))∧w'=W):=fun c W h1=>by
  obtain⟨s,_,h2⟩:=h1
  exact Up.out _ _ _ _ h2
 have HF0:Hid (∀W,(P0 x b g tb tg).A count W→(P0 x b g tb tg).G0 0 W):=fun W h1=>FP.A.fin h1
 have gV:Hid (∀W,(P0 x b g tb tg).No W→(P0 x b g tb tg).G0 6 W):=fun W h1=>FP.No.fin h1
 have ov:Hid (∀er u W,(P0 x b g tb tg).G0 er W→CallsD Tryz.prog 80 #[.pointer (some ⟨X.p.a,0,none⟩),.pointer (some ⟨tb,0,none⟩)] u W fun e u' w'=>u'=u∧(e=.returned (.bool true)∧(P0 x b g tb tg).G1 er w')):=fun er u W h1=>FP.G0.release HP.out u h1
 have Ct:Hid (∀er u W,(P0 x b g tb tg).G1 er W→CallsD Tryz.prog 51 #[.pointer (some ⟨x,0,none⟩)] u W fun e u' w'=>u'=u∧(e=.returned (.tuple #[])∧(P0 x b g tb tg).G2 er w')):=fun er u W h1=>FP.G1.close HP.out u h1
 have gW:=Lib.hid (Aq.out x b g tb tg)
 clear fO hA q4 Aq Up L8 Ul Nu nY pJ Vp H3 De o7 Ui VV KS yw HP
 generalize(P0 x b g tb tg).A=FA at*
 generalize(P0 x b g tb tg).B=FB at*
 generalize(P0 x b g tb tg).C=FC at*
 generalize(P0 x b g tb tg).D=FD at*
 generalize(P0 x b g tb tg).No=FN at*
 generalize(P0 x b g tb tg).G0=F0 at*
 generalize(P0 x b g tb tg).G1=F1 at*
 generalize(P0 x b g tb tg).G2=F2 at*
 clear P0
 have hs:=Lib.hid (YG.out 0 w4 HA.out)
 have ca:=hs.out.1.cell 4
 have cb:=hs.out.2.1.cell 3
 have tN:=Lib.hid (pI.out 0 w4 HA.out)
 go_wp2_with fail
 refine tN.out.mono ?_
 rintro e w5 ⟨rfl,rfl⟩
 go_wp2_with fail
 go_loopw [11] (fun iv wr=>∃(i c:Nat) (z:Int),iv=.int .i64 z∧c≤count∧(0<z→c=i*q∧z=(count:Int)-(c:Int))∧(z≤0→c=count)∧-1000000≤z∧z≤1000000∧Hid (FA c wr)) (fun iv _=>(intOf iv).toNat)
 case atStart=>exact⟨0,0,(count:Int),rfl,by omega,fun _=>⟨by simp,by omega⟩,fun h=>by omega,by omega,by omega,HA⟩
 case round=>
  obtain⟨i,c,z,rfl,rI,CM,GJ,Zt,oF,tL⟩:=hrel
  clear HA tN hs ca cb
  by_cases hz:0<z
  ·obtain⟨rH,hzc⟩:=CM hz
   obtain⟨lf,VM⟩:∃lf:Nat,count-c=lf:=⟨_,rfl⟩
   have hlp:0<lf:=by omega
   have hlb:lf≤100000:=by omega
   obtain rfl:z=(lf:Int):=by omega
   obtain⟨q',cO⟩:∃q',min q lf=q':=⟨_,rfl⟩
   obtain⟨N',rR⟩:∃N',q'*k=N':=⟨_,rfl⟩
   have HQ1:Hid (0<q'∧q'≤q∧q'≤lf∧q=min q q'+(q-q')):=by
    have:=HQ0.out (by omega)
    unfold Hid;omega
   have AC0:(q':Int)*(k:Int)=(N':Int):=by rw[←rR];exact(Int.natCast_mul q' k).symm
   have hNN:N'≤N:=by
    have h9:q'*k≤q*k:=Nat.mul_le_mul_right k (by have:=HQ1.out;omega)
    have h8:((q*k:Nat):Int)=(N:Int):=by rw[Int.natCast_mul];exact uC
    omega
   have Oz:IntKind.i64.wrap (N':Int)=(N':Int):=IntWalk.i64_in _ (by omega)
   have IW:(if (lf:Int)<(q:Int)then (lf:Int)else (q:Int))=(q':Int):=by rw[←cO];split<;>omega
   have iQ:(if lf<q then (lf:Int)else (q:Int))=(q':Int):=by rw[←cO];split<;>omega
   have HCI:=Lib.hid rH
   have jV:=Lib.hid VM
   have jR:=Lib.hid cO
   have HNP:=Lib.hid rR
   have AE5:=Lib.hid IW
   have gF:=Lib.hid Oz
   have hN0:(0:Int)≤(N':Int):=by omega
   have hN1:(N':Int)≤(N:Int):=by omega
   clear CM GJ hzc rH VM cO rR Zt oF
   have hR:=YG.out c wr tL.out
   have t0:wr.drew.cell? ⟨tb,0,none⟩=some (.slice (some ⟨tg,0,none⟩) N N):=hR.2.2.cell 0
   have s0:wr.drew.cell? ⟨sb,0,none⟩=some (.int .i64 k):=hR.1.cell 0
   have tM:=Lib.hid (gk.out c wr (wr.drewN 1) tL.out (AG (Below.refl _ _) 1))
   rw[show wr.drewN 1=wr.drew from rfl]at tM
   clear hR
   go_wp2_with fail
   go_region_held3 (fun w'=>w'.cell? ⟨tb,0,none⟩=some (.slice (some ⟨tg,0,none⟩) N N)∧w'.cell? ⟨sb,0,none⟩=some (.int .i64 k)) (with_reducible exact⟨t0,s0⟩) (fail)
   clear t0 s0 IW iQ Oz
   generalize wr.drew=w6 at*
   have mF:∀W,FA c W→W.cell? ⟨sb,0,none⟩=some (.int .i64 k)∧W.cell? ⟨sb,5,none⟩=some (.int .i64 o.a)∧W.cell? ⟨sb,6,none⟩=some (.int .i64 o.b)∧W.cell? ⟨sb,7,none⟩=some (.int .i64 o.c)∧W.cell? ⟨sb,8,none⟩=some (.int .i64 o.d)∧W.cell? ⟨sb,9,none⟩=some (.int .i64 o.e):=fun W h=>⟨(YG.out c W h).1.cell 0,(YG.out c W h).1.cell 5,(YG.out c W h).1.cell 6,(YG.out c W h).1.cell 7,(YG.out c W h).1.cell 8,(YG.out c W h).1.cell 9⟩
   have zW:=Lib.hid (gk.out c w6 (w6.drewN 1) tM.out (AG (Below.refl _ _) 1))
   rw[show w6.drewN 1=w6.drew from rfl]at zW
   have s1:=mF _ zW.out
   have EX:Below w6.heap.size w6 ((w6.alloc (.cells #[.int .i64 k,.slice (some ⟨tg,0,none⟩) N' N,.int .i64 o.a,.int .i64 o.b,.int .i64 o.c,.int .i64 o.d,.int .i64 o.e,.int .i64 0] 161)).drew):=((Below.refl w6.heap.size w6).alloc (Nat.le_refl _) _).drew
   have s2:=mF _ (gk.out c _ _ tM.out EX)
   have qN:Row (w6.alloc (.cells #[.int .i64 k,.slice (some ⟨tg,0,none⟩) N' N,.int .i64 o.a,.int .i64 o.b,.int .i64 o.c,.int .i64 o.d,.int .i64 o.e,.int .i64 0] 161)) w6.heap.size 161 (FG k tg N' N o 0):=heap_alloc_new _ _
   have hrw:=Row.drewN qN 1
   rw[show∀w:World,w.drewN 1=w.drew from fun _=>rfl]at hrw
   clear qN
   have HB8:=Lib.hid (HB.out c w6 _ w6.heap.size N' (by rw[jV.out,jR.out,HNP.out]) tM.out EX hrw (Nat.le_refl _))
   clear hrw
   clear mF EX
   go_wp2_with fail
   go_region_held3 (fun W=>W.cell? ⟨sb,0,none⟩=some (.int .i64 k)∧W.cell? ⟨sb,5,none⟩=some (.int .i64 o.a)∧W.cell? ⟨sb,6,none⟩=some (.int .i64 o.b)∧W.cell? ⟨sb,7,none⟩=some (.int .i64 o.c)∧W.cell? ⟨sb,8,none⟩=some (.int .i64 o.d)∧W.cell? ⟨sb,9,none⟩=some (.int .i64 o.e)) (first|with_reducible exact s1|with_reducible exact s2) (fail)
   clear s1 s2 tM zW tL
   generalize(w6.alloc (.cells #[.int .i64 k,.slice (some ⟨tg,0,none⟩) N' N,.int .i64 o.a,.int .i64 o.b,.int .i64 o.c,.int .i64 o.d,.int .i64 o.e,.int .i64 0] 161)).drew=w8 at*
   generalize w6.heap.size=r at*
   have HL8:=Lib.hid (HLD.out c r w8 rI HB8.out)
   go_wp2_with fail
   refine HL8.out.mono ?_
   rintro e w9 (⟨rfl,h9⟩|⟨rfl,h9⟩)
   ·have HT9:=Lib.hid (yf.out c r w9 h9)
    clear h9
    go_wp2_with fail
    refine HT9.out.mono ?_
    rintro e Fl ⟨rfl,ID⟩
    have yz:=Lib.hid (gN.out c r Fl i (by have:=jV.out;omega) HCI.out ID)
    clear ID
    go_wp2_with fail
    refine yz.out.mono ?_
    rintro e w11 (⟨rfl,OT⟩|⟨rfl,OT⟩)
    ·have Xy:=Lib.hid OT
     clear OT
     obtain⟨z9,hz9⟩:∃z9:Int,(lf:Int)-(q:Int)=z9:=⟨_,rfl⟩
     have AA7:-100000≤z9∧z9≤100000:=by omega
     have AA6:z9<(lf:Int):=by have:=HQ1.out;omega
     go_wp2
     go_roundw
     case rel=>
      have h1:=jV.out
      have h2:=HCI.out
      refine⟨i+1,c+min q (count-c),z9,rfl,by omega,fun h=>⟨?_,by omega⟩,fun h=>by omega,by omega,by omega,Xy.out⟩
      rw[Nat.add_mul,Nat.one_mul];omega
     case measure=>simp[intOf];omega
    ·have Xy:=Lib.hid (gV.out _ OT)
     clear OT
     go_wp2
     refine leaves_cons (f:=80) (args:=#[.pointer (some ⟨X.p.a,0,none⟩),.pointer (some ⟨tb,0,none⟩)]) (by simp) (by simp[go_sem]) ?_
     refine(ov.out 6 _ _ Xy.out).mono ?_
     rintro e u1 Bn ⟨rfl,rfl,E5⟩
     refine leaves_cons (f:=51) (args:=#[.pointer (some ⟨x,0,none⟩)]) (by simp[settle]) (by simp[go_sem]) ?_
     refine(Ct.out 6 _ _ E5).mono ?_
     rintro e u2 X5 ⟨rfl,rfl,K6⟩
     refine⟨.int .i64 6,by simp[results,Tryz.results75,go_sem],?_⟩
     rcases gW.out 6 X5 K6 with⟨OD,Kf⟩|⟨OD,Kf⟩
     ·exact absurd OD (by decide)
     ·exact .inr ⟨rfl,Kf⟩
   ·have Xy:=Lib.hid (gV.out _ h9)
    clear h9
    go_wp2
    refine leaves_cons (f:=80) (args:=#[.pointer (some ⟨X.p.a,0,none⟩),.pointer (some ⟨tb,0,none⟩)]) (by simp) (by simp[go_sem]) ?_
    refine(ov.out 6 _ _ Xy.out).mono ?_
    rintro e u1 Bn ⟨rfl,rfl,E5⟩
    refine leaves_cons (f:=51) (args:=#[.pointer (some ⟨x,0,none⟩)]) (by simp[settle]) (by simp[go_sem]) ?_
    refine(Ct.out 6 _ _ E5).mono ?_
    rintro e u2 X5 ⟨rfl,rfl,K6⟩
    refine⟨.int .i64 6,by simp[results,Tryz.results75,go_sem],?_⟩
    rcases gW.out 6 X5 K6 with⟨OD,Kf⟩|⟨OD,Kf⟩
    ·exact absurd OD (by decide)
    ·exact .inr ⟨rfl,Kf⟩
  ·obtain rfl:c=count:=GJ (by omega)
   have Xy:=Lib.hid (HF0.out _ tL.out)
   clear tL CM GJ
   have g1:decide ((0:Int)<z)=false:=by simp;omega
   go_wp2
   refine leaves_cons (f:=80) (args:=#[.pointer (some ⟨X.p.a,0,none⟩),.pointer (some ⟨tb,0,none⟩)]) (by simp) (by simp[go_sem]) ?_
   refine(ov.out 0 _ _ Xy.out).mono ?_
   rintro e u1 Bn ⟨rfl,rfl,E5⟩
   refine leaves_cons (f:=51) (args:=#[.pointer (some ⟨x,0,none⟩)]) (by simp[settle]) (by simp[go_sem]) ?_
   refine(Ct.out 0 _ _ E5).mono ?_
   rintro e u2 X5 ⟨rfl,rfl,K6⟩
   refine⟨.int .i64 0,by simp[results,Tryz.results75,go_sem],?_⟩
   rcases gW.out 0 X5 K6 with⟨OD,Kf⟩|⟨OD,Kf⟩
   ·exact .inl ⟨rfl,Kf⟩
   ·exact absurd OD (by decide)
end
section
variable {W : World} {sb w k hh rb Ak cnt first nb count pa pb : Nat} {o : AB} {once : Bool}
theorem Ro(hr:Row W sb 98 (Bc w k hh rb Ak o once cnt))(hb:first≤2000000∧nb≤2000000∧count≤100000000∧pa≤nb∧pb≤100000000∧hh≤254)(hA:pa*hh≤count):
  Calls Tryz.prog 95 #[.pointer (some ⟨sb,0,none⟩),.agg #[.int .i64 first,.int .i64 nb,.int .i64 k,.int .i64 count],.int .i64 pa,.int .i64 pb] W fun e w'=>
   e=.returned (Cq (first+pa) (min pb (nb-pa)) k (min (pb*hh) (count-pa*hh)))∧Below W.heap.size W w':=by
 obtain⟨W1,B2,Aj,wL,BS,Ap⟩:=Qh W [.int .i64 first,.int .i64 nb,.int .i64 k,.int .i64 count] [.int .i64 0,.int .i64 0,.int .i64 0,.int .i64 0] 39 39
 have iJ:=hr.below Aj hr.lt
 have ER:=Lib.hid B2
 have Kj:=Lib.hid Aj
 have Dr:=Lib.hid BS
 have Ka:=Lib.hid Ap
 have Xr:=Lib.hid iJ
 obtain⟨d,hd⟩:∃d,nb-pa=d:=⟨_,rfl⟩
 obtain⟨Q,hQ⟩:∃Q,pb*hh=Q:=⟨_,rfl⟩
 obtain⟨A,OC⟩:∃A,pa*hh=A:=⟨_,rfl⟩
 rw[OC]at hA
 obtain⟨R,hR⟩:∃R,count-A=R:=⟨_,rfl⟩
 obtain⟨F,hF⟩:∃F,first+pa=F:=⟨_,rfl⟩
 have EP:(nb:Int)-(pa:Int)=(d:Int):=by omega
 have EB:(pb:Int)*(hh:Int)=(Q:Int):=by rw[←hQ];exact(Int.natCast_mul pb hh).symm
 have NF:(pa:Int)*(hh:Int)=(A:Int):=by rw[←OC];exact(Int.natCast_mul pa hh).symm
 have SE:(count:Int)-(A:Int)=(R:Int):=by omega
 have Qw:(first:Int)+(pa:Int)=(F:Int):=by omega
 have hQ2:Q≤25400000000:=by rw[←hQ];exact Nat.mul_le_mul hb.2.2.2.2.1 hb.2.2.2.2.2
 have Qy:(if d<pb then (d:Int)else (pb:Int))=((min pb d:Nat):Int):=by split<;>omega
 have hm2:(if R<Q then (R:Int)else (Q:Int))=((min Q R:Nat):Int):=by split<;>omega
 have wd:IntKind.i64.wrap (d:Int)=(d:Int):=IntWalk.i64_in _ (by omega)
 have wQ:IntKind.i64.wrap (Q:Int)=(Q:Int):=IntWalk.i64_in _ (by omega)
 have wA:IntKind.i64.wrap (A:Int)=(A:Int):=IntWalk.i64_in _ (by omega)
 have wR:IntKind.i64.wrap (R:Int)=(R:Int):=IntWalk.i64_in _ (by omega)
 have wF:IntKind.i64.wrap (F:Int)=(F:Int):=IntWalk.i64_in _ (by omega)
 rw[hF,hd,hQ,OC,hR]
 unfold Cq
 generalize hMB:min pb d=MB at*
 generalize hMC:min Q R=MC at*
 clear hMB hMC hd hQ OC hR hF Aj BS Ap iJ hr B2 wL
 go_enter Tryz.func95,Tryz.ntmps95
 go_upto_region 1 with(fail)
 rw[←ER.out]
 clear ER
 generalize hsz:W.heap.size=s at*
 have Li:=Lib.hid hsz
 clear hsz
 have b0:W1.drew.cell? ⟨s,0,none⟩=some (.int .i64 first):=Dr.out.cell 0
 have b1:W1.drew.cell? ⟨s,1,none⟩=some (.int .i64 nb):=Dr.out.cell 1
 have b2:W1.drew.cell? ⟨s,2,none⟩=some (.int .i64 k):=Dr.out.cell 2
 have b3:W1.drew.cell? ⟨s,3,none⟩=some (.int .i64 count):=Dr.out.cell 3
 have a1:W1.drew.cell? ⟨sb,1,none⟩=some (.int .i64 hh):=Xr.out.cell 1
 have e0:W1.cell? ⟨s+1,0,none⟩=some (.int .i64 0):=Ka.out.cell 0
 have e1:W1.cell? ⟨s+1,1,none⟩=some (.int .i64 0):=Ka.out.cell 1
 have e2:W1.cell? ⟨s+1,2,none⟩=some (.int .i64 0):=Ka.out.cell 2
 have e3:W1.cell? ⟨s+1,3,none⟩=some (.int .i64 0):=Ka.out.cell 3
 have f0:W1.frozen? ⟨s+1,0,none⟩=false:=Ka.out.free 0
 have f1:W1.frozen? ⟨s+1,1,none⟩=false:=Ka.out.free 1
 have f2:W1.frozen? ⟨s+1,2,none⟩=false:=Ka.out.free 2
 have f3:W1.frozen? ⟨s+1,3,none⟩=false:=Ka.out.free 3
 refine wp_region_still_tail 31 (by kernel_rfl) (by kernel_rfl) ?_
 simp only[List.take_succ_cons,List.take_zero,List.drop_succ_cons,List.drop_zero]
 change wpStill Tryz.prog _ W1.drew (fun a'=>wpList Tryz.prog _ _ _ a' W1.drew) _ _
 repeat still_step
 refine wpStill_nil ?_
 go_wp2
 have N5:Row (((((W1.setCell ⟨s+1,0,none⟩ (.int .i64 F)).setCell ⟨s+1,1,none⟩ (.int .i64 MB)).setCell ⟨s+1,2,none⟩ (.int .i64 k)).setCell ⟨s+1,3,none⟩ (.int .i64 MC)).drew) (s+1) 39 [.int .i64 F,.int .i64 MB,.int .i64 k,.int .i64 MC]:=((((Ka.out.set 0 (.int .i64 F)).set 1 (.int .i64 MB)).set 2 (.int .i64 k)).set 3 (.int .i64 MC)).drewN 1
 have uT:Below W.heap.size W (((((W1.setCell ⟨s+1,0,none⟩ (.int .i64 F)).setCell ⟨s+1,1,none⟩ (.int .i64 MB)).setCell ⟨s+1,2,none⟩ (.int .i64 k)).setCell ⟨s+1,3,none⟩ (.int .i64 MC)).drew):=by
  have h0:Below s W W1:=Kj.out
  have h1:=h0.setCell (p:=⟨s+1,0,none⟩) (by show s≤s+1;omega) (.int .i64 (F:Int))
  have h2:=h1.setCell (p:=⟨s+1,1,none⟩) (by show s≤s+1;omega) (.int .i64 (MB:Int))
  have h3:=h2.setCell (p:=⟨s+1,2,none⟩) (by show s≤s+1;omega) (.int .i64 (k:Int))
  have h4:=(h3.setCell (p:=⟨s+1,3,none⟩) (by show s≤s+1;omega) (.int .i64 (MC:Int))).drew
  rw[Li.out];exact h4
 generalize((((W1.setCell ⟨s+1,0,none⟩ (.int .i64 F)).setCell ⟨s+1,1,none⟩ (.int .i64 MB)).setCell ⟨s+1,2,none⟩ (.int .i64 k)).setCell ⟨s+1,3,none⟩ (.int .i64 MC)).drew=w9 at*
 have q0:=N5.cell 0
 have q1:=N5.cell 1
 have q2:=N5.cell 2
 have q3:=N5.cell 3
 exact bodyPost_ret (v:=.agg #[.int .i64 F,.int .i64 MB,.int .i64 k,.int .i64 MC]) (by simp[results,Tryz.results95,go_sem,q0,q1,q2,q3]) rfl ⟨rfl,uT⟩
end
section
variable {α : Type} {sx : Nat} {d : α} {lt : α → α → Bool} {R : List α → World → Prop} {h : List α} {n : Nat} {W : World}
structure Pd (sx:Nat) (d:α) (lt:α→α→Bool) (R:List α→World→Prop):Prop where
 len:∀h W,R h W→Calls Tryz.prog 130 #[.pointer (some ⟨sx,0,none⟩)] W fun e w'=>e=.returned (.int .i64 h.length)∧R h w'
 less:∀h W i j,R h W→i<h.length→j<h.length→Calls Tryz.prog 164 #[.pointer (some ⟨sx,0,none⟩),.int .i64 (i:Nat),.int .i64 (j:Nat)] W fun e w'=>e=.returned (.bool (lt (h.getD i d) (h.getD j d)))∧R h w'
 swap:∀h W i j,R h W→i<h.length→j<h.length→Calls Tryz.prog 167 #[.pointer (some ⟨sx,0,none⟩),.int .i64 (i:Nat),.int .i64 (j:Nat)] W fun e w'=>e=.returned (.tuple #[])∧R (swp d h i j) w'
theorem Ol(x:Nat)(w:World):Sem.run Tryz.prog (method 335 184 (.pointer (some ⟨x,0,none⟩)) "Less") w=.ok (164,.pointer (some ⟨x,0,none⟩)) w:=by kernel_rfl
theorem Ko(x:Nat)(w:World):Sem.run Tryz.prog (method 335 184 (.pointer (some ⟨x,0,none⟩)) "Swap") w=.ok (167,.pointer (some ⟨x,0,none⟩)) w:=by kernel_rfl
theorem Mk(x:Nat)(w:World):Sem.run Tryz.prog (method 335 184 (.pointer (some ⟨x,0,none⟩)) "Len") w=.ok (130,.pointer (some ⟨x,0,none⟩)) w:=by kernel_rfl
theorem dK(W:World):Calls Tryz.prog 137 #[.iface 184 (.pointer (some ⟨sx,0,none⟩)),.int .i64 0] W fun e w'=>e=.returned (.tuple #[])∧w'=W:=by
 go_enter Tryz.func137,Tryz.ntmps137
 go_wp2_with fail
 go_loopw [1] (fun iv wr=>iv=.int .i64 0∧wr=W) (fun _ _=>0)
 case atStart=>exact⟨rfl,rfl⟩
 case round=>
  obtain⟨rfl,rfl⟩:=hrel
  go_wp2
  go_end0
  exact⟨rfl,rfl⟩
theorem MQ{i j:Nat}(hi:i<h.length)(hj:j<h.length):zY (fun p=>h.getD p d) (fun p=>(swp d h i j).getD p d) i j:=fun p=>by
 show (swp d h i j).getD p d=if p=i then h.getD j d else if p=j then h.getD i d else h.getD p d
 rw[Bu hi hj]
 by_cases h1:p=i
 ·by_cases h2:p=j
  ·rw[if_pos h2,if_pos h1,←h1,←h2]
  ·rw[if_neg h2,if_pos h1,if_pos h1]
 ·by_cases h2:p=j
  ·rw[if_pos h2,if_neg h1,if_pos h2]
  ·rw[if_neg h2,if_neg h1,if_neg h1,if_neg h2]
variable [DecidableEq α]
def cJ(d:α)(lt:α→α→Bool)(R:List α→World→Prop)(h:List α)(n:Nat)(e:Ending)(w':World):Prop:=∃b h',e=.returned (.bool b)∧Hp lt (fun p=>h'.getD p d) n∧h'.Perm h∧(∀p,n≤p→h'.getD p d=h.getD p d)∧(b=false→h'=h)∧R h' w'
theorem PA(hC:Pd sx d lt R)(ho:cX lt)(hr:R h W)(hn:n≤h.length∧n≤1000000)(hx:Xo lt (fun p=>h.getD p d) n 0):
  Calls Tryz.prog 170 #[.iface 184 (.pointer (some ⟨sx,0,none⟩)),.int .i64 0,.int .i64 (n:Nat)] W (cJ d lt R h n):=by
 have HC:=Lib.hid hC
 have hO:=Lib.hid ho
 have mL:=Ol sx
 have mS:=Ko sx
 have sJ:=Lib.hid hx
 have Gy:=Lib.hid hr
 obtain⟨aI,QS⟩:=hn
 clear hC ho hx hr
 go_enter Tryz.func170,Tryz.ntmps170
 go_wp2_with fail
 go_loopw [7] (fun iv wr=>∃(i:Nat) (h':List α),iv=.int .i64 (i:Nat)∧i≤n∧h'.length=h.length∧(i=0→h'=h)∧Hid (Xo lt (fun p=>h'.getD p d) n i)∧Hid (h'.Perm h)∧Hid (∀p,n≤p→h'.getD p d=h.getD p d)∧Hid (R h' wr)) (fun iv _=>n-(intOf iv).toNat)
 case atStart=>exact⟨0,h,rfl,by omega,rfl,fun _=>rfl,sJ,List.Perm.refl _,fun _ _=>rfl,Gy⟩
 case round=>
  obtain⟨i,h',rfl,OR,hlen,h0,HX,HP,HT,h3⟩:=hrel
  generalize wr=w2 at*
  clear sJ Gy
  obtain⟨e2,he2⟩:∃e2,2*i=e2:=⟨_,rfl⟩
  obtain⟨c1,Gx⟩:∃c1,e2+1=c1:=⟨_,rfl⟩
  obtain⟨c2,N8⟩:∃c2,c1+1=c2:=⟨_,rfl⟩
  have m1:(2:Int)*(i:Int)=(e2:Int):=by omega
  have m2:(e2:Int)+1=(c1:Int):=by omega
  have m3:(c1:Int)+1=(c2:Int):=by omega
  have VT:2*i+1≤c1∧c1≤2*i+1∧c2≤2*i+2∧2*i+2≤c2:=by omega
  have sU:Hid (∀j,0<j→par j=i→j=c1∨j=c2):=fun j _ hj=>by unfold par at hj;omega
  have AD6:e2≤2*i∧2*i≤e2:=by omega
  clear he2 Gx N8
  have hir:∀a,lt a a=false:=fun a=>by
   cases hq:lt a a with
   |false=>rfl
   |true=>have:=hO.out.asym a a hq;rw[hq]at this;exact this
  have zJ:=Lib.hid hir
  clear hir
  by_cases AC9:c1<n
  ·by_cases xD:c2<n
   ·have OG:=Lib.hid (HC.out.less h' w2 c2 c1 h3.out (by omega) (by omega))
    clear h3
    go_wp2_with fail
    refine OG.out.mono ?_
    rintro e w3 ⟨rfl,h3⟩
    replace h3:=Lib.hid h3
    by_cases Aj:lt (h'.getD c2 d) (h'.getD c1 d)=true
    ·rw[Aj]
     have HM:Hid (∀j,0<j→j<n→par j=i→lt (h'.getD j d) (h'.getD c2 d)=false):=fun j j0 j1 j2=>by
      rcases sU.out j j0 j2 with rfl|rfl
      ·exact hO.out.asym _ _ Aj
      ·exact zJ.out _
     clear Aj
     have QV:c2<h'.length:=by omega
     have nW:=Lib.hid (HC.out.less h' w3 c2 i h3.out QV (by omega))
     go_wp2_with fail
     refine nW.out.mono ?_
     rintro e w4 ⟨rfl,h4⟩
     replace h4:=Lib.hid h4
     by_cases AX:lt (h'.getD c2 d) (h'.getD i d)=true
     ·rw[AX]
      have JN:=Lib.hid (HC.out.swap h' w4 i c2 h4.out (by omega) QV)
      have Ea:=Lib.hid (HX.out.step hO.out (c:=c2) (by omega) (by omega) AX HM.out (MQ (by omega) QV))
      have KH:(swp d h' i c2).length=h'.length:=B3
      have nP:=Lib.hid ((GV (d:=d) (i:=i) (j:=c2) (by omega) QV).trans HP.out)
      have Qp:Hid (∀p,n≤p→(swp d h' i c2).getD p d=h.getD p d):=fun p hp=>by rw[Bu (by omega) QV,if_neg (by omega),if_neg (by omega)];exact HT.out p hp
      have hib:i<c2:=by omega
      have VT:c2<n:=by omega
      generalize swp d h' i c2=h2 at*
      clear AX
      go_wp2_with fail
      refine JN.out.mono ?_
      rintro e w5 ⟨rfl,h5⟩
      replace h5:=Lib.hid h5
      go_wp2
      go_roundw
      case rel=>exact⟨c2,h2,rfl,by omega,by omega,fun h0=>by omega,Ea,nP,Qp,h5⟩
      case measure=>simp[intOf];omega
     ·have A9:lt (h'.getD c2 d) (h'.getD i d)=false:=by simpa using AX
      rw[A9]
      have Aq:=Lib.hid (HX.out.stop hO.out A9 HM.out)
      clear AX A9
      by_cases CA:i=0
      ·subst CA
       obtain rfl:=h0 rfl
       go_wp2
       go_ret
       exact⟨_,_,rfl,Aq.out,List.Perm.refl _,fun _ _=>rfl,fun _=>rfl,h4.out⟩
      ·have xK:0<i:=by omega
       go_wp2
       go_ret
       exact⟨_,_,rfl,Aq.out,HP.out,HT.out,fun hf=>by simp at hf,h4.out⟩
    ·have l9:lt (h'.getD c2 d) (h'.getD c1 d)=false:=by simpa using Aj
     rw[l9]
     have HM:Hid (∀j,0<j→j<n→par j=i→lt (h'.getD j d) (h'.getD c1 d)=false):=fun j j0 j1 j2=>by
      rcases sU.out j j0 j2 with rfl|rfl
      ·exact zJ.out _
      ·exact l9
     clear Aj l9
     have QV:c1<h'.length:=by omega
     have nW:=Lib.hid (HC.out.less h' w3 c1 i h3.out QV (by omega))
     go_wp2_with fail
     refine nW.out.mono ?_
     rintro e w4 ⟨rfl,h4⟩
     replace h4:=Lib.hid h4
     by_cases AX:lt (h'.getD c1 d) (h'.getD i d)=true
     ·rw[AX]
      have JN:=Lib.hid (HC.out.swap h' w4 i c1 h4.out (by omega) QV)
      have Ea:=Lib.hid (HX.out.step hO.out (c:=c1) (by omega) (by omega) AX HM.out (MQ (by omega) QV))
      have KH:(swp d h' i c1).length=h'.length:=B3
      have nP:=Lib.hid ((GV (d:=d) (i:=i) (j:=c1) (by omega) QV).trans HP.out)
      have Qp:Hid (∀p,n≤p→(swp d h' i c1).getD p d=h.getD p d):=fun p hp=>by rw[Bu (by omega) QV,if_neg (by omega),if_neg (by omega)];exact HT.out p hp
      have hib:i<c1:=by omega
      have VT:c1<n:=by omega
      generalize swp d h' i c1=h2 at*
      clear AX
      go_wp2_with fail
      refine JN.out.mono ?_
      rintro e w5 ⟨rfl,h5⟩
      replace h5:=Lib.hid h5
      go_wp2
      go_roundw
      case rel=>exact⟨c1,h2,rfl,by omega,by omega,fun h0=>by omega,Ea,nP,Qp,h5⟩
      case measure=>simp[intOf];omega
     ·have A9:lt (h'.getD c1 d) (h'.getD i d)=false:=by simpa using AX
      rw[A9]
      have Aq:=Lib.hid (HX.out.stop hO.out A9 HM.out)
      clear AX A9
      by_cases CA:i=0
      ·subst CA
       obtain rfl:=h0 rfl
       go_wp2
       go_ret
       exact⟨_,_,rfl,Aq.out,List.Perm.refl _,fun _ _=>rfl,fun _=>rfl,h4.out⟩
      ·have xK:0<i:=by omega
       go_wp2
       go_ret
       exact⟨_,_,rfl,Aq.out,HP.out,HT.out,fun hf=>by simp at hf,h4.out⟩
   ·generalize w2=w3 at*
    have HM:Hid (∀j,0<j→j<n→par j=i→lt (h'.getD j d) (h'.getD c1 d)=false):=fun j j0 j1 j2=>by
     rcases sU.out j j0 j2 with rfl|rfl
     ·exact zJ.out _
     ·exact absurd j1 xD
    have QV:c1<h'.length:=by omega
    have nW:=Lib.hid (HC.out.less h' w3 c1 i h3.out QV (by omega))
    go_wp2_with fail
    refine nW.out.mono ?_
    rintro e w4 ⟨rfl,h4⟩
    replace h4:=Lib.hid h4
    by_cases AX:lt (h'.getD c1 d) (h'.getD i d)=true
    ·rw[AX]
     have JN:=Lib.hid (HC.out.swap h' w4 i c1 h4.out (by omega) QV)
     have Ea:=Lib.hid (HX.out.step hO.out (c:=c1) (by omega) (by omega) AX HM.out (MQ (by omega) QV))
     have KH:(swp d h' i c1).length=h'.length:=B3
     have nP:=Lib.hid ((GV (d:=d) (i:=i) (j:=c1) (by omega) QV).trans HP.out)
     have Qp:Hid (∀p,n≤p→(swp d h' i c1).getD p d=h.getD p d):=fun p hp=>by rw[Bu (by omega) QV,if_neg (by omega),if_neg (by omega)];exact HT.out p hp
     have hib:i<c1:=by omega
     have VT:c1<n:=by omega
     generalize swp d h' i c1=h2 at*
     clear AX
     go_wp2_with fail
     refine JN.out.mono ?_
     rintro e w5 ⟨rfl,h5⟩
     replace h5:=Lib.hid h5
     go_wp2
     go_roundw
     case rel=>exact⟨c1,h2,rfl,by omega,by omega,fun h0=>by omega,Ea,nP,Qp,h5⟩
     case measure=>simp[intOf];omega
    ·have A9:lt (h'.getD c1 d) (h'.getD i d)=false:=by simpa using AX
     rw[A9]
     have Aq:=Lib.hid (HX.out.stop hO.out A9 HM.out)
     clear AX A9
     by_cases CA:i=0
     ·subst CA
      obtain rfl:=h0 rfl
      go_wp2
      go_ret
      exact⟨_,_,rfl,Aq.out,List.Perm.refl _,fun _ _=>rfl,fun _=>rfl,h4.out⟩
     ·have xK:0<i:=by omega
      go_wp2
      go_ret
      exact⟨_,_,rfl,Aq.out,HP.out,HT.out,fun hf=>by simp at hf,h4.out⟩
  ·have Aq:=Lib.hid (HX.out.leaf (by omega))
   by_cases CA:i=0
   ·subst CA
    obtain rfl:=h0 rfl
    go_wp2
    go_ret
    exact⟨_,_,rfl,Aq.out,List.Perm.refl _,fun _ _=>rfl,fun _=>rfl,h3.out⟩
   ·have xK:0<i:=by omega
    go_wp2
    go_ret
    exact⟨_,_,rfl,Aq.out,HP.out,HT.out,fun hf=>by simp at hf,h3.out⟩
end
section
variable {α : Type} [DecidableEq α] {sx : Nat} {d : α} {lt : α → α → Bool} {R : List α → World → Prop} {h : List α} {n x : Nat} {W : World}
theorem en(hC:Pd sx d lt R)(ho:cX lt)(hr:R h W)(hn:n=h.length∧n≤1000000∧x<n)(hx:gE lt (fun p=>h.getD p d) n x):
  Calls Tryz.prog 137 #[.iface 184 (.pointer (some ⟨sx,0,none⟩)),.int .i64 (x:Nat)] W fun e w'=>e=.returned (.tuple #[])∧∃h',Hp lt (fun p=>h'.getD p d) n∧h'.Perm h∧R h' w':=by
 have HC:=Lib.hid hC
 have hO:=Lib.hid ho
 have mL:=Ol sx
 have mS:=Ko sx
 have sJ:=Lib.hid hx
 have Gy:=Lib.hid hr
 obtain⟨aI,QS,hxn⟩:=hn
 have HN:=Lib.hid aI
 clear hC ho hx hr aI
 go_enter Tryz.func137,Tryz.ntmps137
 go_wp2_with fail
 go_loopw [1] (fun iv wr=>∃(j:Nat) (h':List α),iv=.int .i64 (j:Nat)∧j<n∧Hid (h'.length=h.length)∧Hid (gE lt (fun p=>h'.getD p d) n j)∧Hid (h'.Perm h)∧Hid (R h' wr)) (fun iv _=>(intOf iv).toNat)
 case atStart=>exact⟨x,h,rfl,by omega,rfl,sJ,List.Perm.refl _,Gy⟩
 case round=>
  obtain⟨j,h',rfl,xG,hlen,HX,HP,h3⟩:=hrel
  generalize wr=w2 at*
  clear sJ Gy
  by_cases NK:j=0
  ·subst NK
   have HE:=Lib.hid HX.out.root
   go_wp2
   go_end0
   exact⟨rfl,h',HE.out,HP.out,h3.out⟩
  ·obtain⟨jm,uI⟩:∃jm,j-1=jm:=⟨_,rfl⟩
   obtain⟨pj,qc⟩:∃pj,jm/2=pj:=⟨_,rfl⟩
   have m1:(j:Int)-1=(jm:Int):=by omega
   have m2:(jm:Int).tdiv 2=(pj:Int):=by rw[←qc];rfl
   have qd:par j=pj:=by unfold par;rw[uI];exact qc
   have Aj:pj<j∧jm<j:=by omega
   have g1:((pj:Int)==(j:Int))=false:=by simp;omega
   have cR:j<h'.length:=by have:=hlen.out;have:=HN.out;omega
   have OG:=Lib.hid (HC.out.less h' w2 j pj h3.out cR (by omega))
   have ck:=Lib.hid qd
   have lX:0<j:=by omega
   have o6:=Lib.hid cR
   clear qc uI qd h3 cR
   go_wp2_with fail
   refine OG.out.mono ?_
   rintro e w3 ⟨rfl,h3⟩
   replace h3:=Lib.hid h3
   by_cases hb:lt (h'.getD j d) (h'.getD pj d)=true
   ·rw[hb]
    have Ea:=Lib.hid (HX.out.step hO.out lX xG (by show lt (h'.getD j d) (h'.getD (par j) d)=true;rw[ck.out];exact hb) (MQ (by rw[ck.out];have:=o6.out;omega) o6.out))
    rw[ck.out]at Ea
    have jO:=Lib.hid (HC.out.swap h' w3 pj j h3.out (by have:=o6.out;omega) o6.out)
    have nV:Hid ((swp d h' pj j).length=h.length):=B3.trans hlen.out
    have nP:=Lib.hid ((GV (d:=d) (i:=pj) (j:=j) (by have:=o6.out;omega) o6.out).trans HP.out)
    generalize swp d h' pj j=h2 at*
    clear hb
    go_wp2_with fail
    refine jO.out.mono ?_
    rintro e w4 ⟨rfl,h4⟩
    replace h4:=Lib.hid h4
    go_wp2
    go_roundw
    case rel=>exact⟨pj,h2,rfl,by omega,nV,Ea,nP,h4⟩
    case measure=>simp[intOf];omega
   ·have hb':lt (h'.getD j d) (h'.getD pj d)=false:=by simpa using hb
    rw[hb']
    have HE:=Lib.hid (HX.out.stop (by show lt (h'.getD j d) (h'.getD (par j) d)=false;rw[ck.out];exact hb'))
    clear hb hb'
    go_wp2
    go_end0
    exact⟨rfl,h',HE.out,HP.out,h3.out⟩
theorem WJ(x:Nat)(w:World):Sem.run Tryz.prog (method 335 184 (.pointer (some ⟨x,0,none⟩)) "Push") w=.ok (166,.pointer (some ⟨x,0,none⟩)) w:=by kernel_rfl
theorem Yo(x:Nat)(w:World):Sem.run Tryz.prog (method 335 184 (.pointer (some ⟨x,0,none⟩)) "Pop") w=.ok (172,.pointer (some ⟨x,0,none⟩)) w:=by kernel_rfl
theorem aN(hC:Pd sx d lt R)(ho:cX lt)(hr:R h W)(hn:h.length≤1000000)(hx:Xo lt (fun p=>h.getD p d) h.length 0):
  Calls Tryz.prog 168 #[.iface 184 (.pointer (some ⟨sx,0,none⟩)),.int .i64 0] W fun e w'=>e=.returned (.tuple #[])∧∃h',Hp lt (fun p=>h'.getD p d) h.length∧h'.Perm h∧R h' w':=by
 have mN:=Mk sx
 have HL:=Lib.hid (hC.len h W hr)
 have HD:Hid (∀W,R h W→Calls Tryz.prog 170 #[.iface 184 (.pointer (some ⟨sx,0,none⟩)),.int .i64 0,.int .i64 (h.length:Nat)] W (cJ d lt R h h.length)):=fun W h1=>PA hC ho h1 ⟨Nat.le_refl _,hn⟩ hx
 clear hC ho hr hx
 generalize hN:h.length=N at*
 clear hN
 go_enter Tryz.func168,Tryz.ntmps168
 go_wp2_with fail
 refine HL.out.mono ?_
 rintro e w2 ⟨rfl,h2⟩
 have HD2:=Lib.hid (HD.out w2 h2)
 clear h2 HD
 go_wp2_with fail
 refine HD2.out.mono ?_
 rintro e w3 ⟨b,h',rfl,h3,h4,h5,h6,h7⟩
 have H3:=Lib.hid h3
 have H4:=Lib.hid h4
 have H7:=Lib.hid h7
 clear h3 h4 h5 h6 h7
 cases b
 ·have HU:=Lib.hid (dK (sx:=sx) w3)
  go_wp2_with fail
  refine HU.out.mono ?_
  rintro e w4 ⟨rfl,rfl⟩
  go_wp2
  go_end0
  exact⟨rfl,h',H3.out,H4.out,H7.out⟩
 ·go_wp2
  go_end0
  exact⟨rfl,h',H3.out,H4.out,H7.out⟩
theorem aB{enc:α→Value}(hC:Pd sx d lt R)(ho:cX lt)(hr:R h W)(hn:h.length≤1000000)(hne:0<h.length)(hx:Hp lt (fun p=>h.getD p d) h.length)
  (qb:∀h W,R h W→0<h.length→Calls Tryz.prog 172 #[.pointer (some ⟨sx,0,none⟩)] W fun e w'=>e=.returned (enc (h.getD (h.length-1) d))∧R (h.take (h.length-1)) w'):
  Calls Tryz.prog 169 #[.iface 184 (.pointer (some ⟨sx,0,none⟩))] W fun e w'=>e=.returned (enc (h.getD 0 d))∧∃h',Hp lt (fun p=>h'.getD p d) (h.length-1)∧h'.length=h.length-1∧(h.getD 0 d::h').Perm h∧R h' w':=by
 have mN:=Mk sx
 have mS:=Ko sx
 have mP:=Yo sx
 have HL:=Lib.hid (hC.len h W hr)
 obtain⟨n,hN⟩:∃n,h.length-1=n:=⟨_,rfl⟩
 have jO:Hid (∀W,R h W→Calls Tryz.prog 167 #[.pointer (some ⟨sx,0,none⟩),.int .i64 0,.int .i64 (n:Nat)] W fun e w'=>e=.returned (.tuple #[])∧R (swp d h 0 n) w'):=fun W h1=>hC.swap h W 0 n h1 hne (by omega)
 have hD0:Xo lt (fun p=>(swp d h 0 n).getD p d) n 0:=Hp.jG fun j h0 h1 hp=>by
  have Dy:=IQ h0
  have hpn:par j≠n:=by omega
  show lt ((swp d h 0 n).getD j d) ((swp d h 0 n).getD (par j) d)=false
  rw[Bu hne (by omega),Bu hne (by omega),if_neg (by omega),if_neg (by omega),if_neg hpn,if_neg hp]
  exact hx j h0 (by omega)
 have HD:Hid (∀W,R (swp d h 0 n) W→Calls Tryz.prog 170 #[.iface 184 (.pointer (some ⟨sx,0,none⟩)),.int .i64 0,.int .i64 (n:Nat)] W (cJ d lt R (swp d h 0 n) n)):=fun W h1=>PA hC ho h1 ⟨by rw[B3];omega,by omega⟩ hD0
 have gN:=Lib.hid qb
 have Aq:Hid (∀h':List α,h'.Perm (swp d h 0 n)→(∀p,n≤p→h'.getD p d=(swp d h 0 n).getD p d)→h'.length-1=n∧0<h'.length∧h'.getD n d=h.getD 0 d∧(h.getD 0 d::h'.take n).Perm h):=fun h' hp ht=>by
  have hl:h'.length=h.length:=by rw[hp.length_eq,B3]
  have h1:h'.getD n d=h.getD 0 d:=by rw[ht n (Nat.le_refl _),Bu hne (by omega),if_pos rfl]
  refine⟨by omega,by omega,h1,?_⟩
  have h2:h'=h'.take n++[h'.getD n d]:=by
   have h3:h'.take (n+1)=h':=List.take_of_length_le (by omega)
   rw[List.take_add_one,List.getElem?_eq_getElem (by omega)]at h3
   have h4:h'.getD n d=h'[n]:=by rw[List.getD_eq_getElem?_getD,List.getElem?_eq_getElem (by omega)];rfl
   rw[h4];exact h3.symm
  rw[h1]at h2
  have h5:(h.getD 0 d::h'.take n).Perm h':=by
   have h6:(h.getD 0 d::h'.take n).Perm (h'.take n++[h.getD 0 d]):=(List.perm_append_singleton _ _).symm
   rw[←h2]at h6;exact h6
  exact h5.trans (hp.trans (GV hne (by omega)))
 have m1:(h.length:Int)-1=(n:Int):=by omega
 have Hz:h.length≤1000000:=hn
 generalize hH0:h.getD 0 d=s0 at*
 clear hC ho hr hx qb hD0 hH0
 have jT:=Lib.hid hN
 clear hN
 generalize uS:h.length=L at*
 clear uS
 generalize swp d h 0 n=h1 at*
 go_enter Tryz.func169,Tryz.ntmps169
 go_wp2_with fail
 refine HL.out.mono ?_
 rintro e w2 ⟨rfl,h2⟩
 have H2:=Lib.hid (jO.out w2 h2)
 clear h2 jO
 go_wp2_with fail
 refine H2.out.mono ?_
 rintro e w3 ⟨rfl,h3⟩
 have H3:=Lib.hid (HD.out w3 h3)
 clear h3 HD
 go_wp2_with fail
 refine H3.out.mono ?_
 rintro e w4 ⟨b,h',rfl,h4,h5,h6,h7,h8⟩
 obtain⟨k1,k2,k3,k4⟩:=Aq.out h' h5 h6
 have H8:=gN.out h' w4 h8 k2
 rw[k1,k3]at H8
 have H9:=Lib.hid H8
 have H4:=Lib.hid h4
 have K4:=Lib.hid k4
 have K1:=Lib.hid k1
 clear h4 h5 h6 h7 h8 k1 k2 k3 k4 H8
 go_wp2_with fail
 refine H9.out.mono ?_
 rintro e w5 ⟨rfl,h9⟩
 have H10:=Lib.hid h9
 clear h9
 go_wp2
 go_ret
 refine⟨rfl,h'.take n,?_,?_,K4.out,H10.out⟩
 ·rw[jT.out]
  intro j h0 h1
  have h2:=H4.out j h0 h1
  have h3:=IQ h0
  show lt ((h'.take n).getD j d) ((h'.take n).getD (par j) d)=false
  rw[List.getD_eq_getElem?_getD,List.getD_eq_getElem?_getD,List.getElem?_take,List.getElem?_take,if_pos h1,if_pos (by omega),←List.getD_eq_getElem?_getD,←List.getD_eq_getElem?_getD]
  exact h2
 ·rw[jT.out,List.length_take];have:=K1.out;omega
theorem XC{v:Value}{a:α}(hC:Pd sx d lt R)(ho:cX lt)(hn:h.length+1≤1000000)(hx:Hp lt (fun p=>h.getD p d) h.length)
  (iL:Calls Tryz.prog 166 #[.pointer (some ⟨sx,0,none⟩),v] W fun e w'=>e=.returned (.tuple #[])∧R (h++[a]) w'):
  Calls Tryz.prog 131 #[.iface 184 (.pointer (some ⟨sx,0,none⟩)),v] W fun e w'=>e=.returned (.tuple #[])∧∃h',Hp lt (fun p=>h'.getD p d) (h.length+1)∧h'.Perm (h++[a])∧R h' w':=by
 have mN:=Mk sx
 have mP:=WJ sx
 have ow:=Lib.hid iL
 have hl:(h++[a]).length=h.length+1:=by rw[List.length_append];rfl
 have T8:∀p,p<h.length→(h++[a]).getD p d=h.getD p d:=fun p hp=>by rw[List.getD_eq_getElem?_getD,List.getD_eq_getElem?_getD,List.getElem?_append_left hp]
 have HL:Hid (∀W,R (h++[a]) W→Calls Tryz.prog 130 #[.pointer (some ⟨sx,0,none⟩)] W fun e w'=>e=.returned (.int .i64 ((h.length+1:Nat):Int))∧R (h++[a]) w'):=fun W h1=>by
  have h2:=hC.len _ W h1
  rw[hl]at h2;exact h2
 have HU:Hid (∀W,R (h++[a]) W→Calls Tryz.prog 137 #[.iface 184 (.pointer (some ⟨sx,0,none⟩)),.int .i64 (h.length:Nat)] W fun e w'=>e=.returned (.tuple #[])∧∃h',Hp lt (fun p=>h'.getD p d) (h.length+1)∧h'.Perm (h++[a])∧R h' w'):=fun W h1=>by
  refine en hC ho h1 ⟨hl.symm,hn,by omega⟩ ⟨fun j h0 h2 hj=>?_,fun hp j h0 h2 hj=>by unfold par at hj;omega⟩
  have h3:=IQ h0
  show lt ((h++[a]).getD j d) ((h++[a]).getD (par j) d)=false
  rw[T8 j (by omega),T8 (par j) (by omega)]
  exact hx j h0 (by omega)
 obtain⟨L,hL⟩:∃L,h.length+1=L:=⟨_,rfl⟩
 have m1:(L:Int)-1=(h.length:Int):=by omega
 have uR:1≤L∧L≤1000000:=by omega
 rw[hL]at HL HU⊢
 clear hC ho hx iL hl T8 hL hn
 generalize h.length=n at*
 generalize h++[a]=h1 at*
 go_enter Tryz.func131,Tryz.ntmps131
 go_wp2_with fail
 refine ow.out.mono ?_
 rintro e w2 ⟨rfl,h2⟩
 have H2:=Lib.hid (HL.out w2 h2)
 clear h2 HL
 go_wp2_with fail
 refine H2.out.mono ?_
 rintro e w3 ⟨rfl,h3⟩
 have H3:=Lib.hid (HU.out w3 h3)
 clear h3 HU
 go_wp2_with fail
 refine H3.out.mono ?_
 rintro e w4 ⟨rfl,h',h4,h5,h6⟩
 have H4:=Lib.hid h4
 have H5:=Lib.hid h5
 have H6:=Lib.hid h6
 clear h4 h5 h6
 go_wp2
 go_end0
 exact⟨rfl,h',H4.out,H5.out,H6.out⟩
end
def GX(k g N cap:Nat)(o:AB)(lv:Value):List Value:=[.int .i64 k,.slice (some ⟨g,0,none⟩) N cap,.int .i64 o.a,.int .i64 o.b,.int .i64 o.c,.int .i64 o.d,.int .i64 o.e,lv]
def Lt(o:AB)(cur:Nat→AB)(a b:Nat×Nat):Bool:=decide (AN o (cur a.1) (cur b.1)<0)||(decide (AN o (cur a.1) (cur b.1)=0)&&decide (a.1<b.1))
theorem KE(o:AB)(cur:Nat→AB):cX (Lt o cur) where
 asym:=fun a b h=>by
  have h1:=Ag o (cur a.1) (cur b.1)
  unfold Lt at*
  simp only[Bool.or_eq_true,Bool.and_eq_true,decide_eq_true_eq,Bool.or_eq_false_iff,Bool.and_eq_false_iff,decide_eq_false_iff_not]at*
  omega
 trans:=fun a b c h k=>by
  have h1:=Ag o (cur a.1) (cur b.1)
  have h2:=Ag o (cur b.1) (cur c.1)
  have h3:=Ag o (cur a.1) (cur c.1)
  unfold Lt at*
  simp only[Bool.or_eq_false_iff,Bool.and_eq_false_iff,decide_eq_false_iff_not]at*
  have h4:AN o (cur a.1) (cur b.1)≤0:=by omega
  have h5:AN o (cur b.1) (cur c.1)≤0:=by omega
  have h6:=Bz h4 h5
  refine⟨by omega,?_⟩
  by_cases h7:AN o (cur c.1) (cur a.1)=0
  ·right
   have h8:AN o (cur a.1) (cur b.1)=0:=by
    by_cases h9:AN o (cur a.1) (cur b.1)<0
    ·have:=Gk h9 h5;omega
    ·omega
   have ID:AN o (cur b.1) (cur c.1)=0:=by
    by_cases h9:AN o (cur b.1) (cur c.1)<0
    ·have:=Gl h4 h9;omega
    ·omega
   omega
  ·left;exact h7
section
variable {W : World} {sx k g N cap n c : Nat} {o : AB} {A : Option Addr}
theorem J3(hr:Row W sx 187 (GX k g N cap o (.slice A n c))):Calls Tryz.prog 130 #[.pointer (some ⟨sx,0,none⟩)] W fun e w'=>e=.returned (.int .i64 n)∧w'=W:=by
 have c7:W.cell? ⟨sx,7,none⟩=some (.slice A n c):=hr.cell 7
 clear hr
 go_enter Tryz.func130,Tryz.ntmps130
 go_wp2
 go_ret
 exact⟨rfl,rfl⟩
end
section
variable {o : AB} {P : Nat} {live live' : Nat → List AB} {X8 out : List AB} {p0 : Nat} {t : AB} {r : List AB}
def Rz(o:AB)(P:Nat)(live:Nat→List AB)(c:AB):List AB:=(List.range P).flatMap fun p=>(live p).filter (Dw o c)
structure S8 (o:AB) (P:Nat) (live:Nat→List AB) (X8 out:List AB):Prop where
 cl:∀c,out.filter (Dw o c)++Rz o P live c=X8.filter (Dw o c)
 asc:Gz o out
 le:∀x∈out,∀p,p<P→∀y∈live p,AN o x y≤0
 live:∀p,p<P→Gz o (live p)
theorem NV{f g:Nat→List AB}:∀(l:List Nat) (_:∀p∈l,f p=g p),l.flatMap f=l.flatMap g
 |[],_=>rfl
 |a::l,h=>by rw[List.flatMap_cons,List.flatMap_cons,h a List.mem_cons_self,NV l fun p hp=>h p (List.mem_cons_of_mem _ hp)]
theorem range_split{P p0:Nat}(h:p0<P):List.range P=List.range p0++p0::(List.range (P-p0-1)).map (fun i=>p0+1+i):=by
 refine List.ext_getElem (by simp;omega) fun i h1 h2=>?_
 rw[List.getElem_range]
 rcases Nat.lt_trichotomy i p0 with hl|he|hg
 ·rw[List.getElem_append_left (by simp;omega),List.getElem_range]
 ·subst he
  rw[List.getElem_append_right (by simp)]
  simp
 ·rw[List.getElem_append_right (by simp;omega)]
  obtain⟨k,hk⟩:∃k,i-(List.range p0).length=k+1:=⟨i-p0-1,by simp;omega⟩
  simp only[hk,List.getElem_cons_succ,List.getElem_map,List.getElem_range]
  simp at hk
  omega
theorem S8.step(h:S8 o P live X8 out)(hp:p0<P)(hl:live p0=t::r)(IW:∀p u us,p<P→live p=u::us→AN o t u<0∨(AN o t u=0∧p0≤p))
  (h0:live' p0=r) (h1:∀p,p≠p0→live' p=live p):S8 o P live' X8 (out++[t]):=by
 have L3:∀p,p<P→∀y∈live p,AN o t y≤0:=fun p NI y hy=>by
  cases hq:live p with
  |nil=>rw[hq]at hy;cases hy
  |cons u us=>
   have h2:AN o t u≤0:=by rcases IW p u us NI hq with h|h<;>omega
   rw[hq]at hy
   rcases List.mem_cons.1 hy with rfl|hy
   ·exact h2
   ·have h3:=h.live p NI
    rw[hq]at h3
    exact Bz h2 ((List.pairwise_cons.1 h3).1 y hy)
 have hlt:∀p,p<p0→∀y∈live p,AN o t y<0:=fun p NI y hy=>by
  cases hq:live p with
  |nil=>rw[hq]at hy;cases hy
  |cons u us=>
   have h2:AN o t u<0:=by rcases IW p u us (by omega) hq with h|h<;>omega
   rw[hq]at hy
   rcases List.mem_cons.1 hy with rfl|hy
   ·exact h2
   ·have h3:=h.live p (by omega)
    rw[hq]at h3
    exact Gk h2 ((List.pairwise_cons.1 h3).1 y hy)
 have GL:∀p,∀y∈live' p,y∈live p:=fun p y hy=>by
  by_cases NI:p=p0
  ·rw[NI]at hy⊢;rw[hl];rw[h0]at hy;exact List.mem_cons_of_mem _ hy
  ·rwa [h1 p NI]at hy
 refine⟨fun c=>?_,?_,fun x hx p NI y hy=>?_,fun p NI=>?_⟩
 ·rw[←h.cl c,List.filter_append,List.append_assoc]
  congr 1
  unfold Rz
  rw[range_split hp,List.flatMap_append,List.flatMap_append,List.flatMap_cons,List.flatMap_cons,h0,hl]
  have e1:(List.range p0).flatMap (fun p=>(live' p).filter (Dw o c))=(List.range p0).flatMap (fun p=>(live p).filter (Dw o c)):=by
   refine NV _ fun p NI=>?_
   rw[h1 p (by have:=List.mem_range.1 NI;omega)]
  have e2:((List.range (P-p0-1)).map (fun i=>p0+1+i)).flatMap (fun p=>(live' p).filter (Dw o c))=((List.range (P-p0-1)).map (fun i=>p0+1+i)).flatMap (fun p=>(live p).filter (Dw o c)):=by
   refine NV _ fun p NI=>?_
   obtain⟨i,_,rfl⟩:=List.mem_map.1 NI
   rw[h1 _ (by omega)]
  rw[e1,e2]
  by_cases hc:Dw o c t=true
  ·have e3:(List.range p0).flatMap (fun p=>(live p).filter (Dw o c))=[]:=by
    refine List.flatMap_eq_nil_iff.2 fun p NI=>List.filter_eq_nil_iff.2 fun y hy he=>?_
    have h2:=hlt p (List.mem_range.1 NI) y hy
    unfold Dw at he hc
    simp only[decide_eq_true_eq]at he hc
    have:=FO hc he
    omega
   rw[e3,List.filter_cons_of_pos hc,List.filter_cons_of_pos hc]
   rfl
  ·rw[List.filter_cons_of_neg hc,List.filter_cons_of_neg hc]
   rfl
 ·exact List.pairwise_append.2 ⟨h.asc,List.pairwise_singleton _ _,fun x hx y hy=>by
   rw[List.mem_singleton.1 hy]
   exact h.le x hx p0 hp t (by rw[hl];exact List.mem_cons_self)⟩
 ·rcases List.mem_append.1 hx with hx|hx
  ·exact h.le x hx p NI y (GL p y hy)
  ·rw[List.mem_singleton.1 hx];exact L3 p NI y (GL p y hy)
 ·by_cases hq:p=p0
  ·rw[hq,h0]
   have h3:=h.live p0 hp
   rw[hl]at h3
   exact(List.pairwise_cons.1 h3).2
  ·rw[h1 p hq];exact h.live p NI
theorem S8.done(h:S8 o P live X8 out)(hn:∀p,p<P→live p=[]):Cl o X8 out∧Gz o out:=by
 refine⟨fun c=>?_,h.asc⟩
 rw[←h.cl c]
 have e:Rz o P live c=[]:=List.flatMap_eq_nil_iff.2 fun p hp=>by rw[hn p (List.mem_range.1 hp)];rfl
 rw[e,List.append_nil]
theorem S8.start(ha:∀p,p<P→Gz o (live p))(hi:X8=(List.range P).flatMap live):S8 o P live X8 []:=by
 refine⟨fun c=>?_,KX o,fun x hx=>absurd hx List.not_mem_nil,ha⟩
 rw[hi]
 unfold Rz
 rw[List.filter_nil,List.nil_append]
 generalize List.range P=ps
 induction ps with
 |nil=>rfl
 |cons q ps ih=>rw[List.flatMap_cons,List.flatMap_cons,List.filter_append,ih]
end
section
variable {W : World} {sx k g N cap n c gl i j a b : Nat} {o ta tb : AB}
theorem WS(hr:Row W sx 187 (GX k g N cap o (.slice (some ⟨gl,0,none⟩) n c)))(hi:i<n)(hj:j<n)
  (rH:W.cell? ⟨gl,i*2,none⟩=some (.int .i64 (a:Nat))) (hcj:W.cell? ⟨gl,j*2,none⟩=some (.int .i64 (b:Nat)))
  (hA:∀W',Below W.heap.size W W'→Calls Tryz.prog 163 #[.agg #[.int .i64 k,.slice (some ⟨g,0,none⟩) N cap],.int .i64 (a:Nat)] W' fun e w'=>e=.returned (.agg #[.int .i64 ta.a,.int .i64 ta.b,.int .i64 ta.c,.int .i64 ta.d,.int .i64 ta.e])∧Below W'.heap.size W' w')
  (hB:∀W',Below W.heap.size W W'→Calls Tryz.prog 163 #[.agg #[.int .i64 k,.slice (some ⟨g,0,none⟩) N cap],.int .i64 (b:Nat)] W' fun e w'=>e=.returned (.agg #[.int .i64 tb.a,.int .i64 tb.b,.int .i64 tb.c,.int .i64 tb.d,.int .i64 tb.e])∧Below W'.heap.size W' w'):
  Calls Tryz.prog 164 #[.pointer (some ⟨sx,0,none⟩),.int .i64 (i:Nat),.int .i64 (j:Nat)] W fun e w'=>e=.returned (.bool (decide (AN o ta tb<0)||(decide (AN o ta tb=0)&&decide (a<b))))∧Below W.heap.size W w':=by
 have c7:W.drew.cell? ⟨sx,7,none⟩=some (.slice (some ⟨gl,0,none⟩) n c):=hr.cell 7
 have ci:W.drew.cell? ⟨gl,i*2,none⟩=some (.int .i64 (a:Nat)):=rH
 have cj:W.drew.cell? ⟨gl,j*2,none⟩=some (.int .i64 (b:Nat)):=hcj
 have i1:(0:Int)≤(i:Int):=by omega
 have i2:(i:Int)<(n:Int):=by omega
 have j1:(0:Int)≤(j:Int):=by omega
 have j2:(j:Int)<(n:Int):=by omega
 have Q1:Hid (∀d os,Calls Tryz.prog 163 #[.agg #[.int .i64 k,.slice (some ⟨g,0,none⟩) N cap],.int .i64 (a:Nat)] (Sort.grow (redrawn W.drew d) os) fun e DG=>e=.returned (.agg #[.int .i64 ta.a,.int .i64 ta.b,.int .i64 ta.c,.int .i64 ta.d,.int .i64 ta.e])∧∃p:Regrown,DG=Sort.grow (redrawn W.drew p.d) p.os):=fun d os=>Calls.regrown_of (hA _ ((AH (Below.refl _ _)).trans (below_regrown W.drew d os)))
 have Q2:Hid (∀d os,Calls Tryz.prog 163 #[.agg #[.int .i64 k,.slice (some ⟨g,0,none⟩) N cap],.int .i64 (b:Nat)] (Sort.grow (redrawn W.drew d) os) fun e DG=>e=.returned (.agg #[.int .i64 tb.a,.int .i64 tb.b,.int .i64 tb.c,.int .i64 tb.d,.int .i64 tb.e])∧∃p:Regrown,DG=Sort.grow (redrawn W.drew p.d) p.os):=fun d os=>Calls.regrown_of (hB _ ((AH (Below.refl _ _)).trans (below_regrown W.drew d os)))
 have Q3:Hid (∀d os,Calls Tryz.prog 159 #[.agg #[.int .i64 ta.a,.int .i64 ta.b,.int .i64 ta.c,.int .i64 ta.d,.int .i64 ta.e],.agg #[.int .i64 tb.a,.int .i64 tb.b,.int .i64 tb.c,.int .i64 tb.d,.int .i64 tb.e],.agg #[.int .i64 o.a,.int .i64 o.b,.int .i64 o.c,.int .i64 o.d,.int .i64 o.e]] (Sort.grow (redrawn W.drew d) os) fun e DG=>e=.returned (.int .i64 (AN o ta tb))∧∃p:Regrown,DG=Sort.grow (redrawn W.drew p.d) p.os):=fun d os=>Calls.regrown_of (MM o _ _ _)
 have hrd:Row W.drew sx 187 (GX k g N cap o (.slice (some ⟨gl,0,none⟩) n c)):=hr.drewN 1
 have k0:∀d os,(Sort.grow (redrawn W.drew d) os).cell? ⟨sx,0,none⟩=some (.int .i64 k):=cell_regrown (hrd.cell 0)
 have k1:∀d os,(Sort.grow (redrawn W.drew d) os).cell? ⟨sx,1,none⟩=some (.slice (some ⟨g,0,none⟩) N cap):=cell_regrown (hrd.cell 1)
 have k2:∀d os,(Sort.grow (redrawn W.drew d) os).cell? ⟨sx,2,none⟩=some (.int .i64 o.a):=cell_regrown (hrd.cell 2)
 have k3:∀d os,(Sort.grow (redrawn W.drew d) os).cell? ⟨sx,3,none⟩=some (.int .i64 o.b):=cell_regrown (hrd.cell 3)
 have k4:∀d os,(Sort.grow (redrawn W.drew d) os).cell? ⟨sx,4,none⟩=some (.int .i64 o.c):=cell_regrown (hrd.cell 4)
 have k5:∀d os,(Sort.grow (redrawn W.drew d) os).cell? ⟨sx,5,none⟩=some (.int .i64 o.d):=cell_regrown (hrd.cell 5)
 have k6:∀d os,(Sort.grow (redrawn W.drew d) os).cell? ⟨sx,6,none⟩=some (.int .i64 o.e):=cell_regrown (hrd.cell 6)
 have GO:Hid (Below W.heap.size W W.drew):=AH (Below.refl _ _)
 generalize AN o ta tb=res at*
 obtain⟨ia,ib,ic,id,ie⟩:=ta
 obtain⟨ja,jb,jc,jd,je⟩:=tb
 obtain⟨oa,ob,oc,od,oe⟩:=o
 simp only at*
 clear hr hrd hA hB rH hcj hi hj
 go_enter Tryz.func164,Tryz.ntmps164
 go_wp2_with fail
 go_region_held3 (fun W=>W.cell? ⟨sx,7,none⟩=some (.slice (some ⟨gl,0,none⟩) n c)∧W.cell? ⟨gl,i*2,none⟩=some (.int .i64 (a:Nat))∧W.cell? ⟨gl,j*2,none⟩=some (.int .i64 (b:Nat))) (with_reducible exact⟨c7,ci,cj⟩) (fail)
 clear c7 ci cj
 go_wp2_with fail
 generalize W.drew=W1 at*
 refine wp_region_quiet_below (by kernel_rfl) (by kernel_rfl) ?_
 repeat(any_goals(first|go_big_quiet_step (with_reducible first|exact Q1.out _ _|exact Q2.out _ _|exact Q3.out _ _)|quiet_step (with_reducible first|exact Q1.out _ _|exact Q2.out _ _|exact Q3.out _ _)))
 refine wpQuiet_nil ?_
 intro w5 EU
 obtain⟨⟨dq,osq⟩,EU⟩:=EU
 have Bm:=below_regrown W1 dq osq
 rw[←EU]at Bm
 have HB:=Lib.hid Bm
 clear EU Bm
 have HF:Hid (Below W.heap.size W w5):=GO.out.trans (HB.out.mono GO.out.size)
 by_cases h1:res<0
 ·have HR:Hid ((decide (res<0)||decide (res=0)&&decide (a<b))=true):=by unfold Hid;rw[decide_eq_true h1];rfl
  go_wp2
  go_ret
  exact⟨by rw[HR.out];rfl,HF.out⟩
 ·by_cases h2:res=0
  ·subst h2
   clear h1
   by_cases h3:a<b
   ·go_wp2
    go_ret
    exact⟨by simp,HF.out⟩
   ·go_wp2
    go_ret
    exact⟨by simp,HF.out⟩
  ·have HD9:Hid (decide (res<0)=false):=decide_eq_false h1
   have g2:(res==0)=false:=by simpa using h2
   go_wp2
   go_ret
   exact⟨by rw[HD9.out];rfl,HF.out⟩
end
section
variable {W : World} {sx k g N cap n m c gl a : Nat} {o : AB} {v : Value}
theorem Yq(hr:Row W sx 187 (GX k g N cap o (.slice (some ⟨gl,0,none⟩) n c)))(hm:n=m+1)(hn:n≤c∧n≤1000000){x:Nat}
  (xX:W.cell? ⟨gl,m*2,none⟩=some (.int .i64 (a:Nat))) (hcv:W.cell? ⟨gl,m*2+1,none⟩=some (.pointer (some ⟨x,0,none⟩))):
  Calls Tryz.prog 172 #[.pointer (some ⟨sx,0,none⟩)] W fun e w'=>e=.returned (.iface 202 (.agg #[.int .i64 (a:Nat),.pointer (some ⟨x,0,none⟩)]))∧Row w' sx 187 (GX k g N cap o (.slice (some ⟨gl,0,none⟩) m c))∧AK (fun b=>b=sx) W w':=by
 have c7:W.cell? ⟨sx,7,none⟩=some (.slice (some ⟨gl,0,none⟩) n c):=hr.cell 7
 have f7:=hr.free 7
 have m1:(n:Int)-1=(m:Int):=by omega
 have i1:(0:Int)≤(m:Int):=by omega
 have i2:(m:Int)<(n:Int):=by omega
 have i3:(m:Int)≤(c:Int):=by omega
 have hnc:=hn.2
 have HR:=Lib.hid hr
 have hlt:=hr.lt
 clear hm hr
 go_enter Tryz.func172,Tryz.ntmps172
 go_wp2
 go_ret
 refine⟨rfl,?_,?_⟩
 ·have h1:=(HR.out.set 7 (.slice (some ⟨gl,0,none⟩) m c)).alloc (.cells #[.int .i64 (a:Nat),.pointer (some ⟨x,0,none⟩)] 202)
  exact h1
 ·have h0:AK (fun b=>b=sx) W W:=AK.refl _ _
  have h2:=h0.set (p:=⟨sx,7,none⟩) (.inl rfl) (.slice (some ⟨gl,0,none⟩) m c)
  exact h2.trans (AK.AJ ((Below.refl _ _).alloc (Nat.le_refl _) _) (fun b=>b=sx)) fun b hb=>.inl hb
end
section
variable {W : World} {sx k g N cap n c gl i j a b xa xb B p x : Nat} {o : AB} {lv : Value} {cs xs : List Value}
theorem WN(hr:Row W sx 187 (GX k g N cap o (.slice (some ⟨gl,0,none⟩) n c)))(hl:Row W gl 202 cs)(hi:i<n)(hj:j<n)
  (xX:cs[i*2]?=some (.int .i64 (a:Nat))) (rE:cs[i*2+1]?=some (.pointer (some ⟨xa,0,none⟩))) (VT:cs[j*2]?=some (.int .i64 (b:Nat))) (fJ:cs[j*2+1]?=some (.pointer (some ⟨xb,0,none⟩))):
  Calls Tryz.prog 167 #[.pointer (some ⟨sx,0,none⟩),.int .i64 (i:Nat),.int .i64 (j:Nat)] W fun e w'=>e=.returned (.tuple #[])∧
   Row w' gl 202 ((((cs.set (i*2) (.int .i64 (b:Nat))).set (i*2+1) (.pointer (some ⟨xb,0,none⟩))).set (j*2) (.int .i64 (a:Nat))).set (j*2+1) (.pointer (some ⟨xa,0,none⟩)))∧AK (fun b=>b=gl) W w':=by
 have c7:W.cell? ⟨sx,7,none⟩=some (.slice (some ⟨gl,0,none⟩) n c):=hr.cell 7
 have ca:W.cell? ⟨gl,i*2,none⟩=some (.int .i64 (a:Nat)):=(hl.cell _).trans xX
 have cxa:W.cell? ⟨gl,i*2+1,none⟩=some (.pointer (some ⟨xa,0,none⟩)):=(hl.cell _).trans rE
 have cb:W.cell? ⟨gl,j*2,none⟩=some (.int .i64 (b:Nat)):=(hl.cell _).trans VT
 have cxb:W.cell? ⟨gl,j*2+1,none⟩=some (.pointer (some ⟨xb,0,none⟩)):=(hl.cell _).trans fJ
 have fa:=hl.free (i*2)
 have fxa:=hl.free (i*2+1)
 have fb:=hl.free (j*2)
 have fxb:=hl.free (j*2+1)
 have i1:(0:Int)≤(i:Int):=by omega
 have i2:(i:Int)<(n:Int):=by omega
 have j1:(0:Int)≤(j:Int):=by omega
 have j2:(j:Int)<(n:Int):=by omega
 have HL:=Lib.hid hl
 have hz:∀v1 v2,Row ((W.setCell ⟨gl,i*2,none⟩ v1).setCell ⟨gl,i*2+1,none⟩ v2) gl 202 ((cs.set (i*2) v1).set (i*2+1) v2):=fun v1 v2=>(hl.set _ _).set _ _
 have hlen:j*2+1<cs.length:=by
  rcases Nat.lt_or_ge (j*2+1) cs.length with hx|hx
  ·exact hx
  ·rw[List.getElem?_eq_none hx]at fJ;cases fJ
 obtain⟨v3,z3⟩:∃v3,((W.setCell ⟨gl,i*2,none⟩ (.int .i64 (b:Nat))).setCell ⟨gl,i*2+1,none⟩ (.pointer (some ⟨xb,0,none⟩))).cell? ⟨gl,j*2,none⟩=some v3:=⟨_,by rw[(hz _ _).cell];exact List.getElem?_eq_getElem (by simp;omega)⟩
 obtain⟨v5,z5⟩:∃v3,(W.setCell ⟨gl,i*2,none⟩ (.int .i64 (b:Nat))).cell? ⟨gl,j*2,none⟩=some v3:=⟨_,by rw[(hl.set _ _).cell];exact List.getElem?_eq_getElem (by simp;omega)⟩
 obtain⟨v4,z4⟩:∃v4,(((W.setCell ⟨gl,i*2,none⟩ (.int .i64 (b:Nat))).setCell ⟨gl,i*2+1,none⟩ (.pointer (some ⟨xb,0,none⟩))).setCell ⟨gl,j*2,none⟩ (.int .i64 (a:Nat))).cell? ⟨gl,j*2+1,none⟩=some v4:=⟨_,by rw[((hz _ _).set _ _).cell];exact List.getElem?_eq_getElem (by simp;omega)⟩
 have f3:=(hz (.int .i64 (b:Nat)) (.pointer (some ⟨xb,0,none⟩))).free (j*2)
 have f4:=((hz (.int .i64 (b:Nat)) (.pointer (some ⟨xb,0,none⟩))).set (j*2) (.int .i64 (a:Nat))).free (j*2+1)
 clear hr hl xX rE VT fJ hi hj hz hlen
 go_enter Tryz.func167,Tryz.ntmps167
 go_wp2_with fail
 go_region
 go_wp2
 go_end0
 refine⟨rfl,?_,?_⟩
 ·exact((((HL.out.set (i*2) (.int .i64 (b:Nat))).set (i*2+1) (.pointer (some ⟨xb,0,none⟩))).set (j*2) (.int .i64 (a:Nat))).set (j*2+1) (.pointer (some ⟨xa,0,none⟩))).drewN 1
 ·exact(((((AK.refl (fun b=>b=gl) W).set (p:=⟨gl,i*2,none⟩) (.inl rfl) (.int .i64 (b:Nat))).set (p:=⟨gl,i*2+1,none⟩) (.inl rfl) (.pointer (some ⟨xb,0,none⟩))).set (p:=⟨gl,j*2,none⟩) (.inl rfl) (.int .i64 (a:Nat))).set (p:=⟨gl,j*2+1,none⟩) (.inl rfl) (.pointer (some ⟨xa,0,none⟩))).drew
theorem Mp(a:Nat×Nat)(w:World):Sem.run Tryz.prog (Instr.typeAssert (.iface 202 (.agg #[.int .i64 (a.1:Nat),.pointer (some ⟨a.2,0,none⟩)])) 20 202 false) w=.ok (.agg #[.int .i64 (a.1:Nat),.pointer (some ⟨a.2,0,none⟩)]) w:=by kernel_rfl
theorem ke:(Tryz.prog.info? 202).map (fun i=>(i.zero,i.size,i.bytes))=some (some (.agg #[.int .i64 0,.pointer none]),2,16):=by kernel_rfl
theorem WO(hr:Row W sx 187 (GX k g N cap o lv))(BG:W.ownsRow B 202 2 lv n xs)(hB:B≤W.heap.size)(hn:n≤1000000):
  Calls Tryz.prog 166 #[.pointer (some ⟨sx,0,none⟩),.iface 202 (.agg #[.int .i64 (p:Nat),.pointer (some ⟨x,0,none⟩)])] W fun e w'=>e=.returned (.tuple #[])∧
   ∃FI,Row w' sx 187 (GX k g N cap o FI)∧w'.ownsRow B 202 2 FI (n+1) (xs++[.int .i64 (p:Nat),.pointer (some ⟨x,0,none⟩)])∧AK (fun b=>b=sx∨lv.ownBlock=some b) W w'∧(∀b,FI.ownBlock=some b→lv.ownBlock=some b∨W.heap.size≤b):=by
 obtain⟨it,CA,Cy,CM,GJ⟩:=info_parts ke
 have hno:some sx≠lv.ownBlock:=fun e=>by
  obtain⟨h1,⟨h4,_⟩|⟨gl,c,c2,h4,h5,h6,_⟩⟩:=BG
  ·rw[h4]at e;cases e
  ·rw[h4]at e
   have e:sx=gl:=by injection e
   subst e
   have hx:Row W sx 202 c2.toList:=by unfold Row;rw[Array.toArray_toList];exact h6
   exact absurd (hr.typed hx) (by decide)
 have Aj:Below W.heap.size W (W.drew.alloc (.cells #[.int .i64 (p:Nat),.pointer (some ⟨x,0,none⟩)] 202)):=(AH (Below.refl _ _)).alloc (Nat.le_refl _) _
 have AX:Below W.heap.size W (W.alloc (.cells #[.int .i64 (p:Nat),.pointer (some ⟨x,0,none⟩)] 202)).drew:=AH ((Below.refl _ _).alloc (Nat.le_refl _) _)
 have o1:=Ks BG Aj
 have o2:=Ks BG AX
 have c7:W.drew.cell? ⟨sx,7,none⟩=some lv:=hr.cell 7
 have c8:(W.alloc (.cells #[.int .i64 (p:Nat),.pointer (some ⟨x,0,none⟩)] 202)).cell? ⟨sx,7,none⟩=some lv:=(hr.alloc _).cell 7
 have HK:Hid (∀w6 gg OU w7,Below W.heap.size W w6→w7.ownsRow B 202 2 (.slice (some ⟨gg,0,none⟩) (n+1) OU) (n+1) (xs++[.int .i64 (p:Nat),.pointer (some ⟨x,0,none⟩)])→w6.grownBy w7 lv.ownBlock→(lv.ownBlock=some gg∨gg=W.heap.size+1)→
   Row w7 sx 187 (GX k g N cap o lv)∧Row (w7.setCell ⟨sx,7,none⟩ (.slice (some ⟨gg,0,none⟩) (n+1) OU)) sx 187 (GX k g N cap o (.slice (some ⟨gg,0,none⟩) (n+1) OU))∧(w7.setCell ⟨sx,7,none⟩ (.slice (some ⟨gg,0,none⟩) (n+1) OU)).ownsRow B 202 2 (.slice (some ⟨gg,0,none⟩) (n+1) OU) (n+1) (xs++[.int .i64 (p:Nat),.pointer (some ⟨x,0,none⟩)])∧
   AK (fun b=>b=sx∨lv.ownBlock=some b) W (w7.setCell ⟨sx,7,none⟩ (.slice (some ⟨gg,0,none⟩) (n+1) OU))∧(∀b,(Value.slice (some ⟨gg,0,none⟩) (n+1) OU).ownBlock=some b→lv.ownBlock=some b∨W.heap.size≤b)):=fun w6 gg OU w7 hb ho hg Bp=>by
  have Ju:AK (fun b=>lv.ownBlock=some b) W w6:=AK.AJ hb _
  have S3:=Ju.grown hg fun k hk=>.inl hk
  have oI:=S3.row hr fun e=>hno e.symm
  refine⟨oI,oI.set 7 _,Rp ho oI (by decide) _,(S3.mono fun b hb=>.inr hb).set (p:=⟨sx,7,none⟩) (.inl (.inl rfl)) _,fun b hb=>?_⟩
  have hb:gg=b:=by injection hb
  subst hb
  exact Bp.elim .inl fun e=>.inr (by omega)
 have wJ:=Mp (p,x)
 have hBs:=Lib.hid hB
 clear BG hB hno hr
 go_enter Tryz.func166,Tryz.ntmps166
 go_wp2_with fail
 go_region_law ((refine step_append_lies _ rfl _ _ 185 rfl B 202 it _ 2 16 Tryz.underlying185 CA Cy CM GJ rfl (by decide) lv n xs (by rfl) (by first|exact o1|exact o2) ⟨W.heap.size,0,none⟩ 1 1 [.int .i64 (p:Nat),.pointer (some ⟨x,0,none⟩)] (by rfl) (by rfl) (World.news_of_block (cs:=#[.int .i64 (p:Nat),.pointer (some ⟨x,0,none⟩)]) (t:=202) (fr:=(0,0)) (by first|exact heap_alloc_new W _|exact heap_alloc_new W.drew _)) (by simp[Value.oneCell']) (by omega) (by unfold maxLen;omega) (by omega) (by have:=hBs.out;simp;omega) (W.heap.size+1) (by simp) ?_;intro gg OU w7 BG iW Bp hlt;have q7:=HK.out _ gg OU w7 (by first|exact Aj|exact AX) BG iW Bp;have q8:w7.cell? ⟨sx,7,none⟩=some lv:=q7.1.cell 7;have q9:=q7.1.free 7;have tY:=Lib.hid q7.2;clear q7 BG iW Bp))
 all_goals
  go_wp2
  go_end0
  exact⟨rfl,_,tY.out.1,tY.out.2.1,tY.out.2.2.1,tY.out.2.2.2⟩
end
def G9(a:Nat×Nat):List Value:=[.int .i64 (a.1:Nat),.pointer (some ⟨a.2,0,none⟩)]
def Dc(h:List (Nat×Nat)):List Value:=h.flatMap G9
theorem Jh(a:Nat×Nat)(h:List (Nat×Nat)):Dc (a::h)=.int .i64 (a.1:Nat)::.pointer (some ⟨a.2,0,none⟩)::Dc h:=rfl
theorem US(h:List (Nat×Nat))(a:Nat×Nat):Dc (h++[a])=Dc h++G9 a:=by unfold Dc;rw[List.flatMap_append];simp
theorem Cp:∀{h:List (Nat×Nat)} {i:Nat} {a:Nat×Nat},h[i]?=some a→(Dc h)[i*2]?=some (.int .i64 (a.1:Nat))∧(Dc h)[i*2+1]?=some (.pointer (some ⟨a.2,0,none⟩))
 |[],_,_,hi=>by simp at hi
 |b::h,0,a,hi=>by
  simp at hi;subst hi;exact⟨rfl,rfl⟩
 |b::h,i+1,a,hi=>by
  have h1:=Cp (h:=h) (i:=i) (a:=a) (by simpa using hi)
  rw[Jh,show (i+1)*2=i*2+1+1 by omega]
  exact h1
theorem LC:∀{h:List (Nat×Nat)} {i:Nat} (a:Nat×Nat),i<h.length→((Dc h).set (i*2) (.int .i64 (a.1:Nat))).set (i*2+1) (.pointer (some ⟨a.2,0,none⟩))=Dc (h.set i a)
 |[],_,_,hi=>by simp at hi
 |b::h,0,a,_=>rfl
 |b::h,i+1,a,hi=>by
  have h1:=LC (h:=h) (i:=i) a (by simpa using hi)
  rw[Jh,show (i+1)*2=i*2+1+1 by omega,List.set_cons_succ,List.set_cons_succ,List.set_cons_succ,List.set_cons_succ,h1]
  rfl
theorem NX:∀(h:List (Nat×Nat)) (n:Nat),(Dc h).take (n*2)=Dc (h.take n)
 |[],n=>by rw[List.take_nil];exact List.take_nil
 |a::h,0=>by rw[Nat.zero_mul,List.take_zero,List.take_zero];rfl
 |a::h,n+1=>by
  rw[Jh,show (n+1)*2=n*2+1+1 by omega,List.take_succ_cons,List.take_succ_cons,NX h n]
  rfl
theorem E4{w:World}{base:Nat}{e:TypeId}{v:Value}{n:Nat}{xs:List Value}(h:w.ownsRow base e 2 v n xs)(hn:0<n):
  ∃gl c cs,v=.slice (some ⟨gl,0,none⟩) n c∧base≤gl∧Row w gl e cs∧n≤c∧c≤maxLen∧cs.length=c*2∧cs.take (n*2)=xs:=by
 obtain⟨h1,⟨_,h2⟩|⟨gl,c,cur,h2,h3,h4,h5,h6,h7,h8⟩⟩:=h
 ·omega
 ·exact⟨gl,c,cur.toList,h2,h3,by unfold Row;rw[Array.toArray_toList];exact h4,h5,h6,by simpa using h7,h8⟩
theorem Iv{w:World}{base:Nat}{e:TypeId}{v:Value}{n:Nat}{xs:List Value}(h:w.ownsRow base e 2 v n xs):∃A c,v=.slice A n c:=by
 obtain⟨h1,⟨h2,h3⟩|⟨gl,c,cur,h2,_⟩⟩:=h
 ·exact⟨none,0,by rw[h2,h3]⟩
 ·exact⟨_,_,h2⟩
theorem ZQ{w:World}{base:Nat}{e:TypeId}{n gl c:Nat}{cs xs:List Value}(hr:Row w gl e cs)(hb:base≤gl)(hn:n≤c)(hc:c≤maxLen)(hl:cs.length=c*2)(hx:cs.take (n*2)=xs):w.ownsRow base e 2 (.slice (some ⟨gl,0,none⟩) n c) n xs:=by
 refine⟨by rw[←hx,List.length_take];omega,.inr ⟨gl,c,cs.toArray,rfl,hb,hr,hn,hc,by simpa using hl,by simpa using hx⟩⟩
def JA(X:Cx)(sx k g M:Nat)(o:AB)(lv:Value)(h:List (Nat×Nat)):AU:=⟨fun b=>b=sx∨lv.ownBlock=some b,fun W=>Row W sx 187 (GX k g M M o lv)∧W.ownsRow X.w0.heap.size 202 2 lv h.length (Dc h),none,(0,0),fun _=>True⟩
section
variable {X : Cx} {os : List AU} {m iz ig : Nat} {W W' : World} {sx k b g M : Nat} {o : AB} {lv : Value} {h cl : List (Nat × Nat)} {cur : List AB}
theorem Yp:(JA X sx k g M o lv h).Ok:=⟨fun W W' ⟨h1,h2⟩ hk=>⟨BY h1 (hk _ (.inl rfl)),CK h2 fun k he=>hk k (.inr he)⟩,fun _ _ _ _ _=>trivial,fun _ _ h=>by cases h⟩
theorem Wd.streams(hw:Wd X os m W)(hi:os[iz]?=some (JA X sx k g M o lv h)){FI:Value}{h':List (Nat×Nat)}(hf:AK (fun b=>b=sx∨lv.ownBlock=some b) W W')(hr:Row W' sx 187 (GX k g M M o FI))(ho:W'.ownsRow X.w0.heap.size 202 2 FI h'.length (Dc h'))
  (hb:∀b,FI.ownBlock=some b→lv.ownBlock=some b∨W.heap.size≤b):Wd X (os.set iz (JA X sx k g M o FI h')) m W':=by
 obtain⟨h1,h2⟩:=hw.at_ hi
 refine hw.I3 hi hf (fun b hb=>⟨hb,fun v hv=>?_⟩) Yp ⟨hr,ho⟩ (fun b AX=>⟨?_,?_⟩) rfl rfl (fun _ _=>trivial)
 ·rcases hb with rfl|hb
  ·exact absurd (h1.typed hv) (by decide)
  ·obtain⟨h3,⟨h4,_⟩|⟨gl,c,c2,h4,h5,h6,_⟩⟩:=h2
   ·rw[h4]at hb;cases hb
   ·rw[h4]at hb
    have hb:gl=b:=by injection hb
    subst hb
    have hx:Row W gl 202 c2.toList:=by unfold Row;rw[Array.toArray_toList];exact h6
    exact absurd (hx.typed hv) (by decide)
 ·rcases AX with rfl|AX
  ·exact .inl (.inl rfl)
  ·exact(hb b AX).elim (fun h=>.inl (.inr h)) .inr
 ·rcases AX with rfl|AX
  ·exact hr.lt
  ·exact(ho.lt b AX).2
def oo(X:Cx)(os:List AU)(m iz:Nat)(sx k g M:Nat)(o:AB)(P:Nat)(h:List (Nat×Nat))(W:World):Prop:=(∀a∈h,a.1<P)∧h.length≤100000∧∃lv,Wd X (os.set iz (JA X sx k g M o lv h)) m W
theorem Bs{h:List (Nat×Nat)}{i:Nat}(hi:i<h.length):h[i]?=some (h.getD i (0,0))∧h.getD i (0,0)∈h:=by
 have e:h.getD i (0,0)=h[i]:=by rw[List.getD_eq_getElem?_getD,List.getElem?_eq_getElem hi];rfl
 rw[e]
 exact⟨List.getElem?_eq_getElem hi,List.getElem_mem hi⟩
theorem Yg{h:List (Nat×Nat)}{i j:Nat}(hi:i<h.length)(hj:j<h.length):∀a∈swp (0,0) h i j,a∈h:=fun _ ha=>(GV hi hj).mem_iff.1 ha
theorem QY(hw:Wd X os m W)(hg:os[ig]?=some (CN b g M k cur))(hk:0<k∧k≤5)(hM:cur.length*k≤M∧M≤1000000)(hf:Dg k cur){p:Nat}(hp:p<cur.length):
  Calls Tryz.prog 163 #[.agg #[.int .i64 k,.slice (some ⟨g,0,none⟩) M M],.int .i64 (p:Nat)] W fun e w'=>e=.returned (.agg #[.int .i64 (cur.getD p AD).a,.int .i64 (cur.getD p AD).b,.int .i64 (cur.getD p AD).c,.int .i64 (cur.getD p AD).d,.int .i64 (cur.getD p AD).e])∧Below W.heap.size W w':=by
 obtain⟨_,ws,h2,h3,h4⟩:=hw.at_ hg
 obtain⟨h5,h6⟩:=KT hk.2 rfl rfl h4 (getD_some hp)
 obtain⟨h7,h8⟩:=hf _ (Iz hp)
 exact VW h3 hk (by omega) (Nat.le_refl _) hM.2 (by omega) h6 h7 h8
theorem Km(hg:os[ig]?=some (CN b g M k cur))(hi:iz≠ig)(hlt:iz<os.length)(hk:0<k∧k≤5)(hM:cur.length*k≤M∧M≤1000000)(hf:Dg k cur):
  Pd sx (0,0) (Lt o fun p=>cur.getD p AD) (oo X os m iz sx k g M o cur.length):=by
 have hs:∀lv h,(os.set iz (JA X sx k g M o lv h))[iz]?=some (JA X sx k g M o lv h):=fun lv h=>by rw[List.getElem?_set,if_pos rfl,if_pos hlt]
 have CE:∀lv h,(os.set iz (JA X sx k g M o lv h))[ig]?=some (CN b g M k cur):=fun lv h=>B4 hg hi
 refine⟨fun h W ⟨h0,hle,lv,hw⟩=>?_,fun h W i j ⟨h0,hle,lv,hw⟩ hi hj=>?_,fun h W i j ⟨h0,hle,lv,hw⟩ hi hj=>?_⟩
 ·obtain⟨h1,h2⟩:=hw.at_ (hs lv h)
  obtain⟨A,c,rfl⟩:=Iv h2
  exact(J3 h1).mono fun e w' ⟨he,hW⟩=>⟨he,h0,hle,.slice A h.length c,by rw[hW];exact hw⟩
 ·obtain⟨h1,h2⟩:=hw.at_ (hs lv h)
  obtain⟨gl,c,cs,rfl,h3,h4,h5,h6,h7,h8⟩:=E4 h2 (by omega)
  obtain⟨m1,m2⟩:=Bs hi
  obtain⟨m3,m4⟩:=Bs hj
  have Be:∀(p q:Nat) (v:Value),p<h.length→q<2→(Dc h)[p*2+q]?=some v→W.cell? ⟨gl,p*2+q,none⟩=some v:=fun p q v hp hq hv=>by
   rw[h4.cell,←hv,←h8,List.getElem?_take,if_pos (by omega)]
  refine(WS h1 hi hj (Be i 0 _ hi (by omega) (Cp m1).1) (Be j 0 _ hj (by omega) (Cp m3).1) (fun W' hb=>QY (hw.below hb) (CE _ h) hk hM hf (h0 _ m2)) (fun W' hb=>QY (hw.below hb) (CE _ h) hk hM hf (h0 _ m4))).mono ?_
  exact fun e w' ⟨he,hb⟩=>⟨he,h0,hle,_,hw.below hb⟩
 ·obtain⟨h1,h2⟩:=hw.at_ (hs lv h)
  obtain⟨gl,c,cs,rfl,h3,h4,h5,h6,h7,h8⟩:=E4 h2 (by omega)
  obtain⟨m1,m2⟩:=Bs hi
  obtain⟨m3,m4⟩:=Bs hj
  have Be:∀(p q:Nat) (v:Value),p<h.length→q<2→(Dc h)[p*2+q]?=some v→cs[p*2+q]?=some v:=fun p q v hp hq hv=>by
   rw[←hv,←h8,List.getElem?_take,if_pos (by omega)]
  refine(WN h1 h4 hi hj (Be i 0 _ hi (by omega) (Cp m1).1) (Be i 1 _ hi (by omega) (Cp m1).2) (Be j 0 _ hj (by omega) (Cp m3).1) (Be j 1 _ hj (by omega) (Cp m3).2)).mono ?_
  rintro e w' ⟨he,hr,hF⟩
  have ED:((((cs.set (i*2) (.int .i64 ((h.getD j (0,0)).1:Nat))).set (i*2+1) (.pointer (some ⟨(h.getD j (0,0)).2,0,none⟩))).set (j*2) (.int .i64 ((h.getD i (0,0)).1:Nat))).set (j*2+1) (.pointer (some ⟨(h.getD i (0,0)).2,0,none⟩))).take (h.length*2)=Dc (swp (0,0) h i j):=by
   rw[List.take_set,List.take_set,List.take_set,List.take_set,h8,LC _ hi,LC _ (by rw[List.length_set];exact hj)]
   rfl
  have hne:sx≠gl:=fun e=>absurd (h1.typed (e▸h4)) (by decide)
  have ho:w'.ownsRow X.w0.heap.size 202 2 (.slice (some ⟨gl,0,none⟩) h.length c) (swp (0,0) h i j).length (Dc (swp (0,0) h i j)):=by rw[B3];exact ZQ hr h3 h5 h6 (by simp[h7]) ED
  have h9:=hw.streams (h':=swp (0,0) h i j) (hs _ h) (hF.mono fun b hb=>by
   have hb:b=gl:=hb
   subst hb;exact .inr rfl) (hF.row h1 hne) ho (fun b hb=>.inl hb)
  rw[List.set_set]at h9
  exact⟨he,fun a ha=>h0 a (Yg hi hj a ha),by rw[B3];exact hle,_,h9⟩
def jx(a:Nat×Nat):Value:=.iface 202 (.agg #[.int .i64 (a.1:Nat),.pointer (some ⟨a.2,0,none⟩)])
theorem dY{P:Nat}(hlt:iz<os.length)(h:List (Nat×Nat))(W:World)(hr:oo X os m iz sx k g M o P h W)(hne:0<h.length):
  Calls Tryz.prog 172 #[.pointer (some ⟨sx,0,none⟩)] W fun e w'=>e=.returned (jx (h.getD (h.length-1) (0,0)))∧oo X os m iz sx k g M o P (h.take (h.length-1)) w':=by
 obtain⟨h0,hle,lv,hw⟩:=hr
 have hs:∀lv h,(os.set iz (JA X sx k g M o lv h))[iz]?=some (JA X sx k g M o lv h):=fun lv h=>by rw[List.getElem?_set,if_pos rfl,if_pos hlt]
 obtain⟨h1,h2⟩:=hw.at_ (hs lv h)
 obtain⟨gl,c,cs,rfl,h3,h4,h5,h6,h7,h8⟩:=E4 h2 hne
 obtain⟨m1,m2⟩:=Bs (show h.length-1<h.length by omega)
 have Be:∀(p q:Nat) (v:Value),p<h.length→q<2→(Dc h)[p*2+q]?=some v→W.cell? ⟨gl,p*2+q,none⟩=some v:=fun p q v hp hq hv=>by
  rw[h4.cell,←hv,←h8,List.getElem?_take,if_pos (by omega)]
 refine(Yq h1 (show h.length=(h.length-1)+1 by omega) ⟨h5,by omega⟩ (Be _ 0 _ (by omega) (by omega) (Cp m1).1) (Be _ 1 _ (by omega) (by omega) (Cp m1).2)).mono ?_
 rintro e w' ⟨he,hr,hF⟩
 have aH:gl≠sx:=fun e=>absurd (h1.typed (e▸h4)) (by decide)
 have lT:(h.take (h.length-1)).length=h.length-1:=by rw[List.length_take];omega
 have ho:w'.ownsRow X.w0.heap.size 202 2 (.slice (some ⟨gl,0,none⟩) (h.length-1) c) (h.take (h.length-1)).length (Dc (h.take (h.length-1))):=by
  rw[lT]
  refine ZQ (hF.row h4 aH) h3 (by omega) h6 h7 ?_
  rw[←NX,←h8,List.take_take,Nat.min_eq_left (by omega)]
 have h9:=hw.streams (h':=h.take (h.length-1)) (hs _ h) (hF.mono fun b hb=>.inl hb) hr ho (fun b hb=>.inl hb)
 rw[List.set_set]at h9
 exact⟨he,fun a ha=>h0 a (List.mem_of_mem_take ha),by omega,_,h9⟩
theorem Yl{P:Nat}(hlt:iz<os.length){h:List (Nat×Nat)}{W:World}(hr:oo X os m iz sx k g M o P h W)(a:Nat×Nat)(ha:a.1<P)(hl:h.length+1≤100000):
  Calls Tryz.prog 166 #[.pointer (some ⟨sx,0,none⟩),jx a] W fun e w'=>e=.returned (.tuple #[])∧oo X os m iz sx k g M o P (h++[a]) w':=by
 obtain⟨h0,hle,lv,hw⟩:=hr
 have hs:∀lv h,(os.set iz (JA X sx k g M o lv h))[iz]?=some (JA X sx k g M o lv h):=fun lv h=>by rw[List.getElem?_set,if_pos rfl,if_pos hlt]
 obtain⟨h1,h2⟩:=hw.at_ (hs lv h)
 refine(WO (p:=a.1) (x:=a.2) h1 h2 hw.size (by omega)).mono ?_
 rintro e w' ⟨he,FI,k1,k2,k3,k4⟩
 have ho:w'.ownsRow X.w0.heap.size 202 2 FI (h++[a]).length (Dc (h++[a])):=by rw[List.length_append,US];exact k2
 have h9:=hw.streams (h':=h++[a]) (hs _ h) k3 k1 ho k4
 rw[List.set_set]at h9
 refine⟨he,fun b hb=>?_,by rw[List.length_append];exact hl,_,h9⟩
 rcases List.mem_append.1 hb with hb|hb
 ·exact h0 b hb
 ·rw[List.mem_singleton.1 hb];exact ha
end
end Go.Proofs.YteldegofbbfaeaaGreat
