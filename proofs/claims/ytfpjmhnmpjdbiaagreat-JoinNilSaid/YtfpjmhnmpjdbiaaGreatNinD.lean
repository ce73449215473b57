/- What the laws stand on. -/
import Derived.Test.YtfpjmhnmpjdbiaaGreatNinC
namespace Go.Proofs.YtfpjmhnmpjdbiaaGreat
set_option linter.unusedVariables false
set_option maxRecDepth 100000
set_option maxHeartbeats 8000000
open Go.ChangeShapes Go.WideShapes Go.ChangeAt Go.RowKit
open Go.Joins Go.Deep
open Go.ChangeShapes Go.WideShapes Go.ChangeAt Go.RowKit Go.Maps
open Go.ChangeMaps (setBlock heap_setBlock_same heap_setBlock_other)
def setT(t:Tup)(k:Nat)(v:Int):Tup:=match k with
 |0=>{t with a:=v}
 |1=>{t with b:=v}
 |2=>{t with c:=v}
 |3=>{t with d:=v}
 |4=>{t with e:=v}
 | _=>t
theorem lt5{k:Nat}(h:k<5):k=0∨k=1∨k=2∨k=3∨k=4:=by omega
theorem setT_cells{t:Tup}{k:Nat}(hk:k<5)(v:Int):(tupC t).set k (.int .i64 v)=tupC (setT t k v):=by
 rcases lt5 hk with rfl|rfl|rfl|rfl|rfl<;>rfl
theorem tupC_at(t:Tup){k:Nat}(hk:k<5):(tupC t)[k]?=some (.int .i64 (colT t k)):=by
 rcases lt5 hk with rfl|rfl|rfl|rfl|rfl<;>rfl
theorem setT_ok{t:Tup}{k:Nat}(hk:k<5){v:Int}(h:TupOk t)(hv:I64 v):TupOk (setT t k v):=by
 have h0:=h t.a (by simp[Tup.cols])
 have h1:=h t.b (by simp[Tup.cols])
 have h2:=h t.c (by simp[Tup.cols])
 have h3:=h t.d (by simp[Tup.cols])
 have h4:=h t.e (by simp[Tup.cols])
 intro x hx
 rcases lt5 hk with rfl|rfl|rfl|rfl|rfl<;>
  (simp[setT,Tup.cols]at hx;rcases hx with rfl|rfl|rfl|rfl|rfl<;>assumption)
theorem setT_fits{t:Tup}{k:Nat}(hk:k<5){v:Int}(h:fitsT k t=true):fitsT (k+1) (setT t k v)=true:=by
 unfold fitsT at*
 rcases lt5 hk with rfl|rfl|rfl|rfl|rfl<;>simp[setT,Tup.cols]at h⊢<;>simp[h]
section
variable {X : Cx} {m : Nat} {W : World}
def numH(gF gI:Nat)(fc:List Value)(fr:Int)(j:Nat):List Asn:=[rowO gF 31 fc,rowO gI 2 [.int .i64 (fr+j)]]
def numC(k:Nat)(fr:Int)(j:Nat)(t:Tup):Option Tup:=some (setT t k (fr+j))
theorem ix_len(Y zz:List Asn)(n:Nat)(h:Y.length=n):n+zz.length=(Y++zz).length:=by subst h;simp
theorem ix_at1{Y zz:List Asn}{c d:Asn}{n:Nat}(h:Y.length=n):(Y++(zz++[c,d]))[n+zz.length]?=some c:=by
 rw[ix_len Y zz n h,←List.append_assoc];simp
theorem ix_at2{Y zz:List Asn}{c d:Asn}{n:Nat}(h:Y.length=n):(Y++(zz++[c,d]))[n+zz.length+1]?=some d:=by
 rw[ix_len Y zz n h,←List.append_assoc,List.getElem?_append_right (by omega),show (Y++zz).length+1-(Y++zz).length=1 by omega];rfl
theorem ix_set1{Y zz:List Asn}{c d x:Asn}{n:Nat}(h:Y.length=n):(Y++(zz++[c,d])).set (n+zz.length) x=Y++(zz++[x,d]):=by
 rw[ix_len Y zz n h,←List.append_assoc,List.set_append_right _ _ (Nat.le_refl _),Nat.sub_self,List.append_assoc];rfl
theorem ix_set2{Y zz:List Asn}{c d x:Asn}{n:Nat}(h:Y.length=n):(Y++(zz++[c,d])).set (n+zz.length+1) x=Y++(zz++[c,x]):=by
 rw[ix_len Y zz n h,←List.append_assoc,List.set_append_right _ _ (by omega),show (Y++zz).length+1-(Y++zz).length=1 by omega,List.append_assoc];rfl
theorem snd_store{Y Z:List Asn}{a b:Asn}:(Y++[a,b]++Z)[Y.length+1]?=some b:=by simp
theorem fst_store{Y Z:List Asn}{a b:Asn}:(Y++[a,b]++Z)[Y.length]?=some a:=by simp
theorem num_how{pre:List Asn}{gF gI k:Nat}{f0 f1 f3:Value}{fr:Int}{l:List Tup}(hk:k<5)(hfr:-9223372036854775808≤fr∧fr+l.length≤9223372036854775807):
  HowC X pre 50 #[.pointer (some ⟨gI,0,none⟩),.pointer (some ⟨gF,0,none⟩)] l (numC k fr) (numH gF gI [f0,f1,.int .i64 k,f3] fr) 2 where
 ent:=fun args w=>by kernel_rfl
 len:=fun _=>rfl
 how:=fun j zz m W t ht h=>by
  have hj:j<l.length:=by
   rcases Nat.lt_or_ge j l.length with hl|hl
   ·exact hl
   ·rw[List.getElem?_eq_none hl]at ht;cases ht
  obtain⟨v,hv⟩:∃v:Int,v=fr+j:=⟨_,rfl⟩
  obtain⟨W2,hW2⟩:∃W2,W2=(W.alloc (.cells #[.int .i64 t.a,.int .i64 t.b,.int .i64 t.c,.int .i64 t.d,.int .i64 t.e] 56)).alloc (.cells #[.int .i64 0,.int .i64 0,.int .i64 0,.int .i64 0,.int .i64 0] 56):=⟨_,rfl⟩
  have h1:=h.new ((Below.refl W.heap.size W).alloc (Nat.le_refl _) (.cells #[.int .i64 t.a,.int .i64 t.b,.int .i64 t.c,.int .i64 t.d,.int .i64 t.e] 56)) (heap_alloc_new _ _:Row _ _ 56 (tupC t)) (Nat.le_refl _)
  have h2:=h1.new ((Below.refl _ _).alloc (Nat.le_refl _) (.cells #[.int .i64 0,.int .i64 0,.int .i64 0,.int .i64 0,.int .i64 0] 56)) (heap_alloc_new _ _:Row _ _ 56 Z5) (Nat.le_refl _)
  rw[←hW2,show (W.alloc (.cells #[.int .i64 t.a,.int .i64 t.b,.int .i64 t.c,.int .i64 t.d,.int .i64 t.e] 56)).heap.size=W.heap.size+1 by simp]at h2
  obtain⟨s0,hs0⟩:∃s0,s0=W.heap.size:=⟨_,rfl⟩
  rw[←hs0]at h2
  obtain⟨A,hA⟩:∃A:Int→List Value→List Value→World→Prop,∀v c1 c2 w,A v c1 c2 w↔Wd X (pre++[rowO gF 31 [f0,f1,.int .i64 k,f3],rowO gI 2 [.int .i64 v]]++(zz++[rowO s0 56 c1,rowO (s0+1) 56 c2])) m w:=⟨_,fun _ _ _ _=>Iff.rfl⟩
  have hpl:∀v,(pre++[rowO gF 31 [f0,f1,.int .i64 k,f3],rowO gI 2 [.int .i64 v]]).length=pre.length+2:=fun v=>by simp
  have HA0:Hid (A v (tupC t) Z5 W2):=(hA _ _ _ _).2 (by rw[hv];simpa [List.append_assoc,numH]using h2)
  have HROW:Hid (∀v c1 c2 w,A v c1 c2 w→Row w gF 31 [f0,f1,.int .i64 k,f3]∧Row w gI 2 [.int .i64 v]∧Row w s0 56 c1∧Row w (s0+1) 56 c2):=fun v c1 c2 w q=>by
   have q:=(hA _ _ _ _).1 q
   exact⟨q.row fst_store,q.row snd_store,q.row (ix_at1 (hpl _)),q.row (ix_at2 (hpl _))⟩
  have HS1:Hid (∀v c1 c2 w j x,A v c1 c2 w→A v (c1.set j x) c2 (w.setCell ⟨s0,j,none⟩ x)):=fun v c1 c2 w j x q=>by
   have q1:=((hA _ _ _ _).1 q).store (ix_at1 (hpl _)) (by decide) j x
   rw[ix_set1 (hpl _)]at q1
   exact(hA _ _ _ _).2 q1
  have HS2:Hid (∀v c1 c2 w j x,A v c1 c2 w→A v c1 (c2.set j x) (w.setCell ⟨s0+1,j,none⟩ x)):=fun v c1 c2 w j x q=>by
   have q1:=((hA _ _ _ _).1 q).store (ix_at2 (hpl _)) (by decide) j x
   rw[ix_set2 (hpl _)]at q1
   exact(hA _ _ _ _).2 q1
  have HS3:Hid (∀v c1 c2 w x,A v c1 c2 w→A x c1 c2 (w.setCell ⟨gI,0,none⟩ (.int .i64 x))):=fun v c1 c2 w x q=>by
   have q1:=((hA _ _ _ _).1 q).store snd_store (by decide) 0 (.int .i64 x)
   refine(hA _ _ _ _).2 ?_
   have e:∀(Q:List Asn) (a b c:Asn),(pre++[a,b]++Q).set (pre.length+1) c=pre++[a,c]++Q:=fun Q a b c=>by simp
   rw[e]at q1
   exact q1
  have HEND:Hid (∀c1 c2 w,A (v+1) c1 c2 w→Wd X (pre++numH gF gI [f0,f1,.int .i64 k,f3] fr (j+1)++zz) m w):=fun c1 c2 w q=>by
   have q:=(hA _ _ _ _).1 q
   rw[←List.append_assoc]at q
   have q2:=Wd.cuts (b:=[]) [rowO s0 56 c1,rowO (s0+1) 56 c2] (fun y hy=>by simp at hy;rcases hy with rfl|rfl<;>exact⟨rfl,rfl⟩) (by rw[List.append_nil];exact q)
   rw[List.append_nil]at q2
   have e:fr+((j+1:Nat):Int)=v+1:=by rw[hv];omega
   unfold numH
   rw[e]
   exact q2
  have hc:numC k fr j t=some (setT t k v):=by unfold numC;rw[hv]
  have hvb:-9223372036854775808≤v∧v+1≤9223372036854775807:=by omega
  obtain⟨v1,hv1⟩:∃v1:Int,v1=v+1:=⟨_,rfl⟩
  have hv2:v+1=v1:=hv1.symm
  rw[hv2]at HEND
  have hvb1:-9223372036854775808≤v1∧v1≤9223372036854775807:=by omega
  have HC:=Lib.hid hc
  have HW2:=Lib.hid hW2
  have HT:=Lib.hid (setT_cells (t:=t) hk v)
  have HU:Hid (∃u,u=setT t k v):=⟨_,rfl⟩
  obtain⟨u,hu⟩:=HU.out
  have HT2:Hid (∀v,(tupC t).set k (.int .i64 v)=tupC (setT t k v)):=fun v=>setT_cells hk v
  have HT3:=Lib.hid (tupC_at t hk)
  rw[←hu]at HC HT
  have hki:(k:Int)<5:=by omega
  have hk0:(0:Int)≤(k:Int):=by omega
  clear h1 h2 h hpl hA hW2 hc hv hv1 hu HU hfr ht hj
  replace hs0:=Lib.hid hs0
  unfold tupV
  go_enter Tryz.func50,Tryz.ntmps50
  go_upto_region 1 with(fail)
  rw[←HW2.out,←hs0.out]
  clear HW2
  obtain⟨p1,p2,p3,p4⟩:=HROW.out _ _ _ _ HA0.out
  have q2:W2.cell? ⟨gF,2,none⟩=some (.int .i64 k):=p1.cell 2
  have q1:W2.cell? ⟨gI,0,none⟩=some (.int .i64 v):=p2.cell 0
  have qk:W2.cell? ⟨s0,k,none⟩=some (.int .i64 (colT t k)):=(p3.cell k).trans HT3.out
  have fk:=p3.free k
  have ha1:=HS1.out v (tupC t) Z5 W2 k (.int .i64 v) HA0.out
  rw[HT.out]at ha1
  have HA1:=Lib.hid ha1
  clear ha1 p1 p2 p3 p4
  go_upto_region 2 with(fail)
  generalize W2.setCell ⟨s0,k,none⟩ (.int .i64 v)=W3 at*
  clear q1 q2 qk fk
  obtain⟨p1,p2,p3,p4⟩:=HROW.out _ _ _ _ HA1.out
  have q1:W3.cell? ⟨gI,0,none⟩=some (.int .i64 v):=p2.cell 0
  have f1:=p2.free 0
  have HA2:=Lib.hid (HS3.out v _ _ W3 v1 HA1.out)
  clear p1 p2 p3 p4
  go_upto_region 3 with(fail)
  generalize W3.setCell ⟨gI,0,none⟩ (.int .i64 v1)=W4 at*
  clear q1 f1
  obtain⟨p1,p2,p3,p4⟩:=HROW.out _ _ _ _ HA2.out
  have d0:W4.cell? ⟨s0,0,none⟩=some (.int .i64 u.a):=p3.cell 0
  have d1:W4.cell? ⟨s0,1,none⟩=some (.int .i64 u.b):=p3.cell 1
  have d2:W4.cell? ⟨s0,2,none⟩=some (.int .i64 u.c):=p3.cell 2
  have d3:W4.cell? ⟨s0,3,none⟩=some (.int .i64 u.d):=p3.cell 3
  have d4:W4.cell? ⟨s0,4,none⟩=some (.int .i64 u.e):=p3.cell 4
  have z0:W4.cell? ⟨s0+1,0,none⟩=some (.int .i64 0):=p4.cell 0
  have z1:W4.cell? ⟨s0+1,1,none⟩=some (.int .i64 0):=p4.cell 1
  have z2:W4.cell? ⟨s0+1,2,none⟩=some (.int .i64 0):=p4.cell 2
  have z3:W4.cell? ⟨s0+1,3,none⟩=some (.int .i64 0):=p4.cell 3
  have z4:W4.cell? ⟨s0+1,4,none⟩=some (.int .i64 0):=p4.cell 4
  have f0:=p4.free 0
  have f1:=p4.free 1
  have f2:=p4.free 2
  have f3:=p4.free 3
  have f4:=p4.free 4
  have HA3:=Lib.hid (HS2.out _ _ _ _ 4 (.int .i64 u.e) (HS2.out _ _ _ _ 3 (.int .i64 u.d) (HS2.out _ _ _ _ 2 (.int .i64 u.c) (HS2.out _ _ _ _ 1 (.int .i64 u.b) (HS2.out v1 _ _ W4 0 (.int .i64 u.a) HA2.out)))))
  have HR9:=Lib.hid (HROW.out _ _ _ _ HA3.out).2.2.2
  clear p1 p2 p3 p4
  go_wp2
  have r0:=HR9.out.cell 0
  have r1:=HR9.out.cell 1
  have r2:=HR9.out.cell 2
  have r3:=HR9.out.cell 3
  have r4:=HR9.out.cell 4
  simp only[Z5,List.set_cons_zero,List.set_cons_succ,List.getElem?_cons_zero,List.getElem?_cons_succ]at r0 r1 r2 r3 r4
  refine bodyPost_ret (v:=.tuple #[tupV u,.bool true]) (by unfold tupV;simp[results,Tryz.results50,go_sem,r0,r1,r2,r3,r4]) rfl ?_
  exact⟨u,true,rfl,HC.out,HEND.out _ _ _ HA3.out⟩
def OpRes(X:Cx)(os:List Asn)(Out:List Tup)(m nb bd k:Nat)(e:Ending)(w':World):Prop:=
 (∃F N:Nat,e=.returned (.tuple #[.agg #[.int .i64 F,.int .i64 N,.int .i64 k,.int .i64 (Out.length:Nat)],.int .i64 0])∧FOk F N k (holdsI X.sz k) Out X.sz∧Wd X (os++[fiO F N k (holdsI X.sz k) Out X.sz]) (m+N+nb) w')∨
 (∃er:Nat,e=.returned (.tuple #[.agg #[.int .i64 0,.int .i64 0,.int .i64 0,.int .i64 0],.int .i64 er])∧0<er∧(er=6∧¬X.cm∨er=5∧∀q,¬Rm X os q (blocksN (holdsI X.sz k) bd))∧Wd X os (m+nb+bd+2) w')
theorem op_states{os:List Asn}{H:Nat→List Asn}{R nb bd k:Nat}{Out:List Tup}{e:Ending}{w':World}(hH:∀i,Bare (H i))(h:ChgRes X os [rowO R 31 Z4] H Out m nb bd k e w'):
  ∃C:List Value→World→Prop,∃F N K L er:Nat,e=.returned (.tuple #[.agg #[.int .i64 F,.int .i64 N,.int .i64 K,.int .i64 L],.int .i64 er])∧C Z4 w'∧(∀cs w,C cs w→Row w R 31 cs)∧
   (∀cs w x1 x2 x3 x4,cs.length=4→C cs w→C [x1,x2,x3,x4] ((((w.setCell ⟨R,0,none⟩ x1).setCell ⟨R,1,none⟩ x2).setCell ⟨R,2,none⟩ x3).setCell ⟨R,3,none⟩ x4))∧
   (∀cs w,C cs w→OpRes X os Out m nb bd k (.returned (.tuple #[.agg #[.int .i64 F,.int .i64 N,.int .i64 K,.int .i64 L],.int .i64 er])) w):=by
 rcases h with⟨F,N,i,he,hfo,hw⟩|⟨er,i,he,hpos,hwhy,hw⟩
 ·refine⟨fun cs w=>Wd X (os++H i++[rowO R 31 cs]++[fiO F N k (holdsI X.sz k) Out X.sz]) (m+N+nb) w,F,N,k,Out.length,0,he,hw,fun cs w q=>opn_row q,fun cs w x1 x2 x3 x4 hcs q=>opn_store hcs q x1 x2 x3 x4,fun cs w q=>.inl ⟨F,N,rfl,hfo,opn_cut (hH i) q⟩⟩
 ·refine⟨fun cs w=>Wd X (os++H i++[rowO R 31 cs]++[]) (m+nb+bd+2) w,0,0,0,0,er,he,by show Wd X (os++H i++[rowO R 31 Z4]++[]) (m+nb+bd+2) w';rw[List.append_nil];exact hw,fun cs w q=>opn_row q,fun cs w x1 x2 x3 x4 hcs q=>opn_store hcs q x1 x2 x3 x4,fun cs w q=>.inr ⟨er,rfl,hpos,?_,by have q2:=opn_cut (hH i) q;rwa [List.append_nil]at q2⟩⟩
  refine hwhy.imp_right fun⟨q1,q2⟩=>⟨q1,fun z hz=>q2 z ?_⟩
  rw[List.append_assoc]
  refine rm_none hz fun a ha=>?_
  rcases List.mem_append.1 ha with ha|ha
  ·exact(hH 0 a ha).2
  ·simp at ha;subst ha;rfl
theorem wd_number{os:List Asn}{first nb k hh count:Nat}{l:List Tup}{fr:Int}(h:Wd X os m W)(hf:FOk first nb k hh l X.sz)(hmem:fiO first nb k hh l X.sz∈os)(hc:l.length=count)(hk:k<5)(hfr:-9223372036854775808≤fr∧fr+count≤9223372036854775807)
  (hroom:2*X.sz+sumN Asn.gw os≤X.rm) (hn:X.N+m+nb+count+2≤1000000) (hwd:0<holdsI X.sz ((k+1:Nat):Int)):
  Calls Tryz.prog 21 #[.pointer (some ⟨X.p.w,0,none⟩),.agg #[.int .i64 first,.int .i64 nb,.int .i64 k,.int .i64 count],.int .i64 fr] W (OpRes X os (outL (numC k fr) l count) m nb count (k+1)):=by
 obtain⟨W3,hW3⟩:∃W3,W3=((W.alloc (.cells #[.int .i64 first,.int .i64 nb,.int .i64 k,.int .i64 count] 31)).alloc (.cells #[.int .i64 fr] 2)).alloc (.cells #[.int .i64 0,.int .i64 0,.int .i64 0,.int .i64 0] 31):=⟨_,rfl⟩
 have h1:=h.new ((Below.refl W.heap.size W).alloc (Nat.le_refl _) (.cells #[.int .i64 first,.int .i64 nb,.int .i64 k,.int .i64 count] 31)) (heap_alloc_new _ _:Row _ _ 31 [.int .i64 first,.int .i64 nb,.int .i64 k,.int .i64 count]) (Nat.le_refl _)
 have h2:=h1.new ((Below.refl _ _).alloc (Nat.le_refl _) (.cells #[.int .i64 fr] 2)) (heap_alloc_new _ _:Row _ _ 2 [.int .i64 fr]) (Nat.le_refl _)
 have h3:=h2.new ((Below.refl _ _).alloc (Nat.le_refl _) (.cells #[.int .i64 0,.int .i64 0,.int .i64 0,.int .i64 0] 31)) (heap_alloc_new _ _:Row _ _ 31 Z4) (Nat.le_refl _)
 rw[←hW3]at h3
 have hsz:∀(w:World) (o:Obj),(w.alloc o).heap.size=w.heap.size+1:=fun w o=>by simp
 simp only[hsz]at h3
 obtain⟨s0,hs0⟩:∃s0,s0=W.heap.size:=⟨_,rfl⟩
 rw[←hs0]at h3
 have h3:Wd X (os++numH s0 (s0+1) [.int .i64 first,.int .i64 nb,.int .i64 k,.int .i64 count] fr 0++[rowO (s0+1+1) 31 Z4]) m W3:=by
  unfold numH;simpa [List.append_assoc]using h3
 have hrow:Row W3 s0 31 [.int .i64 first,.int .i64 nb,.int .i64 k,.int .i64 count]:=h3.row (i:=os.length) (by unfold numH;simp)
 have hcg:=wd_change (width:=k+1) (num_how (X:=X) (pre:=os) (gF:=s0) (gI:=s0+1) (k:=k) (f0:=.int .i64 first) (f1:=.int .i64 nb) (f3:=.int .i64 count) (fr:=fr) (l:=l) hk (by rw[hc];exact hfr)) h3 hf (by simp[hmem]) hc hwd (fun j t u ht hu=>by
   have hj:j<l.length:=by
    rcases Nat.lt_or_ge j l.length with hl|hl
    ·exact hl
    ·rw[List.getElem?_eq_none hl]at ht;cases ht
   have hft:=hf.fit t (List.mem_of_getElem? ht)
   unfold numC at hu
   injection hu with hu
   subst hu
   refine⟨setT_ok hk hft.1 ?_,setT_fits hk hft.2⟩
   rw[hc]at hj
   exact I64.of (by omega) (by omega)) (by rw[sumN_app,sumN_app,gw_bare (numH s0 (s0+1) [.int .i64 first,.int .i64 nb,.int .i64 k,.int .i64 count] fr 0) (fun q hq=>by simp[numH]at hq;rcases hq with rfl|rfl<;>exact⟨rfl,rfl⟩),gw_bare [rowO (s0+1+1) 31 Z4] (fun q hq=>by simp at hq;subst hq;exact⟨rfl,rfl⟩)];omega) hn
 have HCG:=Lib.hid hcg
 have HST:Hid (∀e w',ChgRes X os [rowO (s0+1+1) 31 Z4] (numH s0 (s0+1) [.int .i64 first,.int .i64 nb,.int .i64 k,.int .i64 count] fr) (outL (numC k fr) l count) m nb count (k+1) e w'→ _):=fun e w' q=>op_states (fun i q hq=>by simp[numH]at hq;rcases hq with rfl|rfl<;>exact⟨rfl,rfl⟩) q
 obtain⟨k1,hk1⟩:∃k1,k1=k+1:=⟨_,rfl⟩
 have hk2:(k:Int)+1=(k1:Int):=by omega
 have hk5:¬(k:Int)=5:=by omega
 have hkb:k1≤5:=by omega
 rw[←hk1]at HCG HST⊢
 generalize ChgRes X os [rowO (s0+1+1) 31 Z4] (numH s0 (s0+1) [.int .i64 first,.int .i64 nb,.int .i64 k,.int .i64 count] fr) (outL (numC k fr) l count) m nb count k1=CRES at*
 generalize OpRes X os (outL (numC k fr) l count) m nb count k1=POST at*
 have HW3:=Lib.hid hW3
 have a0:W3.cell? ⟨s0,0,none⟩=some (.int .i64 first):=hrow.cell 0
 have a1:W3.cell? ⟨s0,1,none⟩=some (.int .i64 nb):=hrow.cell 1
 have a2:W3.cell? ⟨s0,2,none⟩=some (.int .i64 k):=hrow.cell 2
 have a3:W3.cell? ⟨s0,3,none⟩=some (.int .i64 count):=hrow.cell 3
 replace hs0:=Lib.hid hs0
 clear h1 h2 h3 h hW3 hsz hrow hcg hf hmem hc hk hfr hroom hn hwd hk1
 go_enter Tryz.func21,Tryz.ntmps21
 go_upto_region 1 with(fail)
 rw[←HW3.out,←hs0.out]
 clear HW3
 go_wp2_with fail
 refine HCG.out.mono ?_
 rintro e w6 h6
 obtain⟨C,F,N,K,L,er,rfl,hC,hCr,hCs,hCe⟩:=HST.out e w6 h6
 have HR6:=Lib.hid (hCr _ _ hC)
 have H9:=Lib.hid (hCs Z4 w6 (.int .i64 F) (.int .i64 N) (.int .i64 K) (.int .i64 L) rfl hC)
 have HR9:=Lib.hid (hCr _ _ H9.out)
 have HE:=Lib.hid (hCe _ _ H9.out)
 clear h6 hC hCr hCs hCe a0 a1 a2 a3
 have z0:w6.cell? ⟨s0+1+1,0,none⟩=some (.int .i64 0):=HR6.out.cell 0
 have z1:w6.cell? ⟨s0+1+1,1,none⟩=some (.int .i64 0):=HR6.out.cell 1
 have z2:w6.cell? ⟨s0+1+1,2,none⟩=some (.int .i64 0):=HR6.out.cell 2
 have z3:w6.cell? ⟨s0+1+1,3,none⟩=some (.int .i64 0):=HR6.out.cell 3
 have f0:=HR6.out.free 0
 have f1:=HR6.out.free 1
 have f2:=HR6.out.free 2
 have f3:=HR6.out.free 3
 go_wp2
 have r0:=HR9.out.cell 0
 have r1:=HR9.out.cell 1
 have r2:=HR9.out.cell 2
 have r3:=HR9.out.cell 3
 simp only[List.getElem?_cons_zero,List.getElem?_cons_succ]at r0 r1 r2 r3
 refine bodyPost_ret (v:=.tuple #[.agg #[.int .i64 F,.int .i64 N,.int .i64 K,.int .i64 L],.int .i64 er]) (by simp[results,Tryz.results21,go_sem,r0,r1,r2,r3]) rfl ?_
 exact HE.out
end
section
variable {X : Cx} {os : List Asn} {m : Nat} {W : World}
theorem rm_law(hS:X.S0=newSp 0 5000)(hl:os.length≤11)(hos:∀a∈os,a.ex.2≤200){n:Nat}(hn:n≤200):∃z,Rm X os z n:=
 rm_many (b:=5000) hS (q:=200) (c:=os.length) (os.map Asn.ex) (fun e he=>by
  obtain⟨a,ha,rfl⟩:=List.mem_map.1 he
  exact hos a ha) (by simp) (fun a ha=>.inr (List.mem_map_of_mem ha)) (by
  have:os.length*(n+200)≤11*400:=Nat.mul_le_mul hl (by omega)
  omega)
theorem op_good{Out:List Tup}{nb bd k:Nat}{e:Ending}{w':World}(h:OpRes X os Out m nb bd k e w')(hcm:X.cm)(hz:∃z,Rm X os z (blocksN (holdsI X.sz k) bd)):
  ∃F N:Nat,e=.returned (.tuple #[.agg #[.int .i64 F,.int .i64 N,.int .i64 k,.int .i64 (Out.length:Nat)],.int .i64 0])∧FOk F N k (holdsI X.sz k) Out X.sz∧Wd X (os++[fiO F N k (holdsI X.sz k) Out X.sz]) (m+N+nb) w':=by
 rcases h with h|⟨er,_,_,⟨_,hno⟩|⟨_,hno⟩,_⟩
 ·exact h
 ·exact absurd hcm hno
 ·obtain⟨z,hz⟩:=hz
  exact absurd hz (hno z)
end
theorem number_wide(p:Value)(f0 f1 f3 fr:Int)(w:World):Calls Tryz.prog 21 #[p,.agg #[.int .i64 f0,.int .i64 f1,.int .i64 5,.int .i64 f3],.int .i64 fr] w fun e w'=>e=.returned (.tuple #[.agg #[.int .i64 0,.int .i64 0,.int .i64 0,.int .i64 0],.int .i64 1])∧Below w.heap.size w w':=by
 have HB:Hid (∀o1 o2 o3,Below w.heap.size w (((w.alloc o1).alloc o2).alloc o3)):=fun o1 o2 o3=>by
  have q1:=(Below.refl w.heap.size w).alloc (Nat.le_refl _) o1
  have q2:=q1.alloc q1.size o2
  exact q2.alloc q2.size _
 go_enter Tryz.func21,Tryz.ntmps21
 go_wp2
 refine bodyPost_ret (v:=.tuple #[.agg #[.int .i64 0,.int .i64 0,.int .i64 0,.int .i64 0],.int .i64 1]) (by simp[results,Tryz.results21,go_sem]) rfl ?_
 exact⟨rfl,HB.out _ _ _⟩
def l57:List Tup:=[⟨5,0,0,0,0⟩,⟨7,0,0,0,0⟩]
theorem readsT_57{W:World}{b:Nat}(h:Row W b 56 (flatV l57)):ReadsT W W.heap.size (some ⟨b,0,none⟩) 2 l57:=by
 have ho:W.ownsRow 0 56 5 (.slice (some ⟨b,0,none⟩) 2 2) 2 (flatV l57):=⟨rfl,.inr ⟨b,2,(flatV l57).toArray,rfl,Nat.zero_le _,h,Nat.le_refl _,by decide,rfl,rfl⟩⟩
 obtain⟨A,c,he,hr,_⟩:=ownT_reads ho (fun u hu=>small_ok (by
  simp[l57]at hu
  rcases hu with rfl|rfl<;>simp[Tup.cols]))
 injection he with e1 e2 e3
 subst e1
 exact hr
theorem awake13_any(w:World):Calls Tryz.prog 8 #[] w fun e w'=>e=.returned (.bool true)∧Below w.heap.size w w':=by
 have HW:=Lib.hid (work13_any w)
 go_enter Tryz.func8,Tryz.ntmps8
 go_wp2_with fail
 refine HW.out.mono ?_
 rintro e w1 ⟨p,G,rfl,hs,hG,hb⟩
 have h1:Wd (cxL w p 60 12 5000 True 0) [] 0 w1:=cx_start hs hG hb (by omega) (by omega)
 have h2:=h1.new ((Below.refl w1.heap.size w1).alloc (Nat.le_refl _) (.cells #[.int .i64 5,.int .i64 0,.int .i64 0,.int .i64 0,.int .i64 0,.int .i64 7,.int .i64 0,.int .i64 0,.int .i64 0,.int .i64 0] 56)) (heap_alloc_new _ _:Row _ _ 56 (flatV l57)) (Nat.le_refl _)
 have h2:Wd (cxL w p 60 12 5000 True 0) [rowO w1.heap.size 56 (flatV l57)] 0 (w1.alloc (.cells #[.int .i64 5,.int .i64 0,.int .i64 0,.int .i64 0,.int .i64 0,.int .i64 7,.int .i64 0,.int .i64 0,.int .i64 0,.int .i64 0] 56)):=h2
 have HL:Hid (Calls Tryz.prog 26 #[.pointer (some ⟨p.w,0,none⟩),.int .i64 1,.slice (some ⟨w1.heap.size,0,none⟩) 2 2] (w1.alloc (.cells #[.int .i64 5,.int .i64 0,.int .i64 0,.int .i64 0,.int .i64 0,.int .i64 7,.int .i64 0,.int .i64 0,.int .i64 0,.int .i64 0] 56)) fun e w'=>
   ∃F N:Nat,e=.returned (.tuple #[.agg #[.int .i64 F,.int .i64 N,.int .i64 1,.int .i64 2],.int .i64 0])∧FOk F N 1 (holdsI 12 ((1:Nat):Int)) l57 12∧Wd (cxL w p 60 12 5000 True 0) [rowO w1.heap.size 56 (flatV l57),fiO F N 1 (holdsI 12 ((1:Nat):Int)) l57 12] (0+N) w'):=
  wd_lay (k:=1) (n:=2) (c:=2) h2 trivial (by omega) (fun z m' W' q=>readsT_57 (q.row (i:=0) (by simp))) (by decide) (by decide) (by show 12+0≤60;omega) (by show 0+0+2+1≤1000000;omega) (rm_law rfl (by simp) (fun a ha=>by simp at ha;subst ha;exact Nat.zero_le _) (Nat.le_trans (blocks_le _ _) (by decide)))
 clear hs hG hb HW h1 h2
 go_wp2_with fail
 refine HL.out.mono ?_
 rintro e w2 ⟨F,N,rfl,hfo,hw2⟩
 have hN:N≤2:=by rw[hfo.bn];exact blocks_le _ _
 have HNU:Hid (∀W,Below w2.heap.size w2 W→Calls Tryz.prog 21 #[.pointer (some ⟨p.w,0,none⟩),.agg #[.int .i64 F,.int .i64 N,.int .i64 1,.int .i64 2],.int .i64 3] W fun e w'=>
   ∃F' N':Nat,e=.returned (.tuple #[.agg #[.int .i64 F',.int .i64 N',.int .i64 2,.int .i64 2],.int .i64 0])∧Below w.heap.size w w'):=fun W hb=>by
  refine(wd_number (X:=cxL w p 60 12 5000 True 0) (fr:=3) (hw2.below hb) hfo (List.mem_cons_of_mem _ List.mem_cons_self) (count:=2) rfl (by omega) (by omega) (by show 2*12+0≤60;omega) (by show 0+(0+N)+N+2+2≤1000000;omega) (hol_pos (by omega) (by show 8≤12∧12≤256;omega)).1).mono ?_
  rintro e w' h9
  obtain⟨F',N',he,_,hw⟩:=op_good h9 trivial (rm_law rfl (by simp) (fun a ha=>by
   simp at ha
   rcases ha with rfl|rfl
   ·exact Nat.zero_le _
   ·exact(show N≤200 by omega)) (Nat.le_trans (blocks_le _ _) (by omega)))
  exact⟨F',N',he,hw.bel⟩
 have HB2:=Lib.hid hw2.size
 clear HL hfo hw2 hN
 go_wp2_with fail
 refine(HNU.out _ ((Below.refl _ _).alloc (Nat.le_refl _) _)).mono ?_
 rintro e w4 ⟨F',N',rfl,hb4⟩
 have HB4:=Lib.hid (hb4.alloc hb4.size (.cells #[.int .i64 F',.int .i64 N',.int .i64 2,.int .i64 2] 31))
 clear hb4 HNU
 go_wp2
 go_ret
 exact⟨rfl,HB4.out⟩
theorem hascol_any(f0 f1 f2 f3 c:Int)(w:World):Calls Tryz.prog 44 #[.agg #[.int .i64 f0,.int .i64 f1,.int .i64 f2,.int .i64 f3],.int .i64 c] w fun e w'=>e=.returned (.bool (decide (0≤c∧c<f2)))∧Below w.heap.size w w':=by
 by_cases h0:0≤c
 ·have g0:decide (c≥0)=true:=by simpa using h0
  have HE:Hid (decide (0≤c∧c<f2)=decide (c<f2)):=by unfold Hid;simp[h0]
  clear h0
  go_enter Tryz.func44,Tryz.ntmps44
  go_wp2
  go_ret
  rw[HE.out]
  exact⟨rfl,(Below.refl _ _).alloc (Nat.le_refl _) _⟩
 ·have g0:decide (c≥0)=false:=by simp;omega
  have HE:Hid (decide (0≤c∧c<f2)=false):=by unfold Hid;simp;omega
  clear h0
  go_enter Tryz.func44,Tryz.ntmps44
  go_wp2
  go_ret
  rw[HE.out]
  exact⟨rfl,(Below.refl _ _).alloc (Nat.le_refl _) _⟩
theorem keep_bad(p:Value)(f0 f1 f2 f3 c lo hi:Int)(w:World)(hno:¬(0≤c∧c<f2)):Calls Tryz.prog 20 #[p,.agg #[.int .i64 f0,.int .i64 f1,.int .i64 f2,.int .i64 f3],.int .i64 c,.int .i64 lo,.int .i64 hi] w fun e w'=>e=.returned (.tuple #[.agg #[.int .i64 0,.int .i64 0,.int .i64 0,.int .i64 0],.int .i64 1])∧Below w.heap.size w w':=by
 obtain⟨W3,hW3⟩:∃W3,W3=((((w.alloc (.cells #[.int .i64 f0,.int .i64 f1,.int .i64 f2,.int .i64 f3] 31)).alloc (.cells #[.int .i64 c] 3)).alloc (.cells #[.int .i64 lo] 2)).alloc (.cells #[.int .i64 hi] 2)).alloc (.cells #[.int .i64 0,.int .i64 0,.int .i64 0,.int .i64 0] 31):=⟨_,rfl⟩
 have hsz:∀(w:World) (o:Obj),(w.alloc o).heap.size=w.heap.size+1:=fun w o=>by simp
 have hb:Below w.heap.size w W3:=by
  have q0:=Below.refl w.heap.size w
  rw[hW3]
  have q1:=q0.alloc q0.size (.cells #[.int .i64 f0,.int .i64 f1,.int .i64 f2,.int .i64 f3] 31)
  have q2:=q1.alloc q1.size (.cells #[.int .i64 c] 3)
  have q3:=q2.alloc q2.size (.cells #[.int .i64 lo] 2)
  have q4:=q3.alloc q3.size (.cells #[.int .i64 hi] 2)
  exact q4.alloc q4.size _
 have r5:Row W3 (w.heap.size+4) 31 [.int .i64 0,.int .i64 0,.int .i64 0,.int .i64 0]:=by
  have q:=heap_alloc_new ((((w.alloc (.cells #[.int .i64 f0,.int .i64 f1,.int .i64 f2,.int .i64 f3] 31)).alloc (.cells #[.int .i64 c] 3)).alloc (.cells #[.int .i64 lo] 2)).alloc (.cells #[.int .i64 hi] 2)) (.cells #[.int .i64 0,.int .i64 0,.int .i64 0,.int .i64 0] 31)
  rw[←hW3]at q
  simp only[hsz,Nat.add_assoc,Nat.reduceAdd]at q
  exact q
 have r0:Row W3 w.heap.size 31 [.int .i64 f0,.int .i64 f1,.int .i64 f2,.int .i64 f3]:=by
  have q:Row (w.alloc (.cells #[.int .i64 f0,.int .i64 f1,.int .i64 f2,.int .i64 f3] 31)) w.heap.size 31 [.int .i64 f0,.int .i64 f1,.int .i64 f2,.int .i64 f3]:=heap_alloc_new _ _
  rw[hW3]
  have hlt:=q.lt
  have p0:=Below.refl (w.heap.size+1) (w.alloc (.cells #[.int .i64 f0,.int .i64 f1,.int .i64 f2,.int .i64 f3] 31))
  have p1:=p0.alloc (by rw[hsz];exact Nat.le_refl _) (.cells #[.int .i64 c] 3)
  have p2:=p1.alloc (by simp only[hsz];omega) (.cells #[.int .i64 lo] 2)
  have p3:=p2.alloc (by simp only[hsz];omega) (.cells #[.int .i64 hi] 2)
  have p4:=p3.alloc (by simp only[hsz];omega) (.cells #[.int .i64 0,.int .i64 0,.int .i64 0,.int .i64 0] 31)
  exact q.below p4 (by omega)
 have r1:W3.cell? ⟨w.heap.size+1,0,none⟩=some (.int .i64 c):=by
  have q:Row ((w.alloc (.cells #[.int .i64 f0,.int .i64 f1,.int .i64 f2,.int .i64 f3] 31)).alloc (.cells #[.int .i64 c] 3)) (w.alloc (.cells #[.int .i64 f0,.int .i64 f1,.int .i64 f2,.int .i64 f3] 31)).heap.size 3 [.int .i64 c]:=heap_alloc_new _ _
  rw[hsz]at q
  rw[hW3]
  have p0:=Below.refl (w.heap.size+2) ((w.alloc (.cells #[.int .i64 f0,.int .i64 f1,.int .i64 f2,.int .i64 f3] 31)).alloc (.cells #[.int .i64 c] 3))
  have p2:=p0.alloc (by simp only[hsz];omega) (.cells #[.int .i64 lo] 2)
  have p3:=p2.alloc (by simp only[hsz];omega) (.cells #[.int .i64 hi] 2)
  have p4:=p3.alloc (by simp only[hsz];omega) (.cells #[.int .i64 0,.int .i64 0,.int .i64 0,.int .i64 0] 31)
  exact(q.below p4 (by omega)).cell 0
 have HHC:Hid (∀w,Calls Tryz.prog 44 #[.agg #[.int .i64 f0,.int .i64 f1,.int .i64 f2,.int .i64 f3],.int .i64 c] w fun e w'=>e=.returned (.bool false)∧Below w.heap.size w w'):=fun w=>by
  have:=hascol_any f0 f1 f2 f3 c w
  rwa [decide_eq_false hno]at this
 have HR5:=Lib.hid r5
 have HBB:=Lib.hid hb
 have HW3:=Lib.hid hW3
 obtain⟨s0,hs0⟩:∃s0,s0=w.heap.size:=⟨_,rfl⟩
 have a0:W3.cell? ⟨s0,0,none⟩=some (.int .i64 f0):=by rw[hs0];exact r0.cell 0
 have a1:W3.cell? ⟨s0,1,none⟩=some (.int .i64 f1):=by rw[hs0];exact r0.cell 1
 have a2:W3.cell? ⟨s0,2,none⟩=some (.int .i64 f2):=by rw[hs0];exact r0.cell 2
 have a3:W3.cell? ⟨s0,3,none⟩=some (.int .i64 f3):=by rw[hs0];exact r0.cell 3
 have a4:W3.cell? ⟨s0+1,0,none⟩=some (.int .i64 c):=by rw[hs0];exact r1
 rw[←hs0]at HR5
 replace hs0:=Lib.hid hs0
 clear hW3 hsz hb r5 r0 r1 hno
 go_enter Tryz.func20,Tryz.ntmps20
 go_upto_region 1 with(fail)
 rw[←HW3.out,←hs0.out]
 clear HW3
 go_wp2_with fail
 refine(HHC.out _).mono ?_
 rintro e w4 ⟨rfl,hb4⟩
 have HR4:=Lib.hid (HR5.out.below hb4 HR5.out.lt)
 have HB4:=Lib.hid (HBB.out.trans (hb4.mono HBB.out.size))
 clear hb4 a0 a1 a2 a3 a4
 have z0:w4.cell? ⟨s0+4,0,none⟩=some (.int .i64 0):=HR4.out.cell 0
 have z1:w4.cell? ⟨s0+4,1,none⟩=some (.int .i64 0):=HR4.out.cell 1
 have z2:w4.cell? ⟨s0+4,2,none⟩=some (.int .i64 0):=HR4.out.cell 2
 have z3:w4.cell? ⟨s0+4,3,none⟩=some (.int .i64 0):=HR4.out.cell 3
 have f0:=HR4.out.free 0
 have f1:=HR4.out.free 1
 have f2:=HR4.out.free 2
 have f3:=HR4.out.free 3
 have hr9:=(((HR4.out.set 0 (.int .i64 0)).set 1 (.int .i64 0)).set 2 (.int .i64 0)).set 3 (.int .i64 0)
 have hle:w.heap.size≤s0+4:=by have:=hs0.out;omega
 have HB9:=Lib.hid ((((HB4.out.setCell (p:=⟨s0+4,0,none⟩) hle (.int .i64 0)).setCell (p:=⟨s0+4,1,none⟩) hle (.int .i64 0)).setCell (p:=⟨s0+4,2,none⟩) hle (.int .i64 0)).setCell (p:=⟨s0+4,3,none⟩) hle (.int .i64 0))
 have HR9:=Lib.hid hr9
 clear hr9 hle
 go_wp2
 have r0:=HR9.out.cell 0
 have r1:=HR9.out.cell 1
 have r2:=HR9.out.cell 2
 have r3:=HR9.out.cell 3
 simp only[List.set_cons_zero,List.set_cons_succ,List.getElem?_cons_zero,List.getElem?_cons_succ]at r0 r1 r2 r3
 refine bodyPost_ret (v:=.tuple #[.agg #[.int .i64 0,.int .i64 0,.int .i64 0,.int .i64 0],.int .i64 1]) (by simp[results,Tryz.results20,go_sem,r0,r1,r2,r3]) rfl ?_
 exact⟨rfl,HB9.out⟩
def clm(k:Int):Int:=if k<0 then -k-1 else k-1
theorem clm_kol{k:Int}(h:k≠0):clm k=((kol k:Nat):Int):=by
 unfold clm
 split
 ·rw[kol_min (by omega)]
 ·rw[kol_pos (by omega)]
theorem kol_lt{k:Int}(_h0:k≠0)(h:-5≤k∧k≤5):kol k<5:=by unfold kol;omega
def FmAt(o:Tup)(i:Nat):Prop:=(-5≤colT o i∧colT o i≤5)∧∀k,k<i→colT o i≠0→colT o k≠0∧kol (colT o k)≠kol (colT o i)
theorem col_any(k:Int)(hk:-5≤k∧k≤5)(w:World):Calls Tryz.prog 57 #[.int .i64 k] w fun e w'=>e=.returned (.int .i64 (clm k))∧w'=w:=by
 by_cases h:k<0
 ·have g:decide (k<0)=true:=by simpa using h
  have e:clm k=-k-1:=by unfold clm;rw[if_pos h]
  rw[e]
  go_enter Tryz.func57,Tryz.ntmps57
  go_wp2
  go_ret
  exact⟨rfl,rfl⟩
 ·have g:decide (k<0)=false:=by simpa using h
  have e:clm k=k-1:=by unfold clm;rw[if_neg h]
  rw[e]
  go_enter Tryz.func57,Tryz.ntmps57
  go_wp2
  go_ret
  exact⟨rfl,rfl⟩
theorem boxes2(w:World)(a b:List Value)(A B:TypeId):∃W1,W1=(w.alloc (.cells a.toArray A)).alloc (.cells b.toArray B)∧Below w.heap.size w W1∧W1.heap.size=w.heap.size+2∧Row W1 w.heap.size A a∧Row W1 (w.heap.size+1) B b:=by
 have b1:Below w.heap.size w (w.alloc (.cells a.toArray A)):=(Below.refl _ _).alloc (Nat.le_refl _) _
 have r1:Row (w.alloc (.cells a.toArray A)) w.heap.size A a:=heap_alloc_new _ _
 have s1:(w.alloc (.cells a.toArray A)).heap.size=w.heap.size+1:=by simp
 refine⟨_,rfl,b1.alloc (by omega) _,by simp,r1.alloc _,?_⟩
 rw[←s1];exact heap_alloc_new _ _
theorem index_any(T:TypeId)(hT:T=26)(o:Tup){i:Nat}(hi:i<5)(w:World):(Instr.index T (.agg #[.int .i64 o.a,.int .i64 o.b,.int .i64 o.c,.int .i64 o.d,.int .i64 o.e]) (.int .i64 (i:Int))).run Tryz.prog w=.ok (.int .i64 (colT o i)) w:=by
 subst hT
 match i,hi with
 |0,_=>exact(by kernel_rfl:(Instr.index 26 (.agg #[.int .i64 o.a,.int .i64 o.b,.int .i64 o.c,.int .i64 o.d,.int .i64 o.e]) (.int .i64 0)).run Tryz.prog w=.ok (.int .i64 o.a) w)
 |1,_=>exact(by kernel_rfl:(Instr.index 26 (.agg #[.int .i64 o.a,.int .i64 o.b,.int .i64 o.c,.int .i64 o.d,.int .i64 o.e]) (.int .i64 1)).run Tryz.prog w=.ok (.int .i64 o.b) w)
 |2,_=>exact(by kernel_rfl:(Instr.index 26 (.agg #[.int .i64 o.a,.int .i64 o.b,.int .i64 o.c,.int .i64 o.d,.int .i64 o.e]) (.int .i64 2)).run Tryz.prog w=.ok (.int .i64 o.c) w)
 |3,_=>exact(by kernel_rfl:(Instr.index 26 (.agg #[.int .i64 o.a,.int .i64 o.b,.int .i64 o.c,.int .i64 o.d,.int .i64 o.e]) (.int .i64 3)).run Tryz.prog w=.ok (.int .i64 o.d) w)
 |4,_=>exact(by kernel_rfl:(Instr.index 26 (.agg #[.int .i64 o.a,.int .i64 o.b,.int .i64 o.c,.int .i64 o.d,.int .i64 o.e]) (.int .i64 4)).run Tryz.prog w=.ok (.int .i64 o.e) w)
def boolV(s:List Bool):List Value:=s.map Value.bool
theorem boolV_at{s:List Bool}{c:Nat}(h:c<s.length):(boolV s)[c]?=some (.bool (s.getD c false)):=by
 unfold boolV
 rw[List.getElem?_map,List.getElem?_eq_getElem h,List.getD_eq_getElem?_getD,List.getElem?_eq_getElem h];rfl
theorem boolV_set(s:List Bool)(c:Nat)(b:Bool):(boolV s).set c (.bool b)=boolV (s.set c b):=by
 unfold boolV;rw[List.map_set]
theorem formed_any(o:Tup)(w:World):Calls Tryz.prog 30 #[.agg #[.int .i64 o.a,.int .i64 o.b,.int .i64 o.c,.int .i64 o.d,.int .i64 o.e]] w fun e w'=>e=.returned (.bool (decide (Fm o)))∧Below w.heap.size w w':=by
 obtain⟨W1,hW1,b1,s1,r1,r2⟩:=boxes2 w [.int .i64 o.a,.int .i64 o.b,.int .i64 o.c,.int .i64 o.d,.int .i64 o.e] [.bool false,.bool false,.bool false,.bool false,.bool false] 26 116
 have HW1:=Lib.hid hW1
 have HB:=Lib.hid b1
 have HSZ:=Lib.hid s1
 have HR2:Hid (Row W1 (w.heap.size+1) 116 (boolV [false,false,false,false,false])):=r2
 have d0:W1.cell? ⟨w.heap.size,0,none⟩=some (.int .i64 o.a):=r1.cell 0
 have d1:W1.cell? ⟨w.heap.size,1,none⟩=some (.int .i64 o.b):=r1.cell 1
 have d2:W1.cell? ⟨w.heap.size,2,none⟩=some (.int .i64 o.c):=r1.cell 2
 have d3:W1.cell? ⟨w.heap.size,3,none⟩=some (.int .i64 o.d):=r1.cell 3
 have d4:W1.cell? ⟨w.heap.size,4,none⟩=some (.int .i64 o.e):=r1.cell 4
 have HNO:Hid (∀i,i<5→¬FmAt o i→decide (Fm o)=false):=fun i hi h=>decide_eq_false fun hf=>h (hf i hi)
 have HYES:Hid ((∀i,i<5→FmAt o i)→decide (Fm o)=true):=fun h=>decide_eq_true h
 have HIX:Hid (∀i:Nat,i<5→∀W:World,(Instr.index 26 (.agg #[.int .i64 o.a,.int .i64 o.b,.int .i64 o.c,.int .i64 o.d,.int .i64 o.e]) (.int .i64 (i:Int))).run Tryz.prog W=.ok (.int .i64 (colT o i)) W):=fun i hi W=>index_any _ rfl o hi W
 generalize decide (Fm o)=res at*
 clear r1 r2 b1 s1 hW1
 go_enter Tryz.func30,Tryz.ntmps30
 go_upto_region 2 with(fail)
 rw[←HW1.out]
 clear HW1
 go_wp2_with fail
 go_loopw [4,8] (fun ev iv wr=>∃(i:Nat) (e:Bool) (s:List Bool),i≤5∧iv=.int .i64 (i:Int)∧ev=.bool e∧Hid (Below w.heap.size w wr)∧Hid (w.heap.size+2≤wr.heap.size)∧Hid (Row wr (w.heap.size+1) 116 (boolV s))∧Hid (s.length=5)∧Hid (∀j,j<i→FmAt o j)∧Hid (e=true↔∃j,j<i∧colT o j=0)∧Hid (∀c,c<5→(s.getD c false=true↔∃j,j<i∧colT o j≠0∧kol (colT o j)=c))) (fun _ iv _=>5-(intOf iv).toNat)
 case atStart=>
  refine⟨0,false,[false,false,false,false,false],by omega,rfl,rfl,HB.out,Nat.le_of_eq HSZ.out.symm,HR2.out,rfl,fun j hj=>by omega,⟨fun h=>(by cases h),fun⟨j,hj,_⟩=>(by omega)⟩,fun c hc=>⟨fun h=>?_,fun⟨j,hj,_⟩=>(by omega)⟩⟩
  match c,hc with
  |0,_=>cases h
  |1,_=>cases h
  |2,_=>cases h
  |3,_=>cases h
  |4,_=>cases h
 case round=>
  obtain⟨i,e,s,hi,rfl,rfl,HW,HZ,HR,HSL,HF,HE,HS⟩:=hrel
  clear HB HSZ HR2
  by_cases hlt:i<5
  ·have g1:decide ((i:Int)<5)=true:=by simp;omega
   have i0:(0:Int)≤(i:Int):=by omega
   have i1:(i:Int)<5:=by omega
   obtain⟨x,hx⟩:∃x,x=colT o i:=⟨_,rfl⟩
   have Hx:=Lib.hid hx
   have hix:∀W:World,(Instr.index 26 (.agg #[.int .i64 o.a,.int .i64 o.b,.int .i64 o.c,.int .i64 o.d,.int .i64 o.e]) (.int .i64 (i:Int))).run Tryz.prog W=.ok (.int .i64 x) W:=fun W=>by rw[hx];exact HIX.out i hlt W
   clear hx
   by_cases hx0:x=0
   ·have gx:(x==0)=true:=by simpa using hx0
    have gx':decide (x=0)=true:=by simpa using hx0
    have HF2:Hid (∀j,j<i+1→FmAt o j):=fun j hj=>by
     by_cases e:j=i
     ·rw[e];unfold FmAt;rw[←Hx.out,hx0];exact⟨by omega,fun k _ h=>absurd rfl h⟩
     ·exact HF.out j (by omega)
    have HE2:Hid (true=true↔∃j,j<i+1∧colT o j=0):=⟨fun _=>⟨i,by omega,by rw[←Hx.out,hx0]⟩,fun _=>rfl⟩
    have HS2:Hid (∀c,c<5→(s.getD c false=true↔∃j,j<i+1∧colT o j≠0∧kol (colT o j)=c)):=fun c hc=>by
     rw[HS.out c hc]
     refine⟨fun⟨j,hj,h⟩=>⟨j,by omega,h⟩,fun⟨j,hj,h⟩=>⟨j,?_,h⟩⟩
     by_cases e:j=i
     ·rw[e,←Hx.out]at h;exact absurd hx0 h.1
     ·omega
    clear hx0 HF HE HS
    go_wp2
    go_roundw
    case rel=>exact⟨i+1,true,s,by omega,by go_num,rfl,HW.out,HZ.out,HR.out,HSL.out,HF2.out,HE2.out,HS2.out⟩
    case measure=>simp[intOf];omega
   ·have gx:(x==0)=false:=by simpa using hx0
    have gx':decide (x=0)=false:=by simpa using hx0
    cases e with
    |true=>
     have hres:res=false:=HNO.out i hlt fun h=>by
      obtain⟨j,hj,h0⟩:=HE.out.1 rfl
      exact(h.2 j hj (by rw[←Hx.out];exact hx0)).1 h0
     subst hres
     clear hx0
     go_wp2
     go_ret
     exact⟨rfl,HW.out⟩
    |false=>
     by_cases h1:x< -5
     ·have hres:res=false:=HNO.out i hlt fun h=>by have:=h.1;rw[←Hx.out]at this;omega
      have g2:decide (x< -5)=true:=by simpa using h1
      subst hres
      clear hx0
      go_wp2
      go_ret
      exact⟨rfl,HW.out⟩
     ·have g2:decide (x< -5)=false:=by simpa using h1
      by_cases h2:x>5
      ·have hres:res=false:=HNO.out i hlt fun h=>by have:=h.1;rw[←Hx.out]at this;omega
       have g3:decide (x>5)=true:=by simpa using h2
       subst hres
       clear hx0
       go_wp2
       go_ret
       exact⟨rfl,HW.out⟩
      ·have g3:decide (x>5)=false:=by simpa using h2
       have hrx:-5≤x∧x≤5:=⟨by omega,by omega⟩
       have Hrx:=Lib.hid hrx
       have hk5:=kol_lt hx0 hrx
       have HQ:=Lib.hid (col_any x hrx)
       rw[clm_kol hx0]at HQ
       obtain⟨b,hb⟩:∃b,b=s.getD (kol x) false:=⟨_,rfl⟩
       have cb:wr.cell? ⟨w.heap.size+1,kol x,none⟩=some (.bool b):=by rw[HR.out.cell,boolV_at (by rw[HSL.out];exact hk5),hb]
       have fz:=HR.out.free (kol x)
       have HSX:=HS.out (kol x) hk5
       rw[←hb]at HSX
       have k0:(0:Int)≤((kol x:Nat):Int):=by omega
       have k1:((kol x:Nat):Int)<5:=by omega
       cases b with
       |true=>
        have hres:res=false:=HNO.out i hlt fun h=>by
         obtain⟨j,hj,h0,hk⟩:=HSX.1 rfl
         exact(h.2 j hj (by rw[←Hx.out];exact hx0)).2 (by rw[hk,←Hx.out])
        subst hres
        clear hx0 h1 h2 HSX hrx hb
        generalize kol x=c at*
        go_wp2_with fail
        refine(HQ.out _).mono ?_;rintro e w2 ⟨rfl,rfl⟩
        go_wp2
        go_ret
        exact⟨rfl,HW.out⟩
       |false=>
        have hne:∀j,j<i→colT o j≠0:=fun j hj h=>by have:=HE.out.2 ⟨j,hj,h⟩;cases this
        have HF2:Hid (∀j,j<i+1→FmAt o j):=fun j hj=>by
         by_cases e:j=i
         ·rw[e];unfold FmAt;rw[←Hx.out]
          exact⟨hrx,fun k hk _=>⟨hne k hk,fun h=>by have:=HSX.2 ⟨k,hk,hne k hk,h⟩;cases this⟩⟩
         ·exact HF.out j (by omega)
        have HE2:Hid (false=true↔∃j,j<i+1∧colT o j=0):=⟨fun h=>(by cases h),fun⟨j,hj,h⟩=>by
         by_cases e:j=i
         ·rw[e,←Hx.out]at h;exact absurd h hx0
         ·exact absurd h (hne j (by omega))⟩
        have HS2:Hid (∀c,c<5→((s.set (kol x) true).getD c false=true↔∃j,j<i+1∧colT o j≠0∧kol (colT o j)=c)):=fun c hc=>by
         rw[List.getD_eq_getElem?_getD,List.getElem?_set]
         by_cases ec:kol x=c
         ·rw[if_pos ec,if_pos (by have:=HSL.out;omega)]
          exact⟨fun _=>⟨i,by omega,by rw[←Hx.out];exact hx0,by rw[←Hx.out];exact ec⟩,fun _=>rfl⟩
         ·rw[if_neg ec,←List.getD_eq_getElem?_getD,HS.out c hc]
          refine⟨fun⟨j,hj,h⟩=>⟨j,by omega,h⟩,fun⟨j,hj,h⟩=>⟨j,?_,h⟩⟩
          by_cases e:j=i
          ·rw[e,←Hx.out]at h;exact absurd h.2 ec
          ·omega
        have HL2:Hid ((s.set (kol x) true).length=5):=by unfold Hid;rw[List.length_set];exact HSL.out
        have HR3:Hid (Row (wr.setCell ⟨w.heap.size+1,kol x,none⟩ (.bool true)) (w.heap.size+1) 116 (boolV (s.set (kol x) true))):=by
         have:=HR.out.set (kol x) (.bool true)
         rw[boolV_set]at this
         exact this
        have HW3:Hid (Below w.heap.size w (wr.setCell ⟨w.heap.size+1,kol x,none⟩ (.bool true))):=HW.out.setCell (p:=⟨w.heap.size+1,kol x,none⟩) (by simp) _
        have HZ3:Hid (w.heap.size+2≤(wr.setCell ⟨w.heap.size+1,kol x,none⟩ (.bool true)).heap.size):=by unfold Hid;simp;exact HZ.out
        clear hx0 h1 h2 HSX hrx hb hne HF HE HS HSL HR HW HZ
        generalize s.set (kol x) true=s2 at*
        generalize kol x=c at*
        go_wp2_with fail
        refine(HQ.out _).mono ?_;rintro e w2 ⟨rfl,rfl⟩
        go_wp2_with fail
        refine(HQ.out _).mono ?_;rintro e w2 ⟨rfl,rfl⟩
        go_wp2
        go_roundw
        case rel=>exact⟨i+1,false,s2,by omega,by go_num,rfl,HW3.out,HZ3.out,HR3.out,HL2.out,HF2.out,HE2.out,HS2.out⟩
        case measure=>simp[intOf];omega
  ·have g1:decide ((i:Int)<5)=false:=by simp;omega
   have hres:res=true:=HYES.out fun j hj=>HF.out j (by omega)
   subst hres
   go_wp2
   go_ret
   exact⟨rfl,HW.out⟩
theorem cut_stop(o t:Tup):∀i,i≤5→(∀j,j<i→colT o j≠0)→(i=5∨colT o i=0)→cutO o.cols t=(o.cols.take i).map fun k=>colT t (kol k):=by
  obtain⟨a,b,c,d,e⟩:=o
  intro i hi h1 h2
  have e0:colT ⟨a,b,c,d,e⟩ 0=a:=rfl
  have e1:colT ⟨a,b,c,d,e⟩ 1=b:=rfl
  have e2:colT ⟨a,b,c,d,e⟩ 2=c:=rfl
  have e3:colT ⟨a,b,c,d,e⟩ 3=d:=rfl
  have e4:colT ⟨a,b,c,d,e⟩ 4=e:=rfl
  unfold cutO Tup.cols
  match i,hi with
  | 0,_=>
    have:a=0:=by
     rcases h2 with h|h
     · omega
     · rw[e0]at h;exact h
    simp[this]
  | 1,_=>
    have f0:a≠0:=by have:=h1 0 (by omega);rwa [e0]at this
    have:b=0:=by
     rcases h2 with h|h
     · omega
     · rw[e1]at h;exact h
    simp[f0,this]
  | 2,_=>
    have f0:a≠0:=by have:=h1 0 (by omega);rwa [e0]at this
    have f1:b≠0:=by have:=h1 1 (by omega);rwa [e1]at this
    have:c=0:=by
     rcases h2 with h|h
     · omega
     · rw[e2]at h;exact h
    simp[f0,f1,this]
  | 3,_=>
    have f0:a≠0:=by have:=h1 0 (by omega);rwa [e0]at this
    have f1:b≠0:=by have:=h1 1 (by omega);rwa [e1]at this
    have f2:c≠0:=by have:=h1 2 (by omega);rwa [e2]at this
    have:d=0:=by
     rcases h2 with h|h
     · omega
     · rw[e3]at h;exact h
    simp[f0,f1,f2,this]
  | 4,_=>
    have f0:a≠0:=by have:=h1 0 (by omega);rwa [e0]at this
    have f1:b≠0:=by have:=h1 1 (by omega);rwa [e1]at this
    have f2:c≠0:=by have:=h1 2 (by omega);rwa [e2]at this
    have f3:d≠0:=by have:=h1 3 (by omega);rwa [e3]at this
    have:e=0:=by
     rcases h2 with h|h
     · omega
     · rw[e4]at h;exact h
    simp[f0,f1,f2,f3,this]
  | 5,_=>
    have f0:a≠0:=by have:=h1 0 (by omega);rwa [e0]at this
    have f1:b≠0:=by have:=h1 1 (by omega);rwa [e1]at this
    have f2:c≠0:=by have:=h1 2 (by omega);rwa [e2]at this
    have f3:d≠0:=by have:=h1 3 (by omega);rwa [e3]at this
    have f4:e≠0:=by have:=h1 4 (by omega);rwa [e4]at this
    simp[f0,f1,f2,f3,f4]
def nameN(o:Tup):Nat:=(o.cols.takeWhile fun k=>k≠0).length
theorem nameN_at{o:Tup}{n:Nat}(hn:n≤5)(h1:∀j,j<n→colT o j≠0)(h2:n=5∨colT o n=0):nameN o=n:=by
 have h:=cut_stop o o n hn h1 h2
 have h3:=cutO_len o.cols o
 rw[h]at h3
 unfold nameN
 rw[←h3]
 simp[Tup.cols];omega
theorem named_any(o:Tup)(w:World):Calls Tryz.prog 29 #[.agg #[.int .i64 o.a,.int .i64 o.b,.int .i64 o.c,.int .i64 o.d,.int .i64 o.e]] w fun e w'=>e=.returned (.int .i64 (nameN o:Nat))∧Below w.heap.size w w':=by
 have hr:Row (w.alloc (.cells #[.int .i64 o.a,.int .i64 o.b,.int .i64 o.c,.int .i64 o.d,.int .i64 o.e] 26)) w.heap.size 26 (tupC o):=heap_alloc_new _ _
 have HCE:Hid (∀n,n<5→(w.alloc (.cells #[.int .i64 o.a,.int .i64 o.b,.int .i64 o.c,.int .i64 o.d,.int .i64 o.e] 26)).cell? ⟨w.heap.size,n,none⟩=some (.int .i64 (colT o n))):=fun n hn=>(hr.cell n).trans (tupC_at o hn)
 have HB:Hid (Below w.heap.size w (w.alloc (.cells #[.int .i64 o.a,.int .i64 o.b,.int .i64 o.c,.int .i64 o.d,.int .i64 o.e] 26))):=(Below.refl _ _).alloc (Nat.le_refl _) _
 clear hr
 go_enter Tryz.func29,Tryz.ntmps29
 go_wp2_with fail
 generalize w.alloc (.cells #[.int .i64 o.a,.int .i64 o.b,.int .i64 o.c,.int .i64 o.d,.int .i64 o.e] 26)=W1 at*
 go_loopw [3] (fun iv wr=>∃n:Nat,n≤5∧iv=.int .i64 (n:Int)∧Hid (∀j,j<n→colT o j≠0)∧wr=W1) (fun iv _=>5-(intOf iv).toNat)
 case atStart=>exact⟨0,by omega,rfl,fun j hj=>absurd hj (by omega),rfl⟩
 case round=>
  obtain⟨n,hn,rfl,HJ,rfl⟩:=hrel
  by_cases h5:n<5
  ·have g0:decide ((n:Int)<5)=true:=by simp;omega
   have hn0:(0:Int)≤(n:Int):=by omega
   have hn1:(n:Int)<5:=by omega
   have q:=HCE.out n h5
   by_cases hz:colT o n=0
   ·have HN:Hid (nameN o=n):=nameN_at hn HJ.out (.inr hz)
    rw[hz]at q
    clear hz
    go_wp2
    go_ret
    rw[HN.out]
    exact⟨rfl,HB.out⟩
   ·have HZ:=Lib.hid hz
    obtain⟨x,hx⟩:∃x,x=colT o n:=⟨_,rfl⟩
    rw[←hx]at q hz
    clear hx
    go_wp2
    go_roundw
    case rel=>exact⟨n+1,by omega,by go_num,fun j hj=>by
     rcases Nat.lt_or_ge j n with hl|hl
     ·exact HJ.out j hl
     ·rw[show j=n by omega];exact HZ.out,by trivial⟩
    case measure=>simp[intOf];omega
  ·obtain rfl:n=5:=by omega
   have HN:Hid (nameN o=5):=nameN_at hn HJ.out (.inl rfl)
   go_wp2
   go_ret
   rw[HN.out]
   exact⟨rfl,HB.out⟩
def inW(k:Nat)(o:Tup):Prop:=∀i,i<5→-(k:Int)≤colT o i∧colT o i≤k
instance inWDec (k : Nat) (o : Tup) : Decidable (inW k o) := by unfold inW; exact inferInstance
def ZR(w0:World)(s:Nat)(w:World):Prop:=Row w s 31 Z4∧w0.heap.size≤s∧Below w0.heap.size w0 w
theorem ZR.below{w0 w w':World}{s:Nat}(h:ZR w0 s w)(hb:Below w.heap.size w w'):ZR w0 s w':=⟨h.1.below hb h.1.lt,h.2.1,h.2.2.trans (hb.mono h.2.2.size)⟩
theorem ZR.zero{w0 w:World}{s:Nat}(h:ZR w0 s w):ZR w0 s ((((w.setCell ⟨s,0,none⟩ (.int .i64 0)).setCell ⟨s,1,none⟩ (.int .i64 0)).setCell ⟨s,2,none⟩ (.int .i64 0)).setCell ⟨s,3,none⟩ (.int .i64 0)):=by
 obtain⟨h1,h2,h3⟩:=h
 exact⟨(((h1.set 0 (.int .i64 0)).set 1 (.int .i64 0)).set 2 (.int .i64 0)).set 3 (.int .i64 0),h2,(((h3.setCell (p:=⟨s,0,none⟩) h2 (.int .i64 0)).setCell (p:=⟨s,1,none⟩) h2 (.int .i64 0)).setCell (p:=⟨s,2,none⟩) h2 (.int .i64 0)).setCell (p:=⟨s,3,none⟩) h2 (.int .i64 0)⟩
theorem ZR.mk{w0 w:World}(h:Below w0.heap.size w0 w):ZR w0 w.heap.size (w.alloc (.cells #[.int .i64 0,.int .i64 0,.int .i64 0,.int .i64 0] 31)):=⟨heap_alloc_new _ _,h.size,h.alloc h.size _⟩
theorem change_nil(f0 f1 f2 f3 wd:Int)(v:Value)(w:World):Calls Tryz.prog 32 #[.pointer none,.agg #[.int .i64 f0,.int .i64 f1,.int .i64 f2,.int .i64 f3],.int .i64 wd,v] w fun e w'=>e=.returned (.tuple #[.agg #[.int .i64 0,.int .i64 0,.int .i64 0,.int .i64 0],.int .i64 1])∧Below w.heap.size w w':=by
 have hb0:=(Below.refl w.heap.size w).alloc (Nat.le_refl _) (.cells #[.int .i64 f0,.int .i64 f1,.int .i64 f2,.int .i64 f3] 31)
 obtain⟨W2,hW2⟩:∃W2,W2=(w.alloc (.cells #[.int .i64 f0,.int .i64 f1,.int .i64 f2,.int .i64 f3] 31)).alloc (.cells #[.int .i64 0,.int .i64 0,.int .i64 0,.int .i64 0] 31):=⟨_,rfl⟩
 have hz:ZR w (w.heap.size+1) W2:=by
  have:=ZR.mk hb0
  rw[←hW2,show (w.alloc (.cells #[.int .i64 f0,.int .i64 f1,.int .i64 f2,.int .i64 f3] 31)).heap.size=w.heap.size+1 by simp]at this
  exact this
 have hr:Row W2 w.heap.size 31 [.int .i64 f0,.int .i64 f1,.int .i64 f2,.int .i64 f3]:=by
  have q:Row (w.alloc (.cells #[.int .i64 f0,.int .i64 f1,.int .i64 f2,.int .i64 f3] 31)) w.heap.size 31 [.int .i64 f0,.int .i64 f1,.int .i64 f2,.int .i64 f3]:=heap_alloc_new _ _
  rw[hW2]
  exact q.below ((Below.refl _ _).alloc (Nat.le_refl _) _) q.lt
 have c0:W2.cell? ⟨w.heap.size,0,none⟩=some (.int .i64 f0):=hr.cell 0
 have c1:W2.cell? ⟨w.heap.size,1,none⟩=some (.int .i64 f1):=hr.cell 1
 have c2:W2.cell? ⟨w.heap.size,2,none⟩=some (.int .i64 f2):=hr.cell 2
 have c3:W2.cell? ⟨w.heap.size,3,none⟩=some (.int .i64 f3):=hr.cell 3
 have HRN:=Lib.hid (fread_nil f0 f1 f2 f3 W2)
 have HZ:=Lib.hid hz
 have HW2:=Lib.hid hW2
 clear hb0 hz hr hW2
 go_enter_defers Tryz.func32,Tryz.ntmps32
 go_upto_region 1 with(fail)
 rw[←HW2.out]
 clear HW2
 go_wp2_with fail
 refine HRN.out.mono ?_
 rintro e w3 ⟨rfl,hb3⟩
 have HZ3:=Lib.hid (HZ.out.below hb3)
 clear hb3 c0 c1 c2 c3 HRN
 have z0:w3.cell? ⟨w.heap.size+1,0,none⟩=some (.int .i64 0):=HZ3.out.1.cell 0
 have z1:w3.cell? ⟨w.heap.size+1,1,none⟩=some (.int .i64 0):=HZ3.out.1.cell 1
 have z2:w3.cell? ⟨w.heap.size+1,2,none⟩=some (.int .i64 0):=HZ3.out.1.cell 2
 have z3:w3.cell? ⟨w.heap.size+1,3,none⟩=some (.int .i64 0):=HZ3.out.1.cell 3
 have f0':=HZ3.out.1.free 0
 have f1':=HZ3.out.1.free 1
 have f2':=HZ3.out.1.free 2
 have f3':=HZ3.out.1.free 3
 have HZ9:=Lib.hid HZ3.out.zero
 go_wp2
 have r0:=HZ9.out.1.cell 0
 have r1:=HZ9.out.1.cell 1
 have r2:=HZ9.out.1.cell 2
 have r3:=HZ9.out.1.cell 3
 simp only[Z4,List.getElem?_cons_zero,List.getElem?_cons_succ]at r0 r1 r2 r3
 exact⟨.tuple #[.agg #[.int .i64 0,.int .i64 0,.int .i64 0,.int .i64 0],.int .i64 1],by simp[results,Tryz.results32,go_sem,r0,r1,r2,r3],rfl,HZ9.out.2.2⟩
theorem canbe_nil(f0 f1 f2 f3:Int)(w:World):Calls Tryz.prog 45 #[.pointer none,.agg #[.int .i64 f0,.int .i64 f1,.int .i64 f2,.int .i64 f3]] w fun e w'=>e=.returned (.bool false)∧Below w.heap.size w w':=by
 obtain⟨W1,hW1⟩:∃W1,W1=w.alloc (.cells #[.int .i64 f0,.int .i64 f1,.int .i64 f2,.int .i64 f3] 31):=⟨_,rfl⟩
 have hb1:Below w.heap.size w W1:=by rw[hW1];exact(Below.refl _ _).alloc (Nat.le_refl _) _
 have hr1:Row W1 w.heap.size 31 [.int .i64 f0,.int .i64 f1,.int .i64 f2,.int .i64 f3]:=by rw[hW1];exact heap_alloc_new _ _
 have HCEL:Hid (∀u,Below W1.heap.size W1 u→u.cell? ⟨w.heap.size,0,none⟩=some (.int .i64 f0)∧u.cell? ⟨w.heap.size,1,none⟩=some (.int .i64 f1)∧u.cell? ⟨w.heap.size,2,none⟩=some (.int .i64 f2)∧u.cell? ⟨w.heap.size,3,none⟩=some (.int .i64 f3)):=fun u hb=>by
  have h9:=hr1.below hb hr1.lt
  exact⟨h9.cell 0,h9.cell 1,h9.cell 2,h9.cell 3⟩
 have HDV:Hid (∀u,Calls Tryz.prog 17 #[.pointer none] u fun e w'=>e=.returned (.pointer none)∧w'=u):=fun u=>wdev_nil u
 have HSP:Hid (∀u,Calls Tryz.prog 37 #[.pointer none] u fun e w'=>e=.returned (.pointer none)∧w'=u):=fun u=>wspc_nil u
 have HAN:Hid (∀u,Calls Tryz.prog 24 #[.int .i64 0] u fun e w'=>∃a:Nat,e=.returned (.pointer (some ⟨a,0,none⟩))∧Below u.heap.size u w'):=fun u=>by
  refine(arnew_any 0 u (by omega) (by omega)).mono ?_
  rintro e w' ⟨he,ha,hb2⟩
  exact⟨u.heap.size,he,hb2⟩
 have HFN:Hid (∀u (a:Nat),Calls Tryz.prog 23 #[.pointer none,.pointer (some ⟨a,0,none⟩),.pointer none] u fun e w'=>e=.returned (.pointer none)∧w'=u):=fun u a=>fnew_nil (some ⟨a,0,none⟩) none u
 have HRD:Hid (∀u,Calls Tryz.prog 39 #[.pointer none,.agg #[.int .i64 f0,.int .i64 f1,.int .i64 f2,.int .i64 f3]] u fun e w'=>e=.returned (.tuple #[.pointer none,.int .i64 1])∧Below u.heap.size u w'):=fun u=>fread_nil f0 f1 f2 f3 u
 have HFIN:Hid (∀u,Below W1.heap.size W1 u→Below w.heap.size w u):=fun u hb=>hb1.trans (hb.mono hb1.size)
 have hb0:Below W1.heap.size W1 W1.drew:=below_drew (Below.refl _ _)
 have q0:=HCEL.out _ hb0
 have HW1:=Lib.hid hW1
 generalize hS0:w.heap.size=s0 at*
 clear hW1 hb1 hr1
 go_enter Tryz.func45,Tryz.ntmps45
 go_upto_region 1 with(fail)
 rw[←HW1.out]
 clear HW1
 go_region_held3 (fun u=>u.cell? ⟨s0,0,none⟩=some (.int .i64 f0)∧u.cell? ⟨s0,1,none⟩=some (.int .i64 f1)∧u.cell? ⟨s0,2,none⟩=some (.int .i64 f2)∧u.cell? ⟨s0,3,none⟩=some (.int .i64 f3)) (first|with_reducible exact q0|with_reducible exact q5|with_reducible exact q7)
  (first
   |(go_at_call 17;(with_reducible refine(HDV.out _).mono ?_);rintro e w4 ⟨rfl,rfl⟩)
   |(go_at_call 37;(with_reducible refine(HSP.out _).mono ?_);rintro e w4 ⟨rfl,rfl⟩)
   |(go_at_call 24;(with_reducible refine(HAN.out _).mono ?_);rintro e w5 ⟨a,rfl,h5⟩;have hb5:=hb0.trans (h5.mono hb0.size);have q5:=HCEL.out w5 hb5)
   |(go_at_call 23;(with_reducible refine(HFN.out _ _).mono ?_);rintro e w6 ⟨rfl,rfl⟩)
   |(go_at_call 39;(with_reducible refine(HRD.out _).mono ?_);rintro e w7 ⟨rfl,h7⟩;have hb7:=hb5.trans (h7.mono hb5.size);have q7:=HCEL.out w7 hb7))
 all_goals
  have H9:=Lib.hid (HFIN.out _ hb7)
  clear hb7 q7 q5 q0 h7 h5 hb5 hb0
  go_wp2
  go_ret
  exact⟨rfl,by rw[hS0]at*;exact H9.out⟩
theorem number_nil(f0 f1 f2 f3 fr:Int)(w:World):Calls Tryz.prog 21 #[.pointer none,.agg #[.int .i64 f0,.int .i64 f1,.int .i64 f2,.int .i64 f3],.int .i64 fr] w fun e w'=>e=.returned (.tuple #[.agg #[.int .i64 0,.int .i64 0,.int .i64 0,.int .i64 0],.int .i64 1])∧Below w.heap.size w w':=by
 by_cases h5:f2=5
 ·subst h5
  exact number_wide _ f0 f1 f3 fr w
 obtain⟨W,hW⟩:∃W,W=(((w.alloc (.cells #[.int .i64 f0,.int .i64 f1,.int .i64 f2,.int .i64 f3] 31)).alloc (.cells #[.int .i64 fr] 2)).alloc (.cells #[.int .i64 0,.int .i64 0,.int .i64 0,.int .i64 0] 31)):=⟨_,rfl⟩
 have hsz:∀(w:World) (o:Obj),(w.alloc o).heap.size=w.heap.size+1:=fun w o=>by simp
 have q0:=Below.refl w.heap.size w
 have q1:=q0.alloc q0.size (.cells #[.int .i64 f0,.int .i64 f1,.int .i64 f2,.int .i64 f3] 31)
 have q2:=q1.alloc q1.size (.cells #[.int .i64 fr] 2)
 have hz:ZR w (w.heap.size+2) W:=by
  have:=ZR.mk q2
  rw[←hW]at this
  simp only[hsz,Nat.add_assoc,Nat.reduceAdd]at this
  exact this
 have r0:Row W (w.heap.size) 31 [.int .i64 f0,.int .i64 f1,.int .i64 f2,.int .i64 f3]:=by
  have q:Row (w.alloc (.cells #[.int .i64 f0,.int .i64 f1,.int .i64 f2,.int .i64 f3] 31)) w.heap.size 31 [.int .i64 f0,.int .i64 f1,.int .i64 f2,.int .i64 f3]:=heap_alloc_new _ _
  rw[hW]
  have p0:=Below.refl (w.heap.size+1) (w.alloc (.cells #[.int .i64 f0,.int .i64 f1,.int .i64 f2,.int .i64 f3] 31))
  have p1:=p0.alloc (by simp only[hsz];omega) (.cells #[.int .i64 fr] 2)
  have p2:=p1.alloc (by simp only[hsz];omega) (.cells #[.int .i64 0,.int .i64 0,.int .i64 0,.int .i64 0] 31)
  exact q.below p2 (by omega)
 have c0_0:W.cell? ⟨w.heap.size,0,none⟩=some (.int .i64 f0):=r0.cell 0
 have c0_1:W.cell? ⟨w.heap.size,1,none⟩=some (.int .i64 f1):=r0.cell 1
 have c0_2:W.cell? ⟨w.heap.size,2,none⟩=some (.int .i64 f2):=r0.cell 2
 have c0_3:W.cell? ⟨w.heap.size,3,none⟩=some (.int .i64 f3):=r0.cell 3
 have HCN:Hid (∀wd v u,Calls Tryz.prog 32 #[.pointer none,.agg #[.int .i64 f0,.int .i64 f1,.int .i64 f2,.int .i64 f3],.int .i64 wd,v] u fun e w'=>e=.returned (.tuple #[.agg #[.int .i64 0,.int .i64 0,.int .i64 0,.int .i64 0],.int .i64 1])∧Below u.heap.size u w'):=fun wd v u=>change_nil f0 f1 f2 f3 wd v u
 have HZ:=Lib.hid hz
 have HW:=Lib.hid hW
 have g5:(f2==5)=false:=by simp[h5]
 clear hz hW hsz q0 q1 q2 r0
 go_enter Tryz.func21,Tryz.ntmps21
 go_upto_region 1 with(fail)
 rw[←HW.out]
 clear HW
 go_wp2_with fail
 refine(HCN.out _ _ _).mono ?_
 rintro e w3 ⟨rfl,hb3⟩
 have HZ3:=Lib.hid (HZ.out.below hb3)
 clear hb3 c0_0 c0_1 c0_2 c0_3
 have z0:w3.cell? ⟨w.heap.size+2,0,none⟩=some (.int .i64 0):=HZ3.out.1.cell 0
 have z1:w3.cell? ⟨w.heap.size+2,1,none⟩=some (.int .i64 0):=HZ3.out.1.cell 1
 have z2:w3.cell? ⟨w.heap.size+2,2,none⟩=some (.int .i64 0):=HZ3.out.1.cell 2
 have z3:w3.cell? ⟨w.heap.size+2,3,none⟩=some (.int .i64 0):=HZ3.out.1.cell 3
 have f0':=HZ3.out.1.free 0
 have f1':=HZ3.out.1.free 1
 have f2':=HZ3.out.1.free 2
 have f3':=HZ3.out.1.free 3
 have HZ9:=Lib.hid HZ3.out.zero
 go_wp2
 have r0:=HZ9.out.1.cell 0
 have r1:=HZ9.out.1.cell 1
 have r2:=HZ9.out.1.cell 2
 have r3:=HZ9.out.1.cell 3
 simp only[Z4,List.getElem?_cons_zero,List.getElem?_cons_succ]at r0 r1 r2 r3
 refine bodyPost_ret (v:=.tuple #[.agg #[.int .i64 0,.int .i64 0,.int .i64 0,.int .i64 0],.int .i64 1]) (by simp[results,Tryz.results21,go_sem,r0,r1,r2,r3]) rfl ?_
 exact⟨rfl,HZ9.out.2.2⟩
theorem keep_nil(f0 f1 f2 f3 c lo hi:Int)(w:World):Calls Tryz.prog 20 #[.pointer none,.agg #[.int .i64 f0,.int .i64 f1,.int .i64 f2,.int .i64 f3],.int .i64 c,.int .i64 lo,.int .i64 hi] w fun e w'=>e=.returned (.tuple #[.agg #[.int .i64 0,.int .i64 0,.int .i64 0,.int .i64 0],.int .i64 1])∧Below w.heap.size w w':=by
 by_cases hin:0≤c∧c<f2
 rotate_left
 ·exact keep_bad _ f0 f1 f2 f3 c lo hi w hin
 obtain⟨W,hW⟩:∃W,W=(((((w.alloc (.cells #[.int .i64 f0,.int .i64 f1,.int .i64 f2,.int .i64 f3] 31)).alloc (.cells #[.int .i64 c] 3)).alloc (.cells #[.int .i64 lo] 2)).alloc (.cells #[.int .i64 hi] 2)).alloc (.cells #[.int .i64 0,.int .i64 0,.int .i64 0,.int .i64 0] 31)):=⟨_,rfl⟩
 have hsz:∀(w:World) (o:Obj),(w.alloc o).heap.size=w.heap.size+1:=fun w o=>by simp
 have q0:=Below.refl w.heap.size w
 have q1:=q0.alloc q0.size (.cells #[.int .i64 f0,.int .i64 f1,.int .i64 f2,.int .i64 f3] 31)
 have q2:=q1.alloc q1.size (.cells #[.int .i64 c] 3)
 have q3:=q2.alloc q2.size (.cells #[.int .i64 lo] 2)
 have q4:=q3.alloc q3.size (.cells #[.int .i64 hi] 2)
 have hz:ZR w (w.heap.size+4) W:=by
  have:=ZR.mk q4
  rw[←hW]at this
  simp only[hsz,Nat.add_assoc,Nat.reduceAdd]at this
  exact this
 have r0:Row W (w.heap.size) 31 [.int .i64 f0,.int .i64 f1,.int .i64 f2,.int .i64 f3]:=by
  have q:Row (w.alloc (.cells #[.int .i64 f0,.int .i64 f1,.int .i64 f2,.int .i64 f3] 31)) w.heap.size 31 [.int .i64 f0,.int .i64 f1,.int .i64 f2,.int .i64 f3]:=heap_alloc_new _ _
  rw[hW]
  have p0:=Below.refl (w.heap.size+1) (w.alloc (.cells #[.int .i64 f0,.int .i64 f1,.int .i64 f2,.int .i64 f3] 31))
  have p1:=p0.alloc (by simp only[hsz];omega) (.cells #[.int .i64 c] 3)
  have p2:=p1.alloc (by simp only[hsz];omega) (.cells #[.int .i64 lo] 2)
  have p3:=p2.alloc (by simp only[hsz];omega) (.cells #[.int .i64 hi] 2)
  have p4:=p3.alloc (by simp only[hsz];omega) (.cells #[.int .i64 0,.int .i64 0,.int .i64 0,.int .i64 0] 31)
  exact q.below p4 (by omega)
 have r1:Row W (w.heap.size+1) 3 [.int .i64 c]:=by
  have q:Row ((w.alloc (.cells #[.int .i64 f0,.int .i64 f1,.int .i64 f2,.int .i64 f3] 31)).alloc (.cells #[.int .i64 c] 3)) (w.alloc (.cells #[.int .i64 f0,.int .i64 f1,.int .i64 f2,.int .i64 f3] 31)).heap.size 3 [.int .i64 c]:=heap_alloc_new _ _
  simp only[hsz]at q
  rw[hW]
  have p1:=Below.refl (w.heap.size+2) ((w.alloc (.cells #[.int .i64 f0,.int .i64 f1,.int .i64 f2,.int .i64 f3] 31)).alloc (.cells #[.int .i64 c] 3))
  have p2:=p1.alloc (by simp only[hsz];omega) (.cells #[.int .i64 lo] 2)
  have p3:=p2.alloc (by simp only[hsz];omega) (.cells #[.int .i64 hi] 2)
  have p4:=p3.alloc (by simp only[hsz];omega) (.cells #[.int .i64 0,.int .i64 0,.int .i64 0,.int .i64 0] 31)
  exact q.below p4 (by omega)
 have HHC:Hid (∀w,Calls Tryz.prog 44 #[.agg #[.int .i64 f0,.int .i64 f1,.int .i64 f2,.int .i64 f3],.int .i64 c] w fun e w'=>e=.returned (.bool true)∧Below w.heap.size w w'):=fun w=>by
  have:=hascol_any f0 f1 f2 f3 c w
  rwa [decide_eq_true hin]at this
 have HCC:Hid (∀u,Below W.heap.size W u→u.cell? ⟨w.heap.size,0,none⟩=some (.int .i64 f0)∧u.cell? ⟨w.heap.size,1,none⟩=some (.int .i64 f1)∧u.cell? ⟨w.heap.size,2,none⟩=some (.int .i64 f2)∧u.cell? ⟨w.heap.size,3,none⟩=some (.int .i64 f3)):=fun u hb=>by
  have q:=r0.below hb r0.lt
  exact⟨q.cell 0,q.cell 1,q.cell 2,q.cell 3⟩
 have c0_0:W.cell? ⟨w.heap.size,0,none⟩=some (.int .i64 f0):=r0.cell 0
 have c0_1:W.cell? ⟨w.heap.size,1,none⟩=some (.int .i64 f1):=r0.cell 1
 have c0_2:W.cell? ⟨w.heap.size,2,none⟩=some (.int .i64 f2):=r0.cell 2
 have c0_3:W.cell? ⟨w.heap.size,3,none⟩=some (.int .i64 f3):=r0.cell 3
 have c1_0:W.cell? ⟨w.heap.size+1,0,none⟩=some (.int .i64 c):=r1.cell 0
 have HCN:Hid (∀wd v u,Calls Tryz.prog 32 #[.pointer none,.agg #[.int .i64 f0,.int .i64 f1,.int .i64 f2,.int .i64 f3],.int .i64 wd,v] u fun e w'=>e=.returned (.tuple #[.agg #[.int .i64 0,.int .i64 0,.int .i64 0,.int .i64 0],.int .i64 1])∧Below u.heap.size u w'):=fun wd v u=>change_nil f0 f1 f2 f3 wd v u
 have HZ:=Lib.hid hz
 have HW:=Lib.hid hW
 clear hz hW hsz q0 q1 q2 q3 q4 r0 r1 hin
 go_enter Tryz.func20,Tryz.ntmps20
 go_upto_region 1 with(fail)
 rw[←HW.out]
 clear HW
 go_wp2_with fail
 refine(HHC.out _).mono ?_
 rintro e w3 ⟨rfl,hb3⟩
 have HZ3:=Lib.hid (HZ.out.below hb3)
 have d:=HCC.out _ hb3
 obtain⟨d0,d1,d2,d3⟩:=d
 clear hb3 c0_0 c0_1 c0_2 c0_3 c1_0
 go_wp2_with fail
 refine(HCN.out _ _ _).mono ?_
 rintro e w4 ⟨rfl,hb4⟩
 have HZ4:=Lib.hid (HZ3.out.below hb4)
 clear hb4 d0 d1 d2 d3
 have z0:w4.cell? ⟨w.heap.size+4,0,none⟩=some (.int .i64 0):=HZ4.out.1.cell 0
 have z1:w4.cell? ⟨w.heap.size+4,1,none⟩=some (.int .i64 0):=HZ4.out.1.cell 1
 have z2:w4.cell? ⟨w.heap.size+4,2,none⟩=some (.int .i64 0):=HZ4.out.1.cell 2
 have z3:w4.cell? ⟨w.heap.size+4,3,none⟩=some (.int .i64 0):=HZ4.out.1.cell 3
 have f0':=HZ4.out.1.free 0
 have f1':=HZ4.out.1.free 1
 have f2':=HZ4.out.1.free 2
 have f3':=HZ4.out.1.free 3
 have HZ9:=Lib.hid HZ4.out.zero
 go_wp2
 have r0:=HZ9.out.1.cell 0
 have r1:=HZ9.out.1.cell 1
 have r2:=HZ9.out.1.cell 2
 have r3:=HZ9.out.1.cell 3
 simp only[Z4,List.getElem?_cons_zero,List.getElem?_cons_succ]at r0 r1 r2 r3
 refine bodyPost_ret (v:=.tuple #[.agg #[.int .i64 0,.int .i64 0,.int .i64 0,.int .i64 0],.int .i64 1]) (by simp[results,Tryz.results20,go_sem,r0,r1,r2,r3]) rfl ?_
 exact⟨rfl,HZ9.out.2.2⟩
theorem look_nil(f0 f1 f2 f3 k:Int)(w:World):Calls Tryz.prog 19 #[.pointer none,.agg #[.int .i64 f0,.int .i64 f1,.int .i64 f2,.int .i64 f3],.int .i64 k,.agg #[.int .i64 f0,.int .i64 f1,.int .i64 f2,.int .i64 f3],.int .i64 k,.int .i64 k] w fun e w'=>e=.returned (.tuple #[.agg #[.int .i64 0,.int .i64 0,.int .i64 0,.int .i64 0],.int .i64 1])∧Below w.heap.size w w':=by
 obtain⟨W,hW⟩:∃W,W=(((w.alloc (.cells #[.int .i64 f0,.int .i64 f1,.int .i64 f2,.int .i64 f3] 31)).alloc (.cells #[.int .i64 f0,.int .i64 f1,.int .i64 f2,.int .i64 f3] 31)).alloc (.cells #[.int .i64 0,.int .i64 0,.int .i64 0,.int .i64 0] 31)):=⟨_,rfl⟩
 have hsz:∀(w:World) (o:Obj),(w.alloc o).heap.size=w.heap.size+1:=fun w o=>by simp
 have q0:=Below.refl w.heap.size w
 have q1:=q0.alloc q0.size (.cells #[.int .i64 f0,.int .i64 f1,.int .i64 f2,.int .i64 f3] 31)
 have q2:=q1.alloc q1.size (.cells #[.int .i64 f0,.int .i64 f1,.int .i64 f2,.int .i64 f3] 31)
 have hz:ZR w (w.heap.size+2) W:=by
  have:=ZR.mk q2
  rw[←hW]at this
  simp only[hsz,Nat.add_assoc,Nat.reduceAdd]at this
  exact this
 have r0:Row W (w.heap.size) 31 [.int .i64 f0,.int .i64 f1,.int .i64 f2,.int .i64 f3]:=by
  have q:Row (w.alloc (.cells #[.int .i64 f0,.int .i64 f1,.int .i64 f2,.int .i64 f3] 31)) w.heap.size 31 [.int .i64 f0,.int .i64 f1,.int .i64 f2,.int .i64 f3]:=heap_alloc_new _ _
  rw[hW]
  have p0:=Below.refl (w.heap.size+1) (w.alloc (.cells #[.int .i64 f0,.int .i64 f1,.int .i64 f2,.int .i64 f3] 31))
  have p1:=p0.alloc (by simp only[hsz];omega) (.cells #[.int .i64 f0,.int .i64 f1,.int .i64 f2,.int .i64 f3] 31)
  have p2:=p1.alloc (by simp only[hsz];omega) (.cells #[.int .i64 0,.int .i64 0,.int .i64 0,.int .i64 0] 31)
  exact q.below p2 (by omega)
 have r1:Row W (w.heap.size+1) 31 [.int .i64 f0,.int .i64 f1,.int .i64 f2,.int .i64 f3]:=by
  have q:Row ((w.alloc (.cells #[.int .i64 f0,.int .i64 f1,.int .i64 f2,.int .i64 f3] 31)).alloc (.cells #[.int .i64 f0,.int .i64 f1,.int .i64 f2,.int .i64 f3] 31)) (w.alloc (.cells #[.int .i64 f0,.int .i64 f1,.int .i64 f2,.int .i64 f3] 31)).heap.size 31 [.int .i64 f0,.int .i64 f1,.int .i64 f2,.int .i64 f3]:=heap_alloc_new _ _
  simp only[hsz]at q
  rw[hW]
  have p1:=Below.refl (w.heap.size+2) ((w.alloc (.cells #[.int .i64 f0,.int .i64 f1,.int .i64 f2,.int .i64 f3] 31)).alloc (.cells #[.int .i64 f0,.int .i64 f1,.int .i64 f2,.int .i64 f3] 31))
  have p2:=p1.alloc (by simp only[hsz];omega) (.cells #[.int .i64 0,.int .i64 0,.int .i64 0,.int .i64 0] 31)
  exact q.below p2 (by omega)
 have HHC:Hid (∀w,Calls Tryz.prog 44 #[.agg #[.int .i64 f0,.int .i64 f1,.int .i64 f2,.int .i64 f3],.int .i64 k] w fun e w'=>e=.returned (.bool (decide (0≤k∧k<f2)))∧Below w.heap.size w w'):=fun w=>hascol_any f0 f1 f2 f3 k w
 have HCB:Hid (∀w,Calls Tryz.prog 45 #[.pointer none,.agg #[.int .i64 f0,.int .i64 f1,.int .i64 f2,.int .i64 f3]] w fun e w'=>e=.returned (.bool false)∧Below w.heap.size w w'):=fun w=>canbe_nil f0 f1 f2 f3 w
 have HCC:Hid (∀u,Below W.heap.size W u→(u.cell? ⟨w.heap.size,0,none⟩=some (.int .i64 f0)∧u.cell? ⟨w.heap.size,1,none⟩=some (.int .i64 f1)∧u.cell? ⟨w.heap.size,2,none⟩=some (.int .i64 f2)∧u.cell? ⟨w.heap.size,3,none⟩=some (.int .i64 f3))∧u.cell? ⟨w.heap.size+1,0,none⟩=some (.int .i64 f0)∧u.cell? ⟨w.heap.size+1,1,none⟩=some (.int .i64 f1)∧u.cell? ⟨w.heap.size+1,2,none⟩=some (.int .i64 f2)∧u.cell? ⟨w.heap.size+1,3,none⟩=some (.int .i64 f3)):=fun u hb=>by
  have q:=r0.below hb r0.lt
  have q2:=r1.below hb r1.lt
  exact⟨⟨q.cell 0,q.cell 1,q.cell 2,q.cell 3⟩,q2.cell 0,q2.cell 1,q2.cell 2,q2.cell 3⟩
 have c0_0:W.cell? ⟨w.heap.size,0,none⟩=some (.int .i64 f0):=r0.cell 0
 have c0_1:W.cell? ⟨w.heap.size,1,none⟩=some (.int .i64 f1):=r0.cell 1
 have c0_2:W.cell? ⟨w.heap.size,2,none⟩=some (.int .i64 f2):=r0.cell 2
 have c0_3:W.cell? ⟨w.heap.size,3,none⟩=some (.int .i64 f3):=r0.cell 3
 have c1_0:W.cell? ⟨w.heap.size+1,0,none⟩=some (.int .i64 f0):=r1.cell 0
 have c1_1:W.cell? ⟨w.heap.size+1,1,none⟩=some (.int .i64 f1):=r1.cell 1
 have c1_2:W.cell? ⟨w.heap.size+1,2,none⟩=some (.int .i64 f2):=r1.cell 2
 have c1_3:W.cell? ⟨w.heap.size+1,3,none⟩=some (.int .i64 f3):=r1.cell 3
 have HZ:=Lib.hid hz
 have HW:=Lib.hid hW
 clear hz hW hsz q0 q1 q2 r0 r1
 by_cases hin:0≤k∧k<f2
 case neg=>
  rw[decide_eq_false hin]at HHC
  clear hin
  go_enter_defers Tryz.func19,Tryz.ntmps19
  go_upto_region 1 with(fail)
  rw[←HW.out]
  clear HW
  go_wp2_with fail
  refine(HHC.out _).mono ?_
  rintro e w3 ⟨rfl,hb3⟩
  have HZ3:=Lib.hid (HZ.out.below hb3)
  clear hb3 c0_0 c0_1 c0_2 c0_3 c1_0 c1_1 c1_2 c1_3
  have z0:w3.cell? ⟨w.heap.size+2,0,none⟩=some (.int .i64 0):=HZ3.out.1.cell 0
  have z1:w3.cell? ⟨w.heap.size+2,1,none⟩=some (.int .i64 0):=HZ3.out.1.cell 1
  have z2:w3.cell? ⟨w.heap.size+2,2,none⟩=some (.int .i64 0):=HZ3.out.1.cell 2
  have z3:w3.cell? ⟨w.heap.size+2,3,none⟩=some (.int .i64 0):=HZ3.out.1.cell 3
  have f0':=HZ3.out.1.free 0
  have f1':=HZ3.out.1.free 1
  have f2':=HZ3.out.1.free 2
  have f3':=HZ3.out.1.free 3
  have HZ9:=Lib.hid HZ3.out.zero
  go_wp2
  have r0:=HZ9.out.1.cell 0
  have r1:=HZ9.out.1.cell 1
  have r2:=HZ9.out.1.cell 2
  have r3:=HZ9.out.1.cell 3
  simp only[Z4,List.getElem?_cons_zero,List.getElem?_cons_succ]at r0 r1 r2 r3
  exact⟨.tuple #[.agg #[.int .i64 0,.int .i64 0,.int .i64 0,.int .i64 0],.int .i64 1],by simp[results,Tryz.results19,go_sem,r0,r1,r2,r3],rfl,HZ9.out.2.2⟩
 case pos=>
  rw[decide_eq_true hin]at HHC
  have g1:decide (k<0)=false:=by simp;omega
  clear hin
  by_cases h5:k≥5
  case pos=>
   have g2:decide (k≥5)=true:=by simpa using h5
   clear h5
   go_enter_defers Tryz.func19,Tryz.ntmps19
   go_upto_region 1 with(fail)
   rw[←HW.out]
   clear HW
   go_wp2_with fail
   refine(HHC.out _).mono ?_
   rintro e w3 ⟨rfl,hb3⟩
   have HBX:=Lib.hid hb3
   clear hb3 c0_0 c0_1 c0_2 c0_3 c1_0 c1_1 c1_2 c1_3
   obtain⟨⟨a0,a1,a2,a3⟩,b0,b1,b2,b3⟩:=HCC.out _ HBX.out
   go_wp2_with fail
   refine(HHC.out _).mono ?_
   rintro e w4 ⟨rfl,hb4⟩
   have HZ3:=Lib.hid (HZ.out.below (HBX.out.trans (hb4.mono HBX.out.size)))
   clear hb4 a0 a1 a2 a3 b0 b1 b2 b3
   have z0:w4.cell? ⟨w.heap.size+2,0,none⟩=some (.int .i64 0):=HZ3.out.1.cell 0
   have z1:w4.cell? ⟨w.heap.size+2,1,none⟩=some (.int .i64 0):=HZ3.out.1.cell 1
   have z2:w4.cell? ⟨w.heap.size+2,2,none⟩=some (.int .i64 0):=HZ3.out.1.cell 2
   have z3:w4.cell? ⟨w.heap.size+2,3,none⟩=some (.int .i64 0):=HZ3.out.1.cell 3
   have f0':=HZ3.out.1.free 0
   have f1':=HZ3.out.1.free 1
   have f2':=HZ3.out.1.free 2
   have f3':=HZ3.out.1.free 3
   have HZ9:=Lib.hid HZ3.out.zero
   go_wp2
   have r0:=HZ9.out.1.cell 0
   have r1:=HZ9.out.1.cell 1
   have r2:=HZ9.out.1.cell 2
   have r3:=HZ9.out.1.cell 3
   simp only[Z4,List.getElem?_cons_zero,List.getElem?_cons_succ]at r0 r1 r2 r3
   exact⟨.tuple #[.agg #[.int .i64 0,.int .i64 0,.int .i64 0,.int .i64 0],.int .i64 1],by simp[results,Tryz.results19,go_sem,r0,r1,r2,r3],rfl,HZ9.out.2.2⟩
  case neg=>
   have g2:decide (k≥5)=false:=by simp;omega
   clear h5
   go_enter_defers Tryz.func19,Tryz.ntmps19
   go_upto_region 1 with(fail)
   rw[←HW.out]
   clear HW
   go_wp2_with fail
   refine(HHC.out _).mono ?_
   rintro e w3 ⟨rfl,hb3⟩
   have HBX:=Lib.hid hb3
   clear hb3 c0_0 c0_1 c0_2 c0_3 c1_0 c1_1 c1_2 c1_3
   obtain⟨⟨a0,a1,a2,a3⟩,b0,b1,b2,b3⟩:=HCC.out _ HBX.out
   go_wp2_with fail
   refine(HHC.out _).mono ?_
   rintro e w4 ⟨rfl,hb4⟩
   have HBY:=Lib.hid (HBX.out.trans (hb4.mono HBX.out.size))
   clear hb4 a0 a1 a2 a3 b0 b1 b2 b3
   obtain⟨⟨a0,a1,a2,a3⟩,b0,b1,b2,b3⟩:=HCC.out _ HBY.out
   go_wp2_with fail
   refine(HCB.out _).mono ?_
   rintro e w5 ⟨rfl,hb5⟩
   have HZ3:=Lib.hid (HZ.out.below (HBY.out.trans (hb5.mono HBY.out.size)))
   clear hb5 a0 a1 a2 a3 b0 b1 b2 b3
   have z0:w5.cell? ⟨w.heap.size+2,0,none⟩=some (.int .i64 0):=HZ3.out.1.cell 0
   have z1:w5.cell? ⟨w.heap.size+2,1,none⟩=some (.int .i64 0):=HZ3.out.1.cell 1
   have z2:w5.cell? ⟨w.heap.size+2,2,none⟩=some (.int .i64 0):=HZ3.out.1.cell 2
   have z3:w5.cell? ⟨w.heap.size+2,3,none⟩=some (.int .i64 0):=HZ3.out.1.cell 3
   have f0':=HZ3.out.1.free 0
   have f1':=HZ3.out.1.free 1
   have f2':=HZ3.out.1.free 2
   have f3':=HZ3.out.1.free 3
   have HZ9:=Lib.hid HZ3.out.zero
   go_wp2
   have r0:=HZ9.out.1.cell 0
   have r1:=HZ9.out.1.cell 1
   have r2:=HZ9.out.1.cell 2
   have r3:=HZ9.out.1.cell 3
   simp only[Z4,List.getElem?_cons_zero,List.getElem?_cons_succ]at r0 r1 r2 r3
   exact⟨.tuple #[.agg #[.int .i64 0,.int .i64 0,.int .i64 0,.int .i64 0],.int .i64 1],by simp[results,Tryz.results19,go_sem,r0,r1,r2,r3],rfl,HZ9.out.2.2⟩
theorem hascols_some(f0 f1 f2 f3:Int)(o:Tup)(w:World):Calls Tryz.prog 31 #[.agg #[.int .i64 f0,.int .i64 f1,.int .i64 f2,.int .i64 f3],.agg #[.int .i64 o.a,.int .i64 o.b,.int .i64 o.c,.int .i64 o.d,.int .i64 o.e]] w fun e w'=>∃b,e=.returned (.bool b)∧Below w.heap.size w w':=by
 obtain⟨W1,hW1,b1,s1,r1,r2⟩:=boxes2 w [.int .i64 f0,.int .i64 f1,.int .i64 f2,.int .i64 f3] [.int .i64 o.a,.int .i64 o.b,.int .i64 o.c,.int .i64 o.d,.int .i64 o.e] 31 26
 have HW1:=Lib.hid hW1
 have HB:=Lib.hid b1
 have HIX:Hid (∀i:Nat,i<5→∀W:World,(Instr.index 26 (.agg #[.int .i64 o.a,.int .i64 o.b,.int .i64 o.c,.int .i64 o.d,.int .i64 o.e]) (.int .i64 (i:Int))).run Tryz.prog W=.ok (.int .i64 (colT o i)) W):=fun i hi W=>index_any 26 rfl o hi W
 have d0:W1.cell? ⟨w.heap.size+1,0,none⟩=some (.int .i64 o.a):=r2.cell 0
 have d1:W1.cell? ⟨w.heap.size+1,1,none⟩=some (.int .i64 o.b):=r2.cell 1
 have d2:W1.cell? ⟨w.heap.size+1,2,none⟩=some (.int .i64 o.c):=r2.cell 2
 have d3:W1.cell? ⟨w.heap.size+1,3,none⟩=some (.int .i64 o.d):=r2.cell 3
 have d4:W1.cell? ⟨w.heap.size+1,4,none⟩=some (.int .i64 o.e):=r2.cell 4
 have c2:W1.cell? ⟨w.heap.size,2,none⟩=some (.int .i64 f2):=r1.cell 2
 obtain⟨nk,hnk⟩:∃nk:Int,IntKind.i64.wrap (-f2)=nk:=⟨_,rfl⟩
 clear hW1 b1 s1 r1 r2
 go_enter Tryz.func31,Tryz.ntmps31
 go_upto_region 1 with(fail)
 rw[←HW1.out]
 clear HW1
 go_wp2_with fail
 go_loopw [8] (fun iv wr=>∃n:Nat,n≤5∧iv=.int .i64 (n:Int)∧wr=W1) (fun iv _=>5-(intOf iv).toNat)
 case atStart=>exact⟨0,by omega,rfl,by trivial⟩
 case round=>
  obtain⟨n,hn,rfl,rfl⟩:=hrel
  by_cases h5:n<5
  ·have g0:decide ((n:Int)<5)=true:=by simp;omega
   have hn0:(0:Int)≤(n:Int):=by omega
   have hn1:(n:Int)<5:=by omega
   have hix:=HIX.out n h5
   obtain⟨x,hx⟩:∃x,x=colT o n:=⟨_,rfl⟩
   rw[←hx]at hix
   clear hx
   by_cases h1:x>f2
   ·have g1:decide (x>f2)=true:=by simpa using h1
    go_wp2
    go_ret
    exact⟨_,rfl,HB.out⟩
   ·have g1:decide (x>f2)=false:=by simpa using h1
    by_cases h2:x<nk
    ·have g2:decide (x<nk)=true:=by simpa using h2
     go_wp2
     go_ret
     exact⟨.inl rfl,HB.out⟩
    ·have g2:decide (x<nk)=false:=by simpa using h2
     go_wp2
     go_roundw
     case rel=>exact⟨n+1,by omega,by go_num,by trivial⟩
     case measure=>simp[intOf];omega
  ·obtain rfl:n=5:=by omega
   go_wp2
   go_ret
   exact⟨_,rfl,HB.out⟩
theorem cut_nil(f0 f1 f2 f3:Int)(w:World):Calls Tryz.prog 12 #[.pointer none,.agg #[.int .i64 f0,.int .i64 f1,.int .i64 f2,.int .i64 f3],.agg #[.int .i64 1,.int .i64 0,.int .i64 0,.int .i64 0,.int .i64 0]] w fun e w'=>e=.returned (.tuple #[.agg #[.int .i64 0,.int .i64 0,.int .i64 0,.int .i64 0],.int .i64 1])∧Below w.heap.size w w':=by
 obtain⟨W,hW⟩:∃W,W=(((w.alloc (.cells #[.int .i64 f0,.int .i64 f1,.int .i64 f2,.int .i64 f3] 31)).alloc (.cells #[.int .i64 1,.int .i64 0,.int .i64 0,.int .i64 0,.int .i64 0] 26)).alloc (.cells #[.int .i64 0,.int .i64 0,.int .i64 0,.int .i64 0] 31)):=⟨_,rfl⟩
 have hsz:∀(w:World) (o:Obj),(w.alloc o).heap.size=w.heap.size+1:=fun w o=>by simp
 have q0:=Below.refl w.heap.size w
 have q1:=q0.alloc q0.size (.cells #[.int .i64 f0,.int .i64 f1,.int .i64 f2,.int .i64 f3] 31)
 have q2:=q1.alloc q1.size (.cells #[.int .i64 1,.int .i64 0,.int .i64 0,.int .i64 0,.int .i64 0] 26)
 have hz:ZR w (w.heap.size+2) W:=by
  have:=ZR.mk q2
  rw[←hW]at this
  simp only[hsz,Nat.add_assoc,Nat.reduceAdd]at this
  exact this
 have r0:Row W (w.heap.size) 31 [.int .i64 f0,.int .i64 f1,.int .i64 f2,.int .i64 f3]:=by
  have q:Row (w.alloc (.cells #[.int .i64 f0,.int .i64 f1,.int .i64 f2,.int .i64 f3] 31)) w.heap.size 31 [.int .i64 f0,.int .i64 f1,.int .i64 f2,.int .i64 f3]:=heap_alloc_new _ _
  rw[hW]
  have p0:=Below.refl (w.heap.size+1) (w.alloc (.cells #[.int .i64 f0,.int .i64 f1,.int .i64 f2,.int .i64 f3] 31))
  have p1:=p0.alloc (by simp only[hsz];omega) (.cells #[.int .i64 1,.int .i64 0,.int .i64 0,.int .i64 0,.int .i64 0] 26)
  have p2:=p1.alloc (by simp only[hsz];omega) (.cells #[.int .i64 0,.int .i64 0,.int .i64 0,.int .i64 0] 31)
  exact q.below p2 (by omega)
 have r1:Row W (w.heap.size+1) 26 [.int .i64 1,.int .i64 0,.int .i64 0,.int .i64 0,.int .i64 0]:=by
  have q:Row ((w.alloc (.cells #[.int .i64 f0,.int .i64 f1,.int .i64 f2,.int .i64 f3] 31)).alloc (.cells #[.int .i64 1,.int .i64 0,.int .i64 0,.int .i64 0,.int .i64 0] 26)) (w.alloc (.cells #[.int .i64 f0,.int .i64 f1,.int .i64 f2,.int .i64 f3] 31)).heap.size 26 [.int .i64 1,.int .i64 0,.int .i64 0,.int .i64 0,.int .i64 0]:=heap_alloc_new _ _
  simp only[hsz]at q
  rw[hW]
  have p1:=Below.refl (w.heap.size+2) ((w.alloc (.cells #[.int .i64 f0,.int .i64 f1,.int .i64 f2,.int .i64 f3] 31)).alloc (.cells #[.int .i64 1,.int .i64 0,.int .i64 0,.int .i64 0,.int .i64 0] 26))
  have p2:=p1.alloc (by simp only[hsz];omega) (.cells #[.int .i64 0,.int .i64 0,.int .i64 0,.int .i64 0] 31)
  exact q.below p2 (by omega)
 have HNM:Hid (∀w,Calls Tryz.prog 29 #[.agg #[.int .i64 1,.int .i64 0,.int .i64 0,.int .i64 0,.int .i64 0]] w fun e w'=>e=.returned (.int .i64 1)∧Below w.heap.size w w'):=fun w=>named_any ⟨1,0,0,0,0⟩ w
 have HFM:Hid (∀w,Calls Tryz.prog 30 #[.agg #[.int .i64 1,.int .i64 0,.int .i64 0,.int .i64 0,.int .i64 0]] w fun e w'=>e=.returned (.bool true)∧Below w.heap.size w w'):=fun w=>by
  have:=formed_any ⟨1,0,0,0,0⟩ w
  rwa [decide_eq_true (show Fm ⟨1,0,0,0,0⟩by decide)]at this
 have HHC:Hid (∀w,Calls Tryz.prog 31 #[.agg #[.int .i64 f0,.int .i64 f1,.int .i64 f2,.int .i64 f3],.agg #[.int .i64 1,.int .i64 0,.int .i64 0,.int .i64 0,.int .i64 0]] w fun e w'=>∃b,e=.returned (.bool b)∧Below w.heap.size w w'):=fun w=>hascols_some f0 f1 f2 f3 ⟨1,0,0,0,0⟩ w
 have HCC:Hid (∀u,Below W.heap.size W u→(u.cell? ⟨w.heap.size,0,none⟩=some (.int .i64 f0)∧u.cell? ⟨w.heap.size,1,none⟩=some (.int .i64 f1)∧u.cell? ⟨w.heap.size,2,none⟩=some (.int .i64 f2)∧u.cell? ⟨w.heap.size,3,none⟩=some (.int .i64 f3))∧u.cell? ⟨w.heap.size+1,0,none⟩=some (.int .i64 1)∧u.cell? ⟨w.heap.size+1,1,none⟩=some (.int .i64 0)∧u.cell? ⟨w.heap.size+1,2,none⟩=some (.int .i64 0)∧u.cell? ⟨w.heap.size+1,3,none⟩=some (.int .i64 0)∧u.cell? ⟨w.heap.size+1,4,none⟩=some (.int .i64 0)):=fun u hb=>by
  have q:=r0.below hb r0.lt
  have q2:=r1.below hb r1.lt
  exact⟨⟨q.cell 0,q.cell 1,q.cell 2,q.cell 3⟩,q2.cell 0,q2.cell 1,q2.cell 2,q2.cell 3,q2.cell 4⟩
 have c0_0:W.cell? ⟨w.heap.size,0,none⟩=some (.int .i64 f0):=r0.cell 0
 have c0_1:W.cell? ⟨w.heap.size,1,none⟩=some (.int .i64 f1):=r0.cell 1
 have c0_2:W.cell? ⟨w.heap.size,2,none⟩=some (.int .i64 f2):=r0.cell 2
 have c0_3:W.cell? ⟨w.heap.size,3,none⟩=some (.int .i64 f3):=r0.cell 3
 have c1_0:W.cell? ⟨w.heap.size+1,0,none⟩=some (.int .i64 1):=r1.cell 0
 have c1_1:W.cell? ⟨w.heap.size+1,1,none⟩=some (.int .i64 0):=r1.cell 1
 have c1_2:W.cell? ⟨w.heap.size+1,2,none⟩=some (.int .i64 0):=r1.cell 2
 have c1_3:W.cell? ⟨w.heap.size+1,3,none⟩=some (.int .i64 0):=r1.cell 3
 have c1_4:W.cell? ⟨w.heap.size+1,4,none⟩=some (.int .i64 0):=r1.cell 4
 have HCN:Hid (∀wd v u,Calls Tryz.prog 32 #[.pointer none,.agg #[.int .i64 f0,.int .i64 f1,.int .i64 f2,.int .i64 f3],.int .i64 wd,v] u fun e w'=>e=.returned (.tuple #[.agg #[.int .i64 0,.int .i64 0,.int .i64 0,.int .i64 0],.int .i64 1])∧Below u.heap.size u w'):=fun wd v u=>change_nil f0 f1 f2 f3 wd v u
 have HZ:=Lib.hid hz
 have HW:=Lib.hid hW
 clear hz hW hsz q0 q1 q2 r0 r1
 go_enter Tryz.func12,Tryz.ntmps12
 go_upto_region 1 with(fail)
 rw[←HW.out]
 clear HW
 go_wp2_with fail
 refine(HNM.out _).mono ?_
 rintro e w3 ⟨rfl,hb3⟩
 have HB3:=Lib.hid hb3
 clear hb3 c0_0 c0_1 c0_2 c0_3 c1_0 c1_1 c1_2 c1_3 c1_4
 obtain⟨⟨a0,a1,a2,a3⟩,b0,b1,b2,b3,b4⟩:=HCC.out _ HB3.out
 go_wp2_with fail
 refine(HFM.out _).mono ?_
 rintro e w4 ⟨rfl,hb4⟩
 have HB4:=Lib.hid (HB3.out.trans (hb4.mono HB3.out.size))
 clear hb4 a0 a1 a2 a3 b0 b1 b2 b3 b4
 obtain⟨⟨a0,a1,a2,a3⟩,b0,b1,b2,b3,b4⟩:=HCC.out _ HB4.out
 go_wp2_with fail
 refine(HHC.out _).mono ?_
 rintro e w5 ⟨b,rfl,hb5⟩
 have HB5:=Lib.hid (HB4.out.trans (hb5.mono HB4.out.size))
 have HZ5:=Lib.hid (HZ.out.below HB5.out)
 clear hb5 a0 a1 a2 a3 b0 b1 b2 b3 b4
 cases b
 ·have z0:w5.cell? ⟨w.heap.size+2,0,none⟩=some (.int .i64 0):=HZ5.out.1.cell 0
  have z1:w5.cell? ⟨w.heap.size+2,1,none⟩=some (.int .i64 0):=HZ5.out.1.cell 1
  have z2:w5.cell? ⟨w.heap.size+2,2,none⟩=some (.int .i64 0):=HZ5.out.1.cell 2
  have z3:w5.cell? ⟨w.heap.size+2,3,none⟩=some (.int .i64 0):=HZ5.out.1.cell 3
  have f0':=HZ5.out.1.free 0
  have f1':=HZ5.out.1.free 1
  have f2':=HZ5.out.1.free 2
  have f3':=HZ5.out.1.free 3
  have HZ9:=Lib.hid HZ5.out.zero
  go_wp2
  have r0:=HZ9.out.1.cell 0
  have r1:=HZ9.out.1.cell 1
  have r2:=HZ9.out.1.cell 2
  have r3:=HZ9.out.1.cell 3
  simp only[Z4,List.getElem?_cons_zero,List.getElem?_cons_succ]at r0 r1 r2 r3
  refine bodyPost_ret (v:=.tuple #[.agg #[.int .i64 0,.int .i64 0,.int .i64 0,.int .i64 0],.int .i64 1]) (by simp[results,Tryz.results12,go_sem,r0,r1,r2,r3]) rfl ?_
  exact⟨rfl,HZ9.out.2.2⟩
 ·obtain⟨⟨a0,a1,a2,a3⟩,b0,b1,b2,b3,b4⟩:=HCC.out _ HB5.out
  go_wp2_with fail
  refine(HCN.out _ _ _).mono ?_
  rintro e w6 ⟨rfl,hb6⟩
  have HZ6:=Lib.hid (HZ5.out.below hb6)
  clear hb6 a0 a1 a2 a3 b0 b1 b2 b3 b4
  have z0:w6.cell? ⟨w.heap.size+2,0,none⟩=some (.int .i64 0):=HZ6.out.1.cell 0
  have z1:w6.cell? ⟨w.heap.size+2,1,none⟩=some (.int .i64 0):=HZ6.out.1.cell 1
  have z2:w6.cell? ⟨w.heap.size+2,2,none⟩=some (.int .i64 0):=HZ6.out.1.cell 2
  have z3:w6.cell? ⟨w.heap.size+2,3,none⟩=some (.int .i64 0):=HZ6.out.1.cell 3
  have f0':=HZ6.out.1.free 0
  have f1':=HZ6.out.1.free 1
  have f2':=HZ6.out.1.free 2
  have f3':=HZ6.out.1.free 3
  have HZ9:=Lib.hid HZ6.out.zero
  go_wp2
  have r0:=HZ9.out.1.cell 0
  have r1:=HZ9.out.1.cell 1
  have r2:=HZ9.out.1.cell 2
  have r3:=HZ9.out.1.cell 3
  simp only[Z4,List.getElem?_cons_zero,List.getElem?_cons_succ]at r0 r1 r2 r3
  refine bodyPost_ret (v:=.tuple #[.agg #[.int .i64 0,.int .i64 0,.int .i64 0,.int .i64 0],.int .i64 1]) (by simp[results,Tryz.results12,go_sem,r0,r1,r2,r3]) rfl ?_
  exact⟨rfl,HZ9.out.2.2⟩
def SH(f z:Int)(W:World)(x1 x2:Nat)(v:Value)(w:World):Prop:=Below W.heap.size W w∧((v=.slice none 0 0∧∀t:Int,(x1:Int)≤t→t<(x1+x2:Nat)→¬(f≤t∧t<z))∨∃g cap a n:Nat,v=.slice (some ⟨g,0,none⟩) 1 cap∧W.heap.size≤g∧g<w.heap.size∧w.cell? ⟨g,0,none⟩=some (.int .i64 a)∧w.cell? ⟨g,1,none⟩=some (.int .i64 n)∧0<n∧x1≤a∧a+n≤x1+x2∧∀t:Int,(x1:Int)≤t→t<(x1+x2:Nat)→f≤t∧t<z→(a:Int)≤t∧t<(a+n:Nat))
theorem SH.form{f z:Int}{W w:World}{x1 x2:Nat}{v:Value}(h:SH f z W x1 x2 v w):∃A N c,v=.slice A N c:=by
 rcases h.2 with⟨rfl,_⟩|⟨g,cap,a,n,rfl,_⟩
 ·exact⟨_,_,_,rfl⟩
 ·exact⟨_,_,_,rfl⟩
theorem shared_one{A:Option Addr}{c x1 x2:Nat}{f0 f1 k count:Int}{W:World}(ho:W.ownsRow 0 106 2 (.slice A 1 c) 1 (flatX [(x1,x2)]))(hb:x1+x2≤3000000):
  Calls Tryz.prog 83 #[.slice A 1 c,.agg #[.int .i64 f0,.int .i64 f1,.int .i64 k,.int .i64 count]] W fun e w'=>∃v,e=.returned v∧SH f0 (IntKind.i64.wrap (f0+f1)) W x1 x2 v w':=by
 obtain⟨W1,hW1⟩:∃W1,W1=W.alloc (.cells #[.int .i64 f0,.int .i64 f1,.int .i64 k,.int .i64 count] 31):=⟨_,rfl⟩
 have hb1:Below W.heap.size W W1:=by rw[hW1];exact(Below.refl _ _).alloc (Nat.le_refl _) _
 have hr1:Row W1 W.heap.size 31 [.int .i64 f0,.int .i64 f1,.int .i64 k,.int .i64 count]:=by rw[hW1];exact heap_alloc_new _ _
 have HCEL:Hid (∀w,Below W1.heap.size W1 w→w.cell? ⟨W.heap.size,0,none⟩=some (.int .i64 f0)∧w.cell? ⟨W.heap.size,1,none⟩=some (.int .i64 f1)):=fun w hb=>by
  have h9:=hr1.below hb hr1.lt
  exact⟨h9.cell 0,h9.cell 1⟩
 have HX:Hid (∀w,Below W1.heap.size W1 w→∃g,A=some ⟨g,0,none⟩∧g<w.heap.size∧w.cell? ⟨g,0,none⟩=some (.int .i64 x1)∧w.cell? ⟨g,1,none⟩=some (.int .i64 x2)):=fun w hb=>by
  obtain⟨g,h1,h2,h3,h4⟩:=own2_at (i:=0) (own2_below ho (hb1.trans (hb.mono hb1.size))) (by omega)
  exact⟨g,h1,h2,h3,h4⟩
 have HFIN:Hid (∀v w,SH f0 (IntKind.i64.wrap (f0+f1)) W1 x1 x2 v w→SH f0 (IntKind.i64.wrap (f0+f1)) W x1 x2 v w):=fun v w q=>by
  refine⟨hb1.trans (q.1.mono hb1.size),q.2.imp_right ?_⟩
  rintro⟨g,cap,a,n,h1,h2,h3⟩
  exact⟨g,cap,a,n,h1,Nat.le_trans hb1.size h2,h3⟩
 obtain⟨z,hz⟩:∃z:Int,IntKind.i64.wrap (f0+f1)=z:=⟨_,rfl⟩
 rw[hz]at HFIN⊢
 have HW1:=Lib.hid hW1
 generalize hS0:W.heap.size=s0 at*
 clear hW1 hb1 hr1 ho
 go_enter Tryz.func83,Tryz.ntmps83
 go_upto_region 1 with(fail)
 rw[←HW1.out]
 clear HW1
 go_wp2_with fail
 go_loopw [5,12] (fun lv iv wr=>∃i:Nat,i≤1∧iv=.int .i64 (i:Int)∧Hid (Below W1.heap.size W1 wr)∧Hid (i=0→lv=.slice none 0 0)∧Hid (i=1→SH f0 z W1 x1 x2 lv wr)) (fun _ iv _=>1-(intOf iv).toNat)
 case atStart=>exact⟨0,Nat.zero_le _,rfl,Below.refl _ _,fun _=>rfl,fun h=>absurd h (by decide)⟩
 case round=>
  obtain⟨i,hi,rfl,HBW,HN0,HSH⟩:=hrel
  by_cases hlt:i<1
  ·obtain rfl:i=0:=by omega
   have hlv:=HN0.out rfl
   subst hlv
   clear HN0 HSH hlt
   obtain⟨g,rfl,hg,q0,q1⟩:=HX.out wr HBW.out
   obtain⟨w3,hw3⟩:∃w3,w3=wr.alloc (.cells #[.int .i64 x1,.int .i64 x2] 106):=⟨_,rfl⟩
   have hb3:Below wr.heap.size wr w3:=by rw[hw3];exact(Below.refl _ _).alloc (Nat.le_refl _) _
   have hr3:Row w3 wr.heap.size 106 [.int .i64 x1,.int .i64 x2]:=by rw[hw3];exact heap_alloc_new _ _
   have HB3:=Lib.hid (HBW.out.trans (hb3.mono HBW.out.size))
   have HB4:=Lib.hid (HB3.out.trans (below_drewN (Below.refl W1.heap.size w3) 1))
   rw[show w3.drewN 1=w3.drew from rfl]at HB4
   have⟨c0,c1⟩:=HCEL.out _ HB4.out
   have c2:w3.drew.cell? ⟨wr.heap.size,0,none⟩=some (.int .i64 x1):=hr3.cell 0
   have c3:w3.drew.cell? ⟨wr.heap.size,1,none⟩=some (.int .i64 x2):=hr3.cell 1
   obtain⟨u,hu⟩:∃u,u=x1+x2:=⟨_,rfl⟩
   obtain⟨hi9,hh⟩:∃hi9:Int,hi9=max (x1:Int) f0:=⟨_,rfl⟩
   obtain⟨lo9,hlo⟩:∃lo9:Int,lo9=min (u:Int) z:=⟨_,rfl⟩
   have s1:(x1:Int)+(x2:Int)=(u:Int):=by omega
   have m1:(if (x1:Int)<f0 then f0 else (x1:Int))=hi9:=by split<;>omega
   have m2:(if z<(u:Int)then z else (u:Int))=lo9:=by split<;>omega
   have w1:IntKind.i64.wrap (u:Int)=(u:Int):=IntWalk.i64_in _ (by omega)
   have hhb:(x1:Int)≤hi9:=by omega
   have hlb:lo9≤(u:Int):=by omega
   have hub:u≤3000000:=by omega
   have HW3:=Lib.hid hw3
   have HU:=Lib.hid hu
   clear hw3 hb3 hr3 hu
   by_cases h9:hi9<lo9
   ·have g9:decide (hi9<lo9)=true:=by simpa using h9
    obtain⟨a,ha⟩:∃a:Nat,hi9=(a:Int):=⟨hi9.toNat,by omega⟩
    obtain⟨b,hb9⟩:∃b:Nat,lo9=(b:Int):=⟨lo9.toNat,by omega⟩
    subst ha hb9
    obtain⟨n,hn⟩:∃n,n=b-a:=⟨_,rfl⟩
    have hd:(b:Int)-(a:Int)=(n:Int):=by omega
    have hn0:0<n∧n≤3000000∧a≤3000000:=by omega
    have HFI:Hid (0<n∧x1≤a∧a+n≤x1+x2∧∀t:Int,(x1:Int)≤t→t<(x1+x2:Nat)→f0≤t∧t<z→(a:Int)≤t∧t<(a+n:Nat)):=by have:=HU.out;exact⟨by omega,by omega,by omega,fun t h1 h2 ⟨h3,h4⟩=>by have:=hh;have:=hlo;omega⟩
    clear hn h9 hh hlo
    go_upto_region 5 with(fail)
    rw[←HW3.out]
    go_region_held3 (fun w=>w.cell? ⟨s0,0,none⟩=some (.int .i64 f0)∧w.cell? ⟨s0,1,none⟩=some (.int .i64 f1)∧w.cell? ⟨wr.heap.size,0,none⟩=some (.int .i64 x1)∧w.cell? ⟨wr.heap.size,1,none⟩=some (.int .i64 x2)) (with_reducible exact⟨c0,c1,c2,c3⟩) (fail)
    all_goals
     clear c0 c1 c2 c3 s1 m1 m2 w1
     generalize w3.drew=w4 at*
     have hb5:=HB4.out.alloc HB4.out.size (.cells #[.int .i64 a,.int .i64 n] 106)
     have hr5:Row (w4.alloc (.cells #[.int .i64 a,.int .i64 n] 106)) w4.heap.size 106 [.int .i64 a,.int .i64 n]:=heap_alloc_new _ _
     have HB5:=Lib.hid hb5
     have HR5:=Lib.hid hr5
     clear hb5 hr5
     go_wp2_with (with_reducible refine stopAt 42 ?_)
     unfold Hid
     obtain⟨i0,hi0,hz0,hz1,hzb⟩:=ext_info
     refine wpList_append_own_at _ rfl _ _ 107 rfl W1.heap.size 106 i0 _ 2 16 Tryz.underlying107 hi0 hz0 hz1 hzb rfl (by decide) (.slice none 0 0) 0 [] rfl ⟨rfl,.inl ⟨rfl,rfl⟩⟩ ⟨w4.heap.size,0,none⟩ 1 1 [.int .i64 a,.int .i64 n] rfl rfl (fun j y hj=>by rw[←hj,addr_add0];exact HR5.out.cell j) (fun u hu=>by simp at hu;rcases hu with rfl|rfl<;>rfl) (by decide) (by decide) HB5.out.size ?_
     intro v9 w9 hown hgr _ hat
     have HSH9:Hid (SH f0 z W1 x1 x2 v9 w9):=by
      have hfar:Far (fun k=>(Value.slice none 0 0).ownBlock=some k) (w4.alloc (.cells #[.int .i64 a,.int .i64 n] 106)) w9:=(Far.refl _ _).grown hgr fun k hk=>.inl hk
      have hbw:=hfar.below HB5.out.size (fun k hk=>by cases hk)
      refine⟨HB5.out.trans hbw,.inr ?_⟩
      rcases hown.2 with⟨_,h0⟩|⟨g9,cap9,cur,rfl,hg9,hh9,hcap9,hm9,hs9,ht9⟩
      ·exact absurd h0 (by decide)
      ·have ho9:w9.ownsRow 0 106 2 (.slice (some ⟨g9,0,none⟩) 1 cap9) 1 (flatX [(a,n)]):=⟨rfl,.inr ⟨g9,cap9,cur,rfl,Nat.zero_le _,hh9,hcap9,hm9,hs9,ht9⟩⟩
       obtain⟨g',e1,e2,e3,e4⟩:=own2_at (i:=0) ho9 (by omega)
       injection e1 with e1
       injection e1 with e1 _
       subst e1
       exact⟨g9,cap9,a,n,rfl,hg9,e2,e3,e4,HFI.out⟩
     clear hown hgr hat
     go_wp2
     go_roundw
     case rel=>exact⟨1,by omega,by go_num,HSH9.out.1,fun h=>absurd h (by omega),fun _=>HSH9.out⟩
     case measure=>simp[intOf]
   ·have g9:decide (hi9<lo9)=false:=by simpa using h9
    have HNO:Hid (∀t:Int,(x1:Int)≤t→t<(x1+x2:Nat)→¬(f0≤t∧t<z)):=fun t h1 h2 ⟨h3,h4⟩=>by have:=HU.out;omega
    clear h9 hh hlo
    go_upto_region 5 with(fail)
    rw[←HW3.out]
    go_region_held3 (fun w=>w.cell? ⟨s0,0,none⟩=some (.int .i64 f0)∧w.cell? ⟨s0,1,none⟩=some (.int .i64 f1)∧w.cell? ⟨wr.heap.size,0,none⟩=some (.int .i64 x1)∧w.cell? ⟨wr.heap.size,1,none⟩=some (.int .i64 x2)) (with_reducible exact⟨c0,c1,c2,c3⟩) (fail)
    all_goals
     have HSH9:Hid (SH f0 z W1 x1 x2 (.slice none 0 0) w3.drew):=⟨HB4.out,.inl ⟨rfl,HNO.out⟩⟩
     clear c0 c1 c2 c3 s1 m1 m2 w1
     go_wp2
     go_roundw
     case rel=>exact⟨1,by omega,by go_num,HSH9.out.1,fun h=>absurd h (by omega),fun _=>HSH9.out⟩
     case measure=>simp[intOf]
  ·obtain rfl:i=1:=by omega
   go_wp2
   go_ret
   exact⟨_,rfl,HFIN.out _ _ (HSH.out (by trivial))⟩
theorem shared_far{A:Option Addr}{n c:Nat}{first nb k count z:Int}{l:List Ex}{W:World}(hz:IntKind.i64.wrap (first+nb)=z)(ho:W.ownsRow 0 106 2 (.slice A n c) n (flatX l))(hn:n≤1000000)(hb:∀i,i<n→(xAt l i).1+(xAt l i).2≤3000000)(hno:∀i,i<n→∀t:Int,((xAt l i).1:Int)≤t→t<((xAt l i).1+(xAt l i).2:Nat)→¬(first≤t∧t<z)):
  Calls Tryz.prog 83 #[.slice A n c,.agg #[.int .i64 first,.int .i64 nb,.int .i64 k,.int .i64 count]] W fun e w'=>e=.returned (.slice none 0 0)∧Below W.heap.size W w':=by
 obtain⟨W1,hW1⟩:∃W1,W1=W.alloc (.cells #[.int .i64 first,.int .i64 nb,.int .i64 k,.int .i64 count] 31):=⟨_,rfl⟩
 have hb1:Below W.heap.size W W1:=by rw[hW1];exact(Below.refl _ _).alloc (Nat.le_refl _) _
 have hr1:Row W1 W.heap.size 31 [.int .i64 first,.int .i64 nb,.int .i64 k,.int .i64 count]:=by rw[hW1];exact heap_alloc_new _ _
 have HCEL:Hid (∀w,Below W1.heap.size W1 w→w.cell? ⟨W.heap.size,0,none⟩=some (.int .i64 first)∧w.cell? ⟨W.heap.size,1,none⟩=some (.int .i64 nb)):=fun w hb=>by
  have h9:=hr1.below hb hr1.lt
  exact⟨h9.cell 0,h9.cell 1⟩
 have HX:Hid (∀w i,Below W1.heap.size W1 w→i<n→∃g,A=some ⟨g,0,none⟩∧g<w.heap.size∧w.cell? ⟨g,i*2,none⟩=some (.int .i64 (xAt l i).1)∧w.cell? ⟨g,i*2+1,none⟩=some (.int .i64 (xAt l i).2)):=fun w i hb hi=>by
  exact own2_at (own2_below ho (hb1.trans (hb.mono hb1.size))) hi
 have HFIN:Hid (∀w,Below W1.heap.size W1 w→Below W.heap.size W w):=fun w hb=>hb1.trans (hb.mono hb1.size)
 have HB:=Lib.hid hb
 have HNO:=Lib.hid hno
 have HW1:=Lib.hid hW1
 generalize hS0:W.heap.size=s0 at*
 clear hW1 hb1 hr1 hb hno ho
 go_enter Tryz.func83,Tryz.ntmps83
 go_upto_region 1 with(fail)
 rw[←HW1.out]
 clear HW1
 go_wp2_with fail
 go_loopw [5,12] (fun lv iv wr=>lv=.slice none 0 0∧∃i:Nat,i≤n∧iv=.int .i64 (i:Int)∧Hid (Below W1.heap.size W1 wr)) (fun _ iv _=>n-(intOf iv).toNat)
 case atStart=>exact⟨rfl,0,Nat.zero_le _,rfl,Below.refl _ _⟩
 case round=>
  obtain⟨rfl,i,hi,rfl,HBW⟩:=hrel
  by_cases hlt:i<n
  ·have g0:decide ((i:Int)<(n:Int))=true:=by simpa using hlt
   have hi0:(0:Int)≤(i:Int):=by omega
   have hi1:(i:Int)<(n:Int):=by omega
   obtain⟨g,rfl,hg,q0,q1⟩:=HX.out wr i HBW.out hlt
   have hs:=HB.out i hlt
   have hq:=HNO.out i hlt
   generalize(xAt l i).1=x1 at*
   generalize(xAt l i).2=x2 at*
   obtain⟨w3,hw3⟩:∃w3,w3=wr.alloc (.cells #[.int .i64 x1,.int .i64 x2] 106):=⟨_,rfl⟩
   have hb3:Below wr.heap.size wr w3:=by rw[hw3];exact(Below.refl _ _).alloc (Nat.le_refl _) _
   have hr3:Row w3 wr.heap.size 106 [.int .i64 x1,.int .i64 x2]:=by rw[hw3];exact heap_alloc_new _ _
   have HB3:=Lib.hid (HBW.out.trans (hb3.mono HBW.out.size))
   have HB4:=Lib.hid (HB3.out.trans (below_drewN (Below.refl W1.heap.size w3) 1))
   rw[show w3.drewN 1=w3.drew from rfl]at HB4
   have⟨c0,c1⟩:=HCEL.out _ HB4.out
   have c2:w3.drew.cell? ⟨wr.heap.size,0,none⟩=some (.int .i64 x1):=hr3.cell 0
   have c3:w3.drew.cell? ⟨wr.heap.size,1,none⟩=some (.int .i64 x2):=hr3.cell 1
   obtain⟨u,hu⟩:∃u,u=x1+x2:=⟨_,rfl⟩
   obtain⟨hi9,hh⟩:∃hi9:Int,hi9=max (x1:Int) first:=⟨_,rfl⟩
   obtain⟨lo9,hlo⟩:∃lo9:Int,lo9=min (u:Int) z:=⟨_,rfl⟩
   have hlt9:¬hi9<lo9:=fun hc=>hq hi9 (by omega) (by omega) ⟨by omega,by omega⟩
   have s1:(x1:Int)+(x2:Int)=(u:Int):=by omega
   have m1:(if (x1:Int)<first then first else (x1:Int))=hi9:=by split<;>omega
   have m2:(if z<(u:Int)then z else (u:Int))=lo9:=by split<;>omega
   have g9:decide (hi9<lo9)=false:=by simp;omega
   have w1:IntKind.i64.wrap (u:Int)=(u:Int):=IntWalk.i64_in _ (by omega)
   have HW3:=Lib.hid hw3
   clear hw3 hb3 hr3 hs hq hu hh hlo
   go_upto_region 5 with(fail)
   rw[←HW3.out]
   go_region_held3 (fun w=>w.cell? ⟨s0,0,none⟩=some (.int .i64 first)∧w.cell? ⟨s0,1,none⟩=some (.int .i64 nb)∧w.cell? ⟨wr.heap.size,0,none⟩=some (.int .i64 x1)∧w.cell? ⟨wr.heap.size,1,none⟩=some (.int .i64 x2)) (with_reducible exact⟨c0,c1,c2,c3⟩) (fail)
   all_goals
    clear c0 c1 c2 c3 s1 m1 m2 w1
    go_wp2
    go_roundw
    case rel=>exact⟨rfl,i+1,by omega,by go_num,HB4.out⟩
    case measure=>simp[intOf];omega
  ·obtain rfl:i=n:=by omega
   have g0:decide ((i:Int)<(i:Int))=false:=by simp
   go_wp2
   go_ret
   exact⟨rfl,HFIN.out _ HBW.out⟩
theorem blks_far(k h c:Nat)(w:World)(hh:2≤h)(hh2:h≤254)(hc:c≤9223372036854775807):Calls Tryz.prog 60 #[.agg #[.int .i64 k,.int .i64 h],.int .i64 c] w fun e w'=>e=.returned (.int .i64 (blocksN h c:Nat))∧Below w.heap.size w w':=by
 have HB:=Lib.hid ((Below.refl w.heap.size w).alloc (Nat.le_refl _) (.cells #[.int .i64 k,.int .i64 h] 120))
 have hq:Int.tdiv (c:Int) (h:Int)=((c/h:Nat):Int):=rfl
 have ht:Int.tmod (c:Int) (h:Int)=((c%h:Nat):Int):=rfl
 have hh0:¬((h:Int)=0):=by omega
 have hql:2*(c/h)≤c:=by
  have h1:=Nat.div_mul_le_self c h
  have h2:2*(c/h)≤h*(c/h):=Nat.mul_le_mul_right _ hh
  rw[Nat.mul_comm]at h1
  omega
 have hml:c%h<h:=Nat.mod_lt _ (by omega)
 by_cases hm:0<c%h
 ·have HE:Hid (blocksN h c=c/h+1):=by unfold Hid blocksN;rw[if_pos hm]
  rw[HE.out]
  have g1:decide (((c%h:Nat):Int)>0)=true:=by simp;omega
  clear HE hh
  generalize c/h=q at*
  generalize c%h=m at*
  go_enter Tryz.func60,Tryz.ntmps60
  go_wp2
  go_ret
  exact⟨by rfl,HB.out⟩
 ·have HE:Hid (blocksN h c=c/h):=by unfold Hid blocksN;rw[if_neg hm]
  rw[HE.out]
  have g1:decide (((c%h:Nat):Int)>0)=false:=by simp;omega
  clear HE hh
  generalize c/h=q at*
  generalize c%h=m at*
  go_enter Tryz.func60,Tryz.ntmps60
  go_wp2
  go_ret
  exact⟨rfl,HB.out⟩
theorem fread_arg{w:World}{G:Nat→Prop}{p:Wp}{F:Fs}{n:Nat}(h:Sys w G p F n)(f0 f1 f2 f3:Int)(hf3:f3≤9223372036854775807)(hno:holdsI F.D.size f2=0∨f3<0∨(2≤holdsI F.D.size f2∧f1≠(blocksN (holdsI F.D.size f2) f3.toNat:Nat))):
  Calls Tryz.prog 39 #[.pointer (some ⟨p.w,0,none⟩),.agg #[.int .i64 f0,.int .i64 f1,.int .i64 f2,.int .i64 f3]] w fun e w'=>e=.returned (.tuple #[.pointer none,.int .i64 1])∧Below w.heap.size w w':=by
 have hsz:=h.size
 have hb0:=(Below.refl w.heap.size w).alloc (Nat.le_refl _) (.cells #[.int .i64 f0,.int .i64 f1,.int .i64 f2,.int .i64 f3] 31)
 have hr0:Row (w.alloc (.cells #[.int .i64 f0,.int .i64 f1,.int .i64 f2,.int .i64 f3] 31)) w.heap.size 31 [.int .i64 f0,.int .i64 f1,.int .i64 f2,.int .i64 f3]:=heap_alloc_new _ _
 have hshp:=shape_any (h.below hb0) f2
 have hle:=holds_le F.D.size f2
 have hwd:holdsI F.D.size f2≠0→1≤f2∧f2≤5:=fun hz=>by
  unfold holdsI at hz
  split at hz
  ·exact absurd rfl hz
  ·omega
 obtain⟨hh,hhe⟩:∃hh,hh=holdsI F.D.size f2:=⟨_,rfl⟩
 rw[←hhe]at hshp hno hwd hle
 have hh254:hh≤254:=by omega
 have HS:=Lib.hid hshp
 have HB0:=Lib.hid hb0
 have HR0:=Lib.hid hr0
 clear h hshp hb0 hr0 hhe hsz hle
 by_cases hz:hh=0
 ·have g0:((hh:Int)==0)=true:=by simp[hz]
  clear hno hwd hz
  go_enter Tryz.func39,Tryz.ntmps39
  go_wp2_with fail
  refine HS.out.mono ?_;rintro e w1 ⟨rfl,hb1⟩
  have hb2:=hb1.alloc hb1.size (.cells #[.int .i64 f2,.int .i64 hh] 120)
  have hrs:Row (w1.alloc (.cells #[.int .i64 f2,.int .i64 hh] 120)) w1.heap.size 120 [.int .i64 f2,.int .i64 hh]:=heap_alloc_new _ _
  have hrf:=HR0.out.below hb2 HR0.out.lt
  have HB2:=Lib.hid (HB0.out.trans (hb2.mono HB0.out.size))
  clear hb1 hb2 HB0 HR0 HS
  have HRS:=Lib.hid hrs
  have HRF:=Lib.hid hrf
  clear hrs hrf
  have k0:∀d os,(Sort.grow (redrawn (w1.alloc (.cells #[.int .i64 f2,.int .i64 hh] 120)) d) os).cell? ⟨w1.heap.size,0,none⟩=some (.int .i64 f2):=cell_regrown (HRS.out.cell 0)
  have k1:∀d os,(Sort.grow (redrawn (w1.alloc (.cells #[.int .i64 f2,.int .i64 hh] 120)) d) os).cell? ⟨w1.heap.size,1,none⟩=some (.int .i64 hh):=cell_regrown (HRS.out.cell 1)
  have k2:∀d os,(Sort.grow (redrawn (w1.alloc (.cells #[.int .i64 f2,.int .i64 hh] 120)) d) os).cell? ⟨w.heap.size,1,none⟩=some (.int .i64 f1):=cell_regrown (HRF.out.cell 1)
  have k3:∀d os,(Sort.grow (redrawn (w1.alloc (.cells #[.int .i64 f2,.int .i64 hh] 120)) d) os).cell? ⟨w.heap.size,3,none⟩=some (.int .i64 f3):=cell_regrown (HRF.out.cell 3)
  go_wp2
  refine wp_region_quiet_below (by kernel_rfl) (by kernel_rfl) ?_
  repeat(any_goals(first|go_big_quiet_step (fail)|quiet_step (fail)))
  refine wpQuiet_nil ?_
  intro w5 hw5
  obtain⟨⟨dq,osq⟩,hw5⟩:=hw5
  have hbw5:=below_regrown (w1.alloc (.cells #[.int .i64 f2,.int .i64 hh] 120)) dq osq
  rw[←hw5]at hbw5
  clear hw5
  have HB5:=Lib.hid (HB2.out.trans (hbw5.mono HB2.out.size))
  clear hbw5 k0 k1 k2 k3 HRS HRF HB2
  go_wp2
  go_ret2
  exact⟨rfl,HB5.out⟩
 ·have g0:((hh:Int)==0)=false:=by simp;omega
  by_cases hn:f3<0
  ·have g1:decide (f3<0)=true:=by simpa using hn
   clear hno hwd hz hn
   go_enter Tryz.func39,Tryz.ntmps39
   go_wp2_with fail
   refine HS.out.mono ?_;rintro e w1 ⟨rfl,hb1⟩
   have hb2:=hb1.alloc hb1.size (.cells #[.int .i64 f2,.int .i64 hh] 120)
   have hrs:Row (w1.alloc (.cells #[.int .i64 f2,.int .i64 hh] 120)) w1.heap.size 120 [.int .i64 f2,.int .i64 hh]:=heap_alloc_new _ _
   have hrf:=HR0.out.below hb2 HR0.out.lt
   have HB2:=Lib.hid (HB0.out.trans (hb2.mono HB0.out.size))
   clear hb1 hb2 HB0 HR0 HS
   have HRS:=Lib.hid hrs
   have HRF:=Lib.hid hrf
   clear hrs hrf
   have k0:∀d os,(Sort.grow (redrawn (w1.alloc (.cells #[.int .i64 f2,.int .i64 hh] 120)) d) os).cell? ⟨w1.heap.size,0,none⟩=some (.int .i64 f2):=cell_regrown (HRS.out.cell 0)
   have k1:∀d os,(Sort.grow (redrawn (w1.alloc (.cells #[.int .i64 f2,.int .i64 hh] 120)) d) os).cell? ⟨w1.heap.size,1,none⟩=some (.int .i64 hh):=cell_regrown (HRS.out.cell 1)
   have k2:∀d os,(Sort.grow (redrawn (w1.alloc (.cells #[.int .i64 f2,.int .i64 hh] 120)) d) os).cell? ⟨w.heap.size,1,none⟩=some (.int .i64 f1):=cell_regrown (HRF.out.cell 1)
   have k3:∀d os,(Sort.grow (redrawn (w1.alloc (.cells #[.int .i64 f2,.int .i64 hh] 120)) d) os).cell? ⟨w.heap.size,3,none⟩=some (.int .i64 f3):=cell_regrown (HRF.out.cell 3)
   go_wp2
   refine wp_region_quiet_below (by kernel_rfl) (by kernel_rfl) ?_
   repeat(any_goals(first|go_big_quiet_step (fail)|quiet_step (fail)))
   refine wpQuiet_nil ?_
   intro w5 hw5
   obtain⟨⟨dq,osq⟩,hw5⟩:=hw5
   have hbw5:=below_regrown (w1.alloc (.cells #[.int .i64 f2,.int .i64 hh] 120)) dq osq
   rw[←hw5]at hbw5
   clear hw5
   have HB5:=Lib.hid (HB2.out.trans (hbw5.mono HB2.out.size))
   clear hbw5 k0 k1 k2 k3 HRS HRF HB2
   go_wp2
   go_ret2
   exact⟨rfl,HB5.out⟩
  ·have g1:decide (f3<0)=false:=by simp;omega
   obtain⟨h2,hne⟩:2≤hh∧f1≠(blocksN hh f3.toNat:Nat):=by
    rcases hno with h0|h0|h0
    ·exact absurd h0 hz
    ·exact absurd h0 hn
    ·exact h0
   obtain⟨k,hk⟩:∃k:Nat,f2=k:=⟨f2.toNat,by have:=hwd hz;omega⟩
   obtain⟨c,hc⟩:∃c:Nat,f3=c:=⟨f3.toNat,by omega⟩
   have hbl:∀W,Calls Tryz.prog 60 #[.agg #[.int .i64 f2,.int .i64 hh],.int .i64 f3] W fun e w'=>e=.returned (.int .i64 (blocksN hh f3.toNat:Nat))∧Below W.heap.size W w':=fun W=>by
    subst hk hc
    exact blks_far k hh c W h2 hh254 (by omega)
   obtain⟨nb,hnb⟩:∃nb,nb=blocksN hh f3.toNat:=⟨_,rfl⟩
   rw[←hnb]at hbl hne
   have g2:(f1 !=(nb:Int))=true:=by simpa using hne
   have HBL:=Lib.hid hbl
   clear hno hwd hz hn hbl hne hk hc hnb
   go_enter Tryz.func39,Tryz.ntmps39
   go_wp2_with fail
   refine HS.out.mono ?_;rintro e w1 ⟨rfl,hb1⟩
   have hb2:=hb1.alloc hb1.size (.cells #[.int .i64 f2,.int .i64 hh] 120)
   have hrs:Row (w1.alloc (.cells #[.int .i64 f2,.int .i64 hh] 120)) w1.heap.size 120 [.int .i64 f2,.int .i64 hh]:=heap_alloc_new _ _
   have hrf:=HR0.out.below hb2 HR0.out.lt
   have HB2:=Lib.hid (HB0.out.trans (hb2.mono HB0.out.size))
   clear hb1 hb2 HB0 HR0 HS
   have HRS:=Lib.hid hrs
   have HRF:=Lib.hid hrf
   clear hrs hrf
   have k0:∀d os,(Sort.grow (redrawn (w1.alloc (.cells #[.int .i64 f2,.int .i64 hh] 120)) d) os).cell? ⟨w1.heap.size,0,none⟩=some (.int .i64 f2):=cell_regrown (HRS.out.cell 0)
   have k1:∀d os,(Sort.grow (redrawn (w1.alloc (.cells #[.int .i64 f2,.int .i64 hh] 120)) d) os).cell? ⟨w1.heap.size,1,none⟩=some (.int .i64 hh):=cell_regrown (HRS.out.cell 1)
   have k2:∀d os,(Sort.grow (redrawn (w1.alloc (.cells #[.int .i64 f2,.int .i64 hh] 120)) d) os).cell? ⟨w.heap.size,1,none⟩=some (.int .i64 f1):=cell_regrown (HRF.out.cell 1)
   have k3:∀d os,(Sort.grow (redrawn (w1.alloc (.cells #[.int .i64 f2,.int .i64 hh] 120)) d) os).cell? ⟨w.heap.size,3,none⟩=some (.int .i64 f3):=cell_regrown (HRF.out.cell 3)
   have Q1:Hid (∀d os,Calls Tryz.prog 60 #[.agg #[.int .i64 f2,.int .i64 hh],.int .i64 f3] (Sort.grow (redrawn (w1.alloc (.cells #[.int .i64 f2,.int .i64 hh] 120)) d) os) fun e w''=>e=.returned (.int .i64 nb)∧∃p:Regrown,w''=Sort.grow (redrawn (w1.alloc (.cells #[.int .i64 f2,.int .i64 hh] 120)) p.d) p.os):=fun d os=>Calls.regrown_of (HBL.out _)
   go_wp2
   refine wp_region_quiet_below (by kernel_rfl) (by kernel_rfl) ?_
   repeat(any_goals(first|go_big_quiet_step (with_reducible exact Q1.out _ _)|quiet_step (with_reducible exact Q1.out _ _)))
   refine wpQuiet_nil ?_
   intro w5 hw5
   obtain⟨⟨dq,osq⟩,hw5⟩:=hw5
   have hbw5:=below_regrown (w1.alloc (.cells #[.int .i64 f2,.int .i64 hh] 120)) dq osq
   rw[←hw5]at hbw5
   clear hw5
   have HB5:=Lib.hid (HB2.out.trans (hbw5.mono HB2.out.size))
   clear hbw5 Q1 k0 k1 k2 k3 HRS HRF HB2
   go_wp2
   go_ret2
   exact⟨rfl,HB5.out⟩
section
variable {X : Cx} {os : List Asn} {m i : Nat} {W W' : World} {G : Nat → Prop} {D : St} {A : Ar} {S : Sp} {first nb k hh count : Nat} {l : List Tup}
def Ar0(W w:World)(a:Nat):Prop:=Below W.heap.size W w∧W.heap.size≤a∧Arn w (fun k=>k=a) a (empty 0)
theorem Ar0.below{W w w':World}{a:Nat}(h:Ar0 W w a)(hb:Below w.heap.size w w'):Ar0 W w' a:=
 ⟨h.1.trans (hb.mono h.1.size),h.2.1,h.2.2.far (Far.of_below hb fun _=>False) (fun _ _ h=>h) (fun _ _ h=>h)⟩
theorem sys_new{w:World}{a wp n:Nat}{p:Wp}(h:Sys W G p ⟨D,A,S⟩ n)(h0:Ar0 W w a)(hr:Row w wp 83 [ptr p.d,ptr a,ptr p.s])(hw:W.heap.size≤wp∧wp≠a):∃G',Sys w G' ⟨wp,p.d,a,p.s⟩ ⟨D,empty 0,S⟩ n:=by
 have hlt:=fun k hk=>h.lt (k:=k) hk
 obtain⟨hb,ha0,ha⟩:=h0
 obtain⟨Gd,Ga,Gs,hrw,hd,ha2,hs,hg,h1,h2,h3,h4⟩:=h.below hb
 have hG:∀k,Gd k∨Gs k→k<W.heap.size:=fun k hk=>hlt k ((hg k).2 (hk.elim (fun h=>.inr (.inl h)) fun h=>.inr (.inr (.inr h))))
 refine⟨fun k=>k=wp∨Gd k∨k=a∨Gs k,Gd,fun k=>k=a,Gs,hr,hd,ha,hs,fun k=>Iff.rfl,fun k hk=>⟨fun e=>?_,(h1 k hk).2.1,fun e=>?_⟩,fun k hk=>⟨fun hk2=>?_,fun e=>?_⟩,fun k hk e=>?_,fun q hq=>by cases hq⟩
 ·have e:k=a:=e
  have:=hG k (.inl hk);omega
 ·have e:k=wp:=e
  have:=hG k (.inl hk);omega
 ·have hk:k=a:=hk
  have:=hG k (.inr hk2);omega
 ·have hk:k=a:=hk
  have e:k=wp:=e
  omega
 ·have e:k=wp:=e
  have:=hG k (.inr hk);omega
end
section
variable {X : Cx} {os : List Asn} {m : Nat} {W : World}
theorem jcanbe_arg{f0 f1 f2 f3:Int}(h:Wd X os m W)(hf3:f3≤9223372036854775807)(hno:holdsI X.sz f2=0∨f3<0∨(2≤holdsI X.sz f2∧f1≠(blocksN (holdsI X.sz f2) f3.toNat:Nat))):
  Calls Tryz.prog 45 #[.pointer (some ⟨X.p.w,0,none⟩),.agg #[.int .i64 f0,.int .i64 f1,.int .i64 f2,.int .i64 f3]] W fun e w'=>e=.returned (.bool false)∧Below W.heap.size W w':=by
 obtain⟨W1,hW1⟩:∃W1,W1=W.alloc (.cells #[.int .i64 f0,.int .i64 f1,.int .i64 f2,.int .i64 f3] 31):=⟨_,rfl⟩
 have hb1:Below W.heap.size W W1:=by rw[hW1];exact(Below.refl _ _).alloc (Nat.le_refl _) _
 have hr1:Row W1 W.heap.size 31 [.int .i64 f0,.int .i64 f1,.int .i64 f2,.int .i64 f3]:=by rw[hW1];exact heap_alloc_new _ _
 obtain⟨G,D,A,S,hF⟩:=h
 have h1:=hF.below hb1
 have HDV:Hid (∀w,Below W1.heap.size W1 w→Calls Tryz.prog 17 #[.pointer (some ⟨X.p.w,0,none⟩)] w fun e w'=>e=.returned (.pointer (some ⟨X.p.d,0,none⟩))∧w'=w):=fun w hb=>wd_dev ⟨G,D,A,S,h1.below hb⟩
 have HSP:Hid (∀w,Below W1.heap.size W1 w→Calls Tryz.prog 37 #[.pointer (some ⟨X.p.w,0,none⟩)] w fun e w'=>e=.returned (.pointer (some ⟨X.p.s,0,none⟩))∧w'=w):=fun w hb=>wd_spc ⟨G,D,A,S,h1.below hb⟩
 have HAN:Hid (∀w,Below W1.heap.size W1 w→Calls Tryz.prog 24 #[.int .i64 0] w fun e w'=>∃a,e=.returned (.pointer (some ⟨a,0,none⟩))∧Ar0 W1 w' a):=fun w hb=>by
  refine(arnew_any 0 w (by omega) (by omega)).mono ?_
  rintro e w' ⟨he,ha,hb2⟩
  exact⟨w.heap.size,he,hb.trans (hb2.mono hb.size),hb.size,ha⟩
 have HFN:Hid (∀w a,Ar0 W1 w a→Calls Tryz.prog 23 #[.pointer (some ⟨X.p.d,0,none⟩),.pointer (some ⟨a,0,none⟩),.pointer (some ⟨X.p.s,0,none⟩)] w fun e w'=>∃wp,e=.returned (.pointer (some ⟨wp,0,none⟩))∧Ar0 W1 w' a∧Row w' wp 83 [ptr X.p.d,ptr a,ptr X.p.s]∧W1.heap.size≤wp∧wp≠a):=fun w a h0=>by
  refine(fnew_any X.p.d a X.p.s w).mono ?_
  rintro e w' ⟨he,rfl⟩
  have hal:a<w.heap.size:=h0.2.2.lt rfl
  exact⟨w.heap.size,he,h0.below ((Below.refl _ _).alloc (Nat.le_refl _) _),heap_alloc_new _ _,h0.1.size,by omega⟩
 have HRD:Hid (∀w a wp,Ar0 W1 w a→Row w wp 83 [ptr X.p.d,ptr a,ptr X.p.s]→W1.heap.size≤wp→wp≠a→Calls Tryz.prog 39 #[.pointer (some ⟨wp,0,none⟩),.agg #[.int .i64 f0,.int .i64 f1,.int .i64 f2,.int .i64 f3]] w fun e w'=>e=.returned (.tuple #[.pointer none,.int .i64 1])∧Below W1.heap.size W1 w'):=fun w a wp h0 hr hw hne=>by
  obtain⟨G',hsys⟩:=sys_new h1.sys h0 hr ⟨hw,hne⟩
  have hds:D.size=X.sz:=hF.size
  refine(fread_arg hsys f0 f1 f2 f3 hf3 (by show holdsI D.size f2=0∨f3<0∨(2≤holdsI D.size f2∧f1≠(blocksN (holdsI D.size f2) f3.toNat:Nat));rw[hds];exact hno)).mono ?_
  rintro e w' ⟨he,hb⟩
  exact⟨he,h0.1.trans (hb.mono h0.1.size)⟩
 have HCEL:Hid (∀w,Below W1.heap.size W1 w→w.cell? ⟨W.heap.size,0,none⟩=some (.int .i64 f0)∧w.cell? ⟨W.heap.size,1,none⟩=some (.int .i64 f1)∧w.cell? ⟨W.heap.size,2,none⟩=some (.int .i64 f2)∧w.cell? ⟨W.heap.size,3,none⟩=some (.int .i64 f3)):=fun w hb=>by
  have h9:=hr1.below hb hr1.lt
  exact⟨h9.cell 0,h9.cell 1,h9.cell 2,h9.cell 3⟩
 have HFIN:Hid (∀w,Below W1.heap.size W1 w→Below W.heap.size W w):=fun w hb=>hb1.trans (hb.mono hb1.size)
 have hb0:Below W1.heap.size W1 W1.drew:=below_drew (Below.refl _ _)
 have q0:=HCEL.out _ hb0
 have HW1:=Lib.hid hW1
 generalize hS0:W.heap.size=s0 at*
 clear hW1 hb1 hr1 hF h1 hno hf3
 go_enter Tryz.func45,Tryz.ntmps45
 go_upto_region 1 with(fail)
 rw[←HW1.out]
 clear HW1
 go_region_held3 (fun w=>w.cell? ⟨s0,0,none⟩=some (.int .i64 f0)∧w.cell? ⟨s0,1,none⟩=some (.int .i64 f1)∧w.cell? ⟨s0,2,none⟩=some (.int .i64 f2)∧w.cell? ⟨s0,3,none⟩=some (.int .i64 f3)) (first|with_reducible exact q0|with_reducible exact q5|with_reducible exact q6|with_reducible exact q7)
  (first
   |(go_at_call 17;(with_reducible refine(HDV.out _ (by first|with_reducible exact hb0|with_reducible exact hb5)).mono ?_);rintro e w4 ⟨rfl,rfl⟩)
   |(go_at_call 37;(with_reducible refine(HSP.out _ (by first|with_reducible exact hb0|with_reducible exact hb5)).mono ?_);rintro e w4 ⟨rfl,rfl⟩)
   |(go_at_call 24;(with_reducible refine(HAN.out _ hb0).mono ?_);rintro e w5 ⟨a,rfl,h5⟩;have hb5:=h5.1;have q5:=HCEL.out w5 hb5;have q6:=q5;have q7:=q5)
   |(go_at_call 23;(with_reducible refine(HFN.out _ _ h5).mono ?_);rintro e w6 ⟨wp,rfl,h6,hr6,hw6,hn6⟩;have q6:=HCEL.out w6 h6.1)
   |(go_at_call 39;(with_reducible refine(HRD.out _ _ _ h6 hr6 hw6 hn6).mono ?_);rintro e w7 ⟨rfl,hb7⟩;have q7:=HCEL.out w7 hb7))
 all_goals
  have H9:=Lib.hid (HFIN.out _ hb7)
  clear hb7 q7 q6 q5 q0 h6 hr6 hw6 hn6 h5 hb5 hb0
  go_wp2
  go_ret
  exact⟨rfl,by rw[hS0]at*;exact H9.out⟩
end
theorem change_arg(pv:Value)(f0 f1 f2 f3 wd:Int)(v:Value)(w:World)(hrd:∀u,Below w.heap.size w u→Calls Tryz.prog 39 #[pv,.agg #[.int .i64 f0,.int .i64 f1,.int .i64 f2,.int .i64 f3]] u fun e w'=>e=.returned (.tuple #[.pointer none,.int .i64 1])∧Below u.heap.size u w'):Calls Tryz.prog 32 #[pv,.agg #[.int .i64 f0,.int .i64 f1,.int .i64 f2,.int .i64 f3],.int .i64 wd,v] w fun e w'=>e=.returned (.tuple #[.agg #[.int .i64 0,.int .i64 0,.int .i64 0,.int .i64 0],.int .i64 1])∧Below w.heap.size w w':=by
 have hb0:=(Below.refl w.heap.size w).alloc (Nat.le_refl _) (.cells #[.int .i64 f0,.int .i64 f1,.int .i64 f2,.int .i64 f3] 31)
 obtain⟨W2,hW2⟩:∃W2,W2=(w.alloc (.cells #[.int .i64 f0,.int .i64 f1,.int .i64 f2,.int .i64 f3] 31)).alloc (.cells #[.int .i64 0,.int .i64 0,.int .i64 0,.int .i64 0] 31):=⟨_,rfl⟩
 have hz:ZR w (w.heap.size+1) W2:=by
  have:=ZR.mk hb0
  rw[←hW2,show (w.alloc (.cells #[.int .i64 f0,.int .i64 f1,.int .i64 f2,.int .i64 f3] 31)).heap.size=w.heap.size+1 by simp]at this
  exact this
 have hr:Row W2 w.heap.size 31 [.int .i64 f0,.int .i64 f1,.int .i64 f2,.int .i64 f3]:=by
  have q:Row (w.alloc (.cells #[.int .i64 f0,.int .i64 f1,.int .i64 f2,.int .i64 f3] 31)) w.heap.size 31 [.int .i64 f0,.int .i64 f1,.int .i64 f2,.int .i64 f3]:=heap_alloc_new _ _
  rw[hW2]
  exact q.below ((Below.refl _ _).alloc (Nat.le_refl _) _) q.lt
 have c0:W2.cell? ⟨w.heap.size,0,none⟩=some (.int .i64 f0):=hr.cell 0
 have c1:W2.cell? ⟨w.heap.size,1,none⟩=some (.int .i64 f1):=hr.cell 1
 have c2:W2.cell? ⟨w.heap.size,2,none⟩=some (.int .i64 f2):=hr.cell 2
 have c3:W2.cell? ⟨w.heap.size,3,none⟩=some (.int .i64 f3):=hr.cell 3
 have HRN:=Lib.hid (hrd W2 hz.2.2)
 have HZ:=Lib.hid hz
 have HW2:=Lib.hid hW2
 clear hb0 hz hr hW2 hrd
 go_enter_defers Tryz.func32,Tryz.ntmps32
 go_upto_region 1 with(fail)
 rw[←HW2.out]
 clear HW2
 go_wp2_with fail
 refine HRN.out.mono ?_
 rintro e w3 ⟨rfl,hb3⟩
 have HZ3:=Lib.hid (HZ.out.below hb3)
 clear hb3 c0 c1 c2 c3 HRN
 have z0:w3.cell? ⟨w.heap.size+1,0,none⟩=some (.int .i64 0):=HZ3.out.1.cell 0
 have z1:w3.cell? ⟨w.heap.size+1,1,none⟩=some (.int .i64 0):=HZ3.out.1.cell 1
 have z2:w3.cell? ⟨w.heap.size+1,2,none⟩=some (.int .i64 0):=HZ3.out.1.cell 2
 have z3:w3.cell? ⟨w.heap.size+1,3,none⟩=some (.int .i64 0):=HZ3.out.1.cell 3
 have f0':=HZ3.out.1.free 0
 have f1':=HZ3.out.1.free 1
 have f2':=HZ3.out.1.free 2
 have f3':=HZ3.out.1.free 3
 have HZ9:=Lib.hid HZ3.out.zero
 go_wp2
 have r0:=HZ9.out.1.cell 0
 have r1:=HZ9.out.1.cell 1
 have r2:=HZ9.out.1.cell 2
 have r3:=HZ9.out.1.cell 3
 simp only[Z4,List.getElem?_cons_zero,List.getElem?_cons_succ]at r0 r1 r2 r3
 exact⟨.tuple #[.agg #[.int .i64 0,.int .i64 0,.int .i64 0,.int .i64 0],.int .i64 1],by simp[results,Tryz.results32,go_sem,r0,r1,r2,r3],rfl,HZ9.out.2.2⟩
theorem keep_arg(pv:Value)(f0 f1 f2 f3 c lo hi:Int)(w:World)(hcn:∀wd v u,Below w.heap.size w u→Calls Tryz.prog 32 #[pv,.agg #[.int .i64 f0,.int .i64 f1,.int .i64 f2,.int .i64 f3],.int .i64 wd,v] u fun e w'=>e=.returned (.tuple #[.agg #[.int .i64 0,.int .i64 0,.int .i64 0,.int .i64 0],.int .i64 1])∧Below u.heap.size u w'):Calls Tryz.prog 20 #[pv,.agg #[.int .i64 f0,.int .i64 f1,.int .i64 f2,.int .i64 f3],.int .i64 c,.int .i64 lo,.int .i64 hi] w fun e w'=>e=.returned (.tuple #[.agg #[.int .i64 0,.int .i64 0,.int .i64 0,.int .i64 0],.int .i64 1])∧Below w.heap.size w w':=by
 by_cases hin:0≤c∧c<f2
 rotate_left
 ·exact keep_bad _ f0 f1 f2 f3 c lo hi w hin
 obtain⟨W,hW⟩:∃W,W=(((((w.alloc (.cells #[.int .i64 f0,.int .i64 f1,.int .i64 f2,.int .i64 f3] 31)).alloc (.cells #[.int .i64 c] 3)).alloc (.cells #[.int .i64 lo] 2)).alloc (.cells #[.int .i64 hi] 2)).alloc (.cells #[.int .i64 0,.int .i64 0,.int .i64 0,.int .i64 0] 31)):=⟨_,rfl⟩
 have hsz:∀(w:World) (o:Obj),(w.alloc o).heap.size=w.heap.size+1:=fun w o=>by simp
 have q0:=Below.refl w.heap.size w
 have q1:=q0.alloc q0.size (.cells #[.int .i64 f0,.int .i64 f1,.int .i64 f2,.int .i64 f3] 31)
 have q2:=q1.alloc q1.size (.cells #[.int .i64 c] 3)
 have q3:=q2.alloc q2.size (.cells #[.int .i64 lo] 2)
 have q4:=q3.alloc q3.size (.cells #[.int .i64 hi] 2)
 have hz:ZR w (w.heap.size+4) W:=by
  have:=ZR.mk q4
  rw[←hW]at this
  simp only[hsz,Nat.add_assoc,Nat.reduceAdd]at this
  exact this
 have r0:Row W (w.heap.size) 31 [.int .i64 f0,.int .i64 f1,.int .i64 f2,.int .i64 f3]:=by
  have q:Row (w.alloc (.cells #[.int .i64 f0,.int .i64 f1,.int .i64 f2,.int .i64 f3] 31)) w.heap.size 31 [.int .i64 f0,.int .i64 f1,.int .i64 f2,.int .i64 f3]:=heap_alloc_new _ _
  rw[hW]
  have p0:=Below.refl (w.heap.size+1) (w.alloc (.cells #[.int .i64 f0,.int .i64 f1,.int .i64 f2,.int .i64 f3] 31))
  have p1:=p0.alloc (by simp only[hsz];omega) (.cells #[.int .i64 c] 3)
  have p2:=p1.alloc (by simp only[hsz];omega) (.cells #[.int .i64 lo] 2)
  have p3:=p2.alloc (by simp only[hsz];omega) (.cells #[.int .i64 hi] 2)
  have p4:=p3.alloc (by simp only[hsz];omega) (.cells #[.int .i64 0,.int .i64 0,.int .i64 0,.int .i64 0] 31)
  exact q.below p4 (by omega)
 have r1:Row W (w.heap.size+1) 3 [.int .i64 c]:=by
  have q:Row ((w.alloc (.cells #[.int .i64 f0,.int .i64 f1,.int .i64 f2,.int .i64 f3] 31)).alloc (.cells #[.int .i64 c] 3)) (w.alloc (.cells #[.int .i64 f0,.int .i64 f1,.int .i64 f2,.int .i64 f3] 31)).heap.size 3 [.int .i64 c]:=heap_alloc_new _ _
  simp only[hsz]at q
  rw[hW]
  have p1:=Below.refl (w.heap.size+2) ((w.alloc (.cells #[.int .i64 f0,.int .i64 f1,.int .i64 f2,.int .i64 f3] 31)).alloc (.cells #[.int .i64 c] 3))
  have p2:=p1.alloc (by simp only[hsz];omega) (.cells #[.int .i64 lo] 2)
  have p3:=p2.alloc (by simp only[hsz];omega) (.cells #[.int .i64 hi] 2)
  have p4:=p3.alloc (by simp only[hsz];omega) (.cells #[.int .i64 0,.int .i64 0,.int .i64 0,.int .i64 0] 31)
  exact q.below p4 (by omega)
 have HHC:Hid (∀w,Calls Tryz.prog 44 #[.agg #[.int .i64 f0,.int .i64 f1,.int .i64 f2,.int .i64 f3],.int .i64 c] w fun e w'=>e=.returned (.bool true)∧Below w.heap.size w w'):=fun w=>by
  have:=hascol_any f0 f1 f2 f3 c w
  rwa [decide_eq_true hin]at this
 have HCC:Hid (∀u,Below W.heap.size W u→u.cell? ⟨w.heap.size,0,none⟩=some (.int .i64 f0)∧u.cell? ⟨w.heap.size,1,none⟩=some (.int .i64 f1)∧u.cell? ⟨w.heap.size,2,none⟩=some (.int .i64 f2)∧u.cell? ⟨w.heap.size,3,none⟩=some (.int .i64 f3)):=fun u hb=>by
  have q:=r0.below hb r0.lt
  exact⟨q.cell 0,q.cell 1,q.cell 2,q.cell 3⟩
 have c0_0:W.cell? ⟨w.heap.size,0,none⟩=some (.int .i64 f0):=r0.cell 0
 have c0_1:W.cell? ⟨w.heap.size,1,none⟩=some (.int .i64 f1):=r0.cell 1
 have c0_2:W.cell? ⟨w.heap.size,2,none⟩=some (.int .i64 f2):=r0.cell 2
 have c0_3:W.cell? ⟨w.heap.size,3,none⟩=some (.int .i64 f3):=r0.cell 3
 have c1_0:W.cell? ⟨w.heap.size+1,0,none⟩=some (.int .i64 c):=r1.cell 0
 have HCN:=Lib.hid hcn
 have HZ:=Lib.hid hz
 have HW:=Lib.hid hW
 clear hz hW hsz q0 q1 q2 q3 q4 r0 r1 hin hcn
 go_enter Tryz.func20,Tryz.ntmps20
 go_upto_region 1 with(fail)
 rw[←HW.out]
 clear HW
 go_wp2_with fail
 refine(HHC.out _).mono ?_
 rintro e w3 ⟨rfl,hb3⟩
 have HZ3:=Lib.hid (HZ.out.below hb3)
 have d:=HCC.out _ hb3
 obtain⟨d0,d1,d2,d3⟩:=d
 clear hb3 c0_0 c0_1 c0_2 c0_3 c1_0
 go_wp2_with fail
 refine(HCN.out _ _ _ HZ3.out.2.2).mono ?_
 rintro e w4 ⟨rfl,hb4⟩
 have HZ4:=Lib.hid (HZ3.out.below hb4)
 clear hb4 d0 d1 d2 d3
 have z0:w4.cell? ⟨w.heap.size+4,0,none⟩=some (.int .i64 0):=HZ4.out.1.cell 0
 have z1:w4.cell? ⟨w.heap.size+4,1,none⟩=some (.int .i64 0):=HZ4.out.1.cell 1
 have z2:w4.cell? ⟨w.heap.size+4,2,none⟩=some (.int .i64 0):=HZ4.out.1.cell 2
 have z3:w4.cell? ⟨w.heap.size+4,3,none⟩=some (.int .i64 0):=HZ4.out.1.cell 3
 have f0':=HZ4.out.1.free 0
 have f1':=HZ4.out.1.free 1
 have f2':=HZ4.out.1.free 2
 have f3':=HZ4.out.1.free 3
 have HZ9:=Lib.hid HZ4.out.zero
 go_wp2
 have r0:=HZ9.out.1.cell 0
 have r1:=HZ9.out.1.cell 1
 have r2:=HZ9.out.1.cell 2
 have r3:=HZ9.out.1.cell 3
 simp only[Z4,List.getElem?_cons_zero,List.getElem?_cons_succ]at r0 r1 r2 r3
 refine bodyPost_ret (v:=.tuple #[.agg #[.int .i64 0,.int .i64 0,.int .i64 0,.int .i64 0],.int .i64 1]) (by simp[results,Tryz.results20,go_sem,r0,r1,r2,r3]) rfl ?_
 exact⟨rfl,HZ9.out.2.2⟩
theorem look_arg(pv:Value)(f0 f1 f2 f3 k:Int)(w:World)(hcb:∀u,Below w.heap.size w u→Calls Tryz.prog 45 #[pv,.agg #[.int .i64 f0,.int .i64 f1,.int .i64 f2,.int .i64 f3]] u fun e w'=>e=.returned (.bool false)∧Below u.heap.size u w'):Calls Tryz.prog 19 #[pv,.agg #[.int .i64 f0,.int .i64 f1,.int .i64 f2,.int .i64 f3],.int .i64 k,.agg #[.int .i64 f0,.int .i64 f1,.int .i64 f2,.int .i64 f3],.int .i64 k,.int .i64 k] w fun e w'=>e=.returned (.tuple #[.agg #[.int .i64 0,.int .i64 0,.int .i64 0,.int .i64 0],.int .i64 1])∧Below w.heap.size w w':=by
 obtain⟨W,hW⟩:∃W,W=(((w.alloc (.cells #[.int .i64 f0,.int .i64 f1,.int .i64 f2,.int .i64 f3] 31)).alloc (.cells #[.int .i64 f0,.int .i64 f1,.int .i64 f2,.int .i64 f3] 31)).alloc (.cells #[.int .i64 0,.int .i64 0,.int .i64 0,.int .i64 0] 31)):=⟨_,rfl⟩
 have hsz:∀(w:World) (o:Obj),(w.alloc o).heap.size=w.heap.size+1:=fun w o=>by simp
 have q0:=Below.refl w.heap.size w
 have q1:=q0.alloc q0.size (.cells #[.int .i64 f0,.int .i64 f1,.int .i64 f2,.int .i64 f3] 31)
 have q2:=q1.alloc q1.size (.cells #[.int .i64 f0,.int .i64 f1,.int .i64 f2,.int .i64 f3] 31)
 have hz:ZR w (w.heap.size+2) W:=by
  have:=ZR.mk q2
  rw[←hW]at this
  simp only[hsz,Nat.add_assoc,Nat.reduceAdd]at this
  exact this
 have r0:Row W (w.heap.size) 31 [.int .i64 f0,.int .i64 f1,.int .i64 f2,.int .i64 f3]:=by
  have q:Row (w.alloc (.cells #[.int .i64 f0,.int .i64 f1,.int .i64 f2,.int .i64 f3] 31)) w.heap.size 31 [.int .i64 f0,.int .i64 f1,.int .i64 f2,.int .i64 f3]:=heap_alloc_new _ _
  rw[hW]
  have p0:=Below.refl (w.heap.size+1) (w.alloc (.cells #[.int .i64 f0,.int .i64 f1,.int .i64 f2,.int .i64 f3] 31))
  have p1:=p0.alloc (by simp only[hsz];omega) (.cells #[.int .i64 f0,.int .i64 f1,.int .i64 f2,.int .i64 f3] 31)
  have p2:=p1.alloc (by simp only[hsz];omega) (.cells #[.int .i64 0,.int .i64 0,.int .i64 0,.int .i64 0] 31)
  exact q.below p2 (by omega)
 have r1:Row W (w.heap.size+1) 31 [.int .i64 f0,.int .i64 f1,.int .i64 f2,.int .i64 f3]:=by
  have q:Row ((w.alloc (.cells #[.int .i64 f0,.int .i64 f1,.int .i64 f2,.int .i64 f3] 31)).alloc (.cells #[.int .i64 f0,.int .i64 f1,.int .i64 f2,.int .i64 f3] 31)) (w.alloc (.cells #[.int .i64 f0,.int .i64 f1,.int .i64 f2,.int .i64 f3] 31)).heap.size 31 [.int .i64 f0,.int .i64 f1,.int .i64 f2,.int .i64 f3]:=heap_alloc_new _ _
  simp only[hsz]at q
  rw[hW]
  have p1:=Below.refl (w.heap.size+2) ((w.alloc (.cells #[.int .i64 f0,.int .i64 f1,.int .i64 f2,.int .i64 f3] 31)).alloc (.cells #[.int .i64 f0,.int .i64 f1,.int .i64 f2,.int .i64 f3] 31))
  have p2:=p1.alloc (by simp only[hsz];omega) (.cells #[.int .i64 0,.int .i64 0,.int .i64 0,.int .i64 0] 31)
  exact q.below p2 (by omega)
 have HHC:Hid (∀w,Calls Tryz.prog 44 #[.agg #[.int .i64 f0,.int .i64 f1,.int .i64 f2,.int .i64 f3],.int .i64 k] w fun e w'=>e=.returned (.bool (decide (0≤k∧k<f2)))∧Below w.heap.size w w'):=fun w=>hascol_any f0 f1 f2 f3 k w
 have HCB:=Lib.hid hcb
 have HCC:Hid (∀u,Below W.heap.size W u→(u.cell? ⟨w.heap.size,0,none⟩=some (.int .i64 f0)∧u.cell? ⟨w.heap.size,1,none⟩=some (.int .i64 f1)∧u.cell? ⟨w.heap.size,2,none⟩=some (.int .i64 f2)∧u.cell? ⟨w.heap.size,3,none⟩=some (.int .i64 f3))∧u.cell? ⟨w.heap.size+1,0,none⟩=some (.int .i64 f0)∧u.cell? ⟨w.heap.size+1,1,none⟩=some (.int .i64 f1)∧u.cell? ⟨w.heap.size+1,2,none⟩=some (.int .i64 f2)∧u.cell? ⟨w.heap.size+1,3,none⟩=some (.int .i64 f3)):=fun u hb=>by
  have q:=r0.below hb r0.lt
  have q2:=r1.below hb r1.lt
  exact⟨⟨q.cell 0,q.cell 1,q.cell 2,q.cell 3⟩,q2.cell 0,q2.cell 1,q2.cell 2,q2.cell 3⟩
 have c0_0:W.cell? ⟨w.heap.size,0,none⟩=some (.int .i64 f0):=r0.cell 0
 have c0_1:W.cell? ⟨w.heap.size,1,none⟩=some (.int .i64 f1):=r0.cell 1
 have c0_2:W.cell? ⟨w.heap.size,2,none⟩=some (.int .i64 f2):=r0.cell 2
 have c0_3:W.cell? ⟨w.heap.size,3,none⟩=some (.int .i64 f3):=r0.cell 3
 have c1_0:W.cell? ⟨w.heap.size+1,0,none⟩=some (.int .i64 f0):=r1.cell 0
 have c1_1:W.cell? ⟨w.heap.size+1,1,none⟩=some (.int .i64 f1):=r1.cell 1
 have c1_2:W.cell? ⟨w.heap.size+1,2,none⟩=some (.int .i64 f2):=r1.cell 2
 have c1_3:W.cell? ⟨w.heap.size+1,3,none⟩=some (.int .i64 f3):=r1.cell 3
 have HZ:=Lib.hid hz
 have HW:=Lib.hid hW
 clear hz hW hsz q0 q1 q2 r0 r1 hcb
 by_cases hin:0≤k∧k<f2
 case neg=>
  rw[decide_eq_false hin]at HHC
  clear hin
  go_enter_defers Tryz.func19,Tryz.ntmps19
  go_upto_region 1 with(fail)
  rw[←HW.out]
  clear HW
  go_wp2_with fail
  refine(HHC.out _).mono ?_
  rintro e w3 ⟨rfl,hb3⟩
  have HZ3:=Lib.hid (HZ.out.below hb3)
  clear hb3 c0_0 c0_1 c0_2 c0_3 c1_0 c1_1 c1_2 c1_3
  have z0:w3.cell? ⟨w.heap.size+2,0,none⟩=some (.int .i64 0):=HZ3.out.1.cell 0
  have z1:w3.cell? ⟨w.heap.size+2,1,none⟩=some (.int .i64 0):=HZ3.out.1.cell 1
  have z2:w3.cell? ⟨w.heap.size+2,2,none⟩=some (.int .i64 0):=HZ3.out.1.cell 2
  have z3:w3.cell? ⟨w.heap.size+2,3,none⟩=some (.int .i64 0):=HZ3.out.1.cell 3
  have f0':=HZ3.out.1.free 0
  have f1':=HZ3.out.1.free 1
  have f2':=HZ3.out.1.free 2
  have f3':=HZ3.out.1.free 3
  have HZ9:=Lib.hid HZ3.out.zero
  go_wp2
  have r0:=HZ9.out.1.cell 0
  have r1:=HZ9.out.1.cell 1
  have r2:=HZ9.out.1.cell 2
  have r3:=HZ9.out.1.cell 3
  simp only[Z4,List.getElem?_cons_zero,List.getElem?_cons_succ]at r0 r1 r2 r3
  exact⟨.tuple #[.agg #[.int .i64 0,.int .i64 0,.int .i64 0,.int .i64 0],.int .i64 1],by simp[results,Tryz.results19,go_sem,r0,r1,r2,r3],rfl,HZ9.out.2.2⟩
 case pos=>
  rw[decide_eq_true hin]at HHC
  have g1:decide (k<0)=false:=by simp;omega
  clear hin
  by_cases h5:k≥5
  case pos=>
   have g2:decide (k≥5)=true:=by simpa using h5
   clear h5
   go_enter_defers Tryz.func19,Tryz.ntmps19
   go_upto_region 1 with(fail)
   rw[←HW.out]
   clear HW
   go_wp2_with fail
   refine(HHC.out _).mono ?_
   rintro e w3 ⟨rfl,hb3⟩
   have HBX:=Lib.hid hb3
   clear hb3 c0_0 c0_1 c0_2 c0_3 c1_0 c1_1 c1_2 c1_3
   obtain⟨⟨a0,a1,a2,a3⟩,b0,b1,b2,b3⟩:=HCC.out _ HBX.out
   go_wp2_with fail
   refine(HHC.out _).mono ?_
   rintro e w4 ⟨rfl,hb4⟩
   have HZ3:=Lib.hid (HZ.out.below (HBX.out.trans (hb4.mono HBX.out.size)))
   clear hb4 a0 a1 a2 a3 b0 b1 b2 b3
   have z0:w4.cell? ⟨w.heap.size+2,0,none⟩=some (.int .i64 0):=HZ3.out.1.cell 0
   have z1:w4.cell? ⟨w.heap.size+2,1,none⟩=some (.int .i64 0):=HZ3.out.1.cell 1
   have z2:w4.cell? ⟨w.heap.size+2,2,none⟩=some (.int .i64 0):=HZ3.out.1.cell 2
   have z3:w4.cell? ⟨w.heap.size+2,3,none⟩=some (.int .i64 0):=HZ3.out.1.cell 3
   have f0':=HZ3.out.1.free 0
   have f1':=HZ3.out.1.free 1
   have f2':=HZ3.out.1.free 2
   have f3':=HZ3.out.1.free 3
   have HZ9:=Lib.hid HZ3.out.zero
   go_wp2
   have r0:=HZ9.out.1.cell 0
   have r1:=HZ9.out.1.cell 1
   have r2:=HZ9.out.1.cell 2
   have r3:=HZ9.out.1.cell 3
   simp only[Z4,List.getElem?_cons_zero,List.getElem?_cons_succ]at r0 r1 r2 r3
   exact⟨.tuple #[.agg #[.int .i64 0,.int .i64 0,.int .i64 0,.int .i64 0],.int .i64 1],by simp[results,Tryz.results19,go_sem,r0,r1,r2,r3],rfl,HZ9.out.2.2⟩
  case neg=>
   have g2:decide (k≥5)=false:=by simp;omega
   clear h5
   go_enter_defers Tryz.func19,Tryz.ntmps19
   go_upto_region 1 with(fail)
   rw[←HW.out]
   clear HW
   go_wp2_with fail
   refine(HHC.out _).mono ?_
   rintro e w3 ⟨rfl,hb3⟩
   have HBX:=Lib.hid hb3
   clear hb3 c0_0 c0_1 c0_2 c0_3 c1_0 c1_1 c1_2 c1_3
   obtain⟨⟨a0,a1,a2,a3⟩,b0,b1,b2,b3⟩:=HCC.out _ HBX.out
   go_wp2_with fail
   refine(HHC.out _).mono ?_
   rintro e w4 ⟨rfl,hb4⟩
   have HBY:=Lib.hid (HBX.out.trans (hb4.mono HBX.out.size))
   clear hb4 a0 a1 a2 a3 b0 b1 b2 b3
   obtain⟨⟨a0,a1,a2,a3⟩,b0,b1,b2,b3⟩:=HCC.out _ HBY.out
   go_wp2_with fail
   refine(HCB.out _ (HZ.out.2.2.trans (HBY.out.mono HZ.out.2.2.size))).mono ?_
   rintro e w5 ⟨rfl,hb5⟩
   have HZ3:=Lib.hid (HZ.out.below (HBY.out.trans (hb5.mono HBY.out.size)))
   clear hb5 a0 a1 a2 a3 b0 b1 b2 b3
   have z0:w5.cell? ⟨w.heap.size+2,0,none⟩=some (.int .i64 0):=HZ3.out.1.cell 0
   have z1:w5.cell? ⟨w.heap.size+2,1,none⟩=some (.int .i64 0):=HZ3.out.1.cell 1
   have z2:w5.cell? ⟨w.heap.size+2,2,none⟩=some (.int .i64 0):=HZ3.out.1.cell 2
   have z3:w5.cell? ⟨w.heap.size+2,3,none⟩=some (.int .i64 0):=HZ3.out.1.cell 3
   have f0':=HZ3.out.1.free 0
   have f1':=HZ3.out.1.free 1
   have f2':=HZ3.out.1.free 2
   have f3':=HZ3.out.1.free 3
   have HZ9:=Lib.hid HZ3.out.zero
   go_wp2
   have r0:=HZ9.out.1.cell 0
   have r1:=HZ9.out.1.cell 1
   have r2:=HZ9.out.1.cell 2
   have r3:=HZ9.out.1.cell 3
   simp only[Z4,List.getElem?_cons_zero,List.getElem?_cons_succ]at r0 r1 r2 r3
   exact⟨.tuple #[.agg #[.int .i64 0,.int .i64 0,.int .i64 0,.int .i64 0],.int .i64 1],by simp[results,Tryz.results19,go_sem,r0,r1,r2,r3],rfl,HZ9.out.2.2⟩
structure Rx where
 k:Nat
 h:Nat
 first:Int
 blocks:Nat
 count:Nat
 pos:Nat
 b:Nat
 g:Nat
def rxC(p:Wp)(r:Rx):List Value:=[.int .i64 r.k,.int .i64 r.h,.pointer (some ⟨p.w,0,none⟩),.int .i64 r.first,.int .i64 r.blocks,.int .i64 r.k,.int .i64 r.count,.int .i64 r.pos,.pointer (some ⟨r.b,0,none⟩)]
structure XMem (w:World) (x:Nat) (p:Wp) (r:Rx) (sz:Nat) (ws:List Nat):Prop where
 row:Row w x 126 (rxC p r)
 buf:Row w r.b 132 [.slice (some ⟨r.g,0,none⟩) sz sz]
 words:Row w r.g 133 (ws.map vw)
 len:ws.length=sz
 u64:U64s ws
structure XOut (G:Nat→Prop) (x:Nat) (r:Rx):Prop where
 x:¬G x
 b:¬G r.b
 g:¬G r.g
def XShut(w:World)(x:Nat)(p:Wp)(r:Rx):Prop:=Row w x 126 (rxC p r)∧Row w r.b 132 [.slice none 0 0]
section
variable {w w' : World} {x : Nat} {p : Wp} {r : Rx} {sz : Nat} {ws : List Nat}
theorem XMem.far{R:Nat→Prop}(h:XMem w x p r sz ws)(hf:Far R w w')(h1:¬R x)(h2:¬R r.b)(h3:¬R r.g):XMem w' x p r sz ws:=⟨hf.row h.row h1,hf.row h.buf h2,hf.row h.words h3,h.len,h.u64⟩
theorem XMem.below(h:XMem w x p r sz ws)(hb:Below w.heap.size w w'):XMem w' x p r sz ws:=h.far (Far.of_below hb fun _=>False) (fun h=>h) (fun h=>h) (fun h=>h)
theorem XMem.lt(h:XMem w x p r sz ws):x<w.heap.size∧r.b<w.heap.size∧r.g<w.heap.size:=⟨h.row.lt,h.buf.lt,h.words.lt⟩
theorem XMem.apart(h:XMem w x p r sz ws):x≠r.b∧x≠r.g∧r.b≠r.g:=
 ⟨fun e=>absurd (h.row.typed (e▸h.buf)) (by decide),fun e=>absurd (h.row.typed (e▸h.words)) (by decide),fun e=>absurd (h.buf.typed (e▸h.words)) (by decide)⟩
end
section
variable {w : World} {x : Nat} {p : Wp} {r : Rx}
theorem xclosed_any{A:Option Addr}{m c:Nat}(hr:Row w x 126 (rxC p r))(hb:Row w r.b 132 [.slice A m c]):Calls Tryz.prog 63 #[.pointer (some ⟨x,0,none⟩)] w fun e w'=>e=.returned (.bool (!decide (0<m)))∧w'=w:=by
 have c7:w.cell? ⟨x,8,none⟩=some (.pointer (some ⟨r.b,0,none⟩)):=hr.cell 8
 have HS:=Lib.hid (stnd_any hb)
 clear hb hr
 go_enter Tryz.func63,Tryz.ntmps63
 go_wp2_with fail
 refine HS.out.mono ?_;rintro e w1 ⟨rfl,rfl⟩
 go_wp2
 go_ret
 exact⟨ret_bool (by simp),rfl⟩
end
def XEnd(w:World)(G:Nat→Prop)(x:Nat)(p:Wp)(F:Fs)(n:Nat)(r:Rx)(w':World):Prop:=
 ∃G',Sys w' G' p {F with A:=release F.A r.b F.D.size} n∧XShut w' x p r∧Far (fun k=>G k∨k=r.b) w w'∧∀k,G' k→G k∨w.heap.size≤k
theorem xclose_def(u:FrameMode){w:World}{G:Nat→Prop}{p:Wp}{F:Fs}{n x:Nat}{r:Rx}{ws:List Nat}(h:Sys w G p F n)(hm:XMem w x p r F.D.size ws)(ho:XOut G x r)(hst:wordsAt F.A.st r.b=some F.D.size):
  CallsD Tryz.prog 40 #[.pointer (some ⟨x,0,none⟩)] u w fun e u' w'=>u'=u∧(e=.returned (.tuple #[])∧XEnd w G x p F n r w'):=by
 have hsz:=h.size
 have hc:=xclosed_any hm.row hm.buf
 rw[decide_eq_true (show 0<F.D.size by omega)]at hc
 have HC:=Lib.hid hc
 have hbe:=below_drew (Below.refl w.heap.size w)
 obtain⟨hxb,hxg,hbg⟩:=hm.apart
 have HRL:Hid (Calls Tryz.prog 64 #[.pointer (some ⟨p.a,0,none⟩),.pointer (some ⟨r.b,0,none⟩)] w.drew fun e w'=>e=.returned (.bool true)∧XEnd w G x p F n r w'):=by
  refine(sys_release (h.below hbe) hst).mono ?_
  rintro e w' ⟨he,h2⟩
  obtain⟨G',k1,k2,k3,k4⟩:=h2.behind hbe
  refine⟨he,G',k1,⟨k2.row hm.row ?_,k4⟩,k2,k3⟩
  rintro(h5|h5)
  ·exact ho.x h5
  ·exact hxb h5
 have c2:w.drew.cell? ⟨x,2,none⟩=some (.pointer (some ⟨p.w,0,none⟩)):=hm.row.cell 2
 have c8:w.drew.cell? ⟨x,8,none⟩=some (.pointer (some ⟨r.b,0,none⟩)):=hm.row.cell 8
 have cp:w.drew.cell? ⟨p.w,1,none⟩=some (.pointer (some ⟨p.a,0,none⟩)):=h.row.cell 1
 have HCELL:Hid (∀w',XEnd w G x p F n r w'→w'.cell? ⟨x,2,none⟩=some (.pointer (some ⟨p.w,0,none⟩))∧w'.cell? ⟨x,8,none⟩=some (.pointer (some ⟨r.b,0,none⟩))∧w'.cell? ⟨p.w,1,none⟩=some (.pointer (some ⟨p.a,0,none⟩))):=fun w' ⟨G',k1,k2,_⟩=>⟨k2.1.cell 2,k2.1.cell 8,k1.row.cell 1⟩
 generalize XEnd w G x p F n r=POST at*
 generalize r.b=b at*
 clear hc h hm ho hst hsz hbe hxb hxg hbg
 go_enter_d Tryz.func40,Tryz.ntmps40
 go_wp2_with fail
 refine HC.out.mono ?_;rintro e w1 ⟨rfl,rfl⟩
 go_wp2
 go_region_held3 (fun w'=>w'.cell? ⟨x,2,none⟩=some (.pointer (some ⟨p.w,0,none⟩))∧w'.cell? ⟨x,8,none⟩=some (.pointer (some ⟨b,0,none⟩))∧w'.cell? ⟨p.w,1,none⟩=some (.pointer (some ⟨p.a,0,none⟩))) (first|with_reducible exact⟨c2,c8,cp⟩|with_reducible exact q2)
  (first
   |(go_at_call 64;(with_reducible refine HRL.out.mono ?_);rintro e w2 ⟨rfl,h2⟩;have q2:=HCELL.out w2 h2))
 have H2:=Lib.hid h2
 clear h2 q2
 go_wp2
 go_end0
 exact⟨rfl,H2.out⟩
def NewX(w:World)(G:Nat→Prop)(p:Wp)(F:Fs)(n:Nat)(r:Rx)(x:Nat)(w':World):Prop:=
 w.heap.size≤x∧w.heap.size≤r.b∧w.heap.size≤r.g∧∃G',Sys w' G' p {F with A:=grant F.A r.b F.D.size} n∧(∃ws,XMem w' x p r F.D.size ws)∧XOut G' x r∧Far G w w'∧∀k,G' k→G k∨w.heap.size≤k
def ReadX(w:World)(G:Nat→Prop)(p:Wp)(F:Fs)(n:Nat)(k h:Nat)(first:Int)(nb count:Nat)(e:Ending)(w':World):Prop:=
 ∃x b g,e=.returned (.tuple #[.pointer (some ⟨x,0,none⟩),.int .i64 0])∧NewX w G p F n ⟨k,h,first,nb,count,0,b,g⟩ x w'
theorem xread_ok{w:World}{G:Nat→Prop}{p:Wp}{F:Fs}{n:Nat}(h:Sys w G p F n)(k hh:Nat)(first:Int)(nb count:Nat)(hhe:hh=holdsI F.D.size k)(hh0:0<hh)(hnb:nb=blocksN hh count)(hcount:count≤100000000)(hroom:F.D.size≤F.A.room-F.A.used):Calls Tryz.prog 39 #[.pointer (some ⟨p.w,0,none⟩),.agg #[.int .i64 first,.int .i64 nb,.int .i64 k,.int .i64 count]] w (ReadX w G p F n k hh first nb count):=by
 have hsz:=h.size
 have hh254:hh≤254:=by rw[hhe];exact Nat.le_trans (holds_le _ _) (by omega)
 have hb0:=(Below.refl w.heap.size w).alloc (Nat.le_refl _) (.cells #[.int .i64 first,.int .i64 nb,.int .i64 k,.int .i64 count] 31)
 have hr0:Row (w.alloc (.cells #[.int .i64 first,.int .i64 nb,.int .i64 k,.int .i64 count] 31)) w.heap.size 31 [.int .i64 first,.int .i64 nb,.int .i64 k,.int .i64 count]:=heap_alloc_new _ _
 have hshp:=shape_any (h.below hb0) k
 rw[←hhe]at hshp
 have HS:=Lib.hid hshp
 have HBL:Hid (∀W,Calls Tryz.prog 60 #[.agg #[.int .i64 k,.int .i64 hh],.int .i64 count] W fun e w'=>e=.returned (.int .i64 nb)∧Below W.heap.size W w'):=fun W=>by
  rw[hnb];exact blks_any k hh count W hh0 hh254 hcount
 have HSYS:Hid (∀W,Below w.heap.size w W→Sys W G p F n):=fun W hb=>h.below hb
 have HB0:=Lib.hid hb0
 have HR0:=Lib.hid hr0
 obtain⟨size,hsize⟩:∃size,size=F.D.size:=⟨_,rfl⟩
 have g0:((hh:Int)==0)=false:=by simp;omega
 have g1:decide ((count:Int)<0)=false:=by simp
 have HGR:Hid (∀W,Sys W G p F n→Calls Tryz.prog 61 #[.pointer (some ⟨p.a,0,none⟩),.int .i64 size] W.drew fun e w'=>∃b g,e=.returned (.tuple #[.pointer (some ⟨b,0,none⟩),.int .i64 0])∧
   (∃G'',Sys w' G'' p {F with A:=grant F.A b F.D.size} n∧Far G W w'∧(∀k,G'' k→G k∨W.heap.size≤k)∧¬G'' b∧¬G'' g)∧Row w' b 132 [.slice (some ⟨g,0,none⟩) size size]∧Row w' g 133 ((List.replicate size 0).map vw)∧W.heap.size≤b∧W.heap.size≤g):=fun W hs=>by
  refine(sys_grant (hs.below (below_drew (Below.refl _ _))) size (by rw[hsize];exact hroom) (by omega)).mono ?_
  rintro e w' ⟨b,g,he,⟨G'',h1,h2,h3,h4⟩,h5⟩
  rw[hsize]at h1
  exact⟨b,g,he,⟨G'',h1,⟨h2.os,h2.tape,h2.output,h2.size,h2.block⟩,h3,h4⟩,h5⟩
 have HSQ:Hid (∀W,Sys W G p F n→Calls Tryz.prog 62 #[.pointer (some ⟨p.d,0,none⟩)] W.drew fun e w''=>e=.returned (.int .i64 (size:Int))∧w''=W.drew):=fun W hs=>by
  rw[hsize];exact(hs.below (below_drew (Below.refl _ _))).dsize_any
 have HNG:Hid (∀k,w.heap.size≤k→¬G k):=fun k hk hg=>by have:=h.lt hg;omega
 have HNEW:Hid (∀w6 w7 b g G'',Sys w6 G'' p {F with A:=grant F.A b F.D.size} n→Far G w w6→(∀k,G'' k→G k∨w.heap.size≤k)→¬G'' b→¬G'' g→Row w6 b 132 [.slice (some ⟨g,0,none⟩) size size]→Row w6 g 133 ((List.replicate size 0).map vw)→w.heap.size≤b→w.heap.size≤g→
   w7=w6.alloc (.cells #[.int .i64 k,.int .i64 hh,.pointer (some ⟨p.w,0,none⟩),.int .i64 first,.int .i64 nb,.int .i64 k,.int .i64 count,.int .i64 0,.pointer (some ⟨b,0,none⟩)] 126)→
   NewX w G p F n ⟨k,hh,first,nb,count,0,b,g⟩ w6.heap.size w7):=by
  intro w6 w7 b g G'' k1 k2 k3 k4 k5 k6 k7 k8 k9 e7
  subst e7
  have hb:=(Below.refl w6.heap.size w6).alloc (Nat.le_refl _) (.cells #[.int .i64 k,.int .i64 hh,.pointer (some ⟨p.w,0,none⟩),.int .i64 first,.int .i64 nb,.int .i64 k,.int .i64 count,.int .i64 0,.pointer (some ⟨b,0,none⟩)] 126)
  have k6':=k6.below hb k6.lt
  rw[hsize]at k6'
  refine⟨k2.size,k8,k9,G'',k1.below hb,⟨List.replicate size 0,⟨heap_alloc_new _ _,k6',k7.below hb k7.lt,by rw[←hsize];simp,?_⟩⟩,⟨fun hg=>by have:=k1.lt hg;omega,k4,k5⟩,k2.trans (Far.of_below hb fun _=>False) fun _ hf=>hf.elim,k3⟩
  intro y hy
  rw[List.mem_replicate]at hy;omega
 have HPOST:Hid (∀w7 x b g,NewX w G p F n ⟨k,hh,first,nb,count,0,b,g⟩ x w7→ReadX w G p F n k hh first nb count (.returned (.tuple #[.pointer (some ⟨x,0,none⟩),.int .i64 0])) w7):=fun w7 x b g h1=>⟨x,b,g,rfl,h1⟩
 have HCL:Hid (∀W G'' F2,Sys W G'' p F2 n→W.cell? ⟨p.w,0,none⟩=some (.pointer (some ⟨p.d,0,none⟩))∧W.cell? ⟨p.w,1,none⟩=some (.pointer (some ⟨p.a,0,none⟩))):=fun W G'' F2 hs=>⟨hs.row.cell 0,hs.row.cell 1⟩
 clear hsize hroom h hshp hb0 hr0 hhe hnb hsz
 generalize ReadX w G p F n k hh first nb count=POST at*
 go_enter Tryz.func39,Tryz.ntmps39
 go_wp2_with fail
 refine HS.out.mono ?_;rintro e w1 ⟨rfl,hb1⟩
 have hb2:=hb1.alloc hb1.size (.cells #[.int .i64 k,.int .i64 hh] 120)
 have hrs:Row (w1.alloc (.cells #[.int .i64 k,.int .i64 hh] 120)) w1.heap.size 120 [.int .i64 k,.int .i64 hh]:=heap_alloc_new _ _
 have hrf:=HR0.out.below hb2 HR0.out.lt
 have HB2:=Lib.hid (HB0.out.trans (hb2.mono HB0.out.size))
 have HL1:Hid (w.heap.size≤w1.heap.size):=Nat.le_trans HB0.out.size hb1.size
 clear hb1 hb2 HB0 HR0 HS
 have HRS:=Lib.hid hrs
 have HRF:=Lib.hid hrf
 clear hrs hrf
 have k0:∀d os,(Sort.grow (redrawn (w1.alloc (.cells #[.int .i64 k,.int .i64 hh] 120)) d) os).cell? ⟨w1.heap.size,0,none⟩=some (.int .i64 k):=cell_regrown (HRS.out.cell 0)
 have k1:∀d os,(Sort.grow (redrawn (w1.alloc (.cells #[.int .i64 k,.int .i64 hh] 120)) d) os).cell? ⟨w1.heap.size,1,none⟩=some (.int .i64 hh):=cell_regrown (HRS.out.cell 1)
 have k2:∀d os,(Sort.grow (redrawn (w1.alloc (.cells #[.int .i64 k,.int .i64 hh] 120)) d) os).cell? ⟨w.heap.size,1,none⟩=some (.int .i64 nb):=cell_regrown (HRF.out.cell 1)
 have k3:∀d os,(Sort.grow (redrawn (w1.alloc (.cells #[.int .i64 k,.int .i64 hh] 120)) d) os).cell? ⟨w.heap.size,3,none⟩=some (.int .i64 count):=cell_regrown (HRF.out.cell 3)
 have Q1:Hid (∀d os,Calls Tryz.prog 60 #[.agg #[.int .i64 k,.int .i64 hh],.int .i64 count] (Sort.grow (redrawn (w1.alloc (.cells #[.int .i64 k,.int .i64 hh] 120)) d) os) fun e w''=>e=.returned (.int .i64 nb)∧∃p:Regrown,w''=Sort.grow (redrawn (w1.alloc (.cells #[.int .i64 k,.int .i64 hh] 120)) p.d) p.os):=fun d os=>Calls.regrown_of (HBL.out _)
 go_wp2
 refine wp_region_quiet_below (by kernel_rfl) (by kernel_rfl) ?_
 repeat(any_goals(first|go_big_quiet_step (with_reducible exact Q1.out _ _)|quiet_step (with_reducible exact Q1.out _ _)))
 refine wpQuiet_nil ?_
 intro w5 hw5
 obtain⟨⟨dq,osq⟩,hw5⟩:=hw5
 have hbw5:=below_regrown (w1.alloc (.cells #[.int .i64 k,.int .i64 hh] 120)) dq osq
 rw[←hw5]at hbw5
 clear hw5
 have HB5:=Lib.hid (HB2.out.trans (hbw5.mono HB2.out.size))
 have HRS5:=Lib.hid (HRS.out.below hbw5 HRS.out.lt)
 have HRF5:=Lib.hid (HRF.out.below hbw5 HRF.out.lt)
 have k5:=HSYS.out w5 HB5.out
 clear hbw5 Q1 k0 k1 k2 k3 HRS HRF HB2 HBL
 have Q1:=Lib.hid (HGR.out w5 k5)
 have Q2:=Lib.hid (HSQ.out w5 k5)
 have c0:w5.drew.cell? ⟨p.w,0,none⟩=some (.pointer (some ⟨p.d,0,none⟩)):=k5.row.cell 0
 have c1:w5.drew.cell? ⟨p.w,1,none⟩=some (.pointer (some ⟨p.a,0,none⟩)):=k5.row.cell 1
 clear k5 HGR HSQ HSYS
 go_wp2
 go_region_held3 (fun w'=>w'.cell? ⟨p.w,0,none⟩=some (.pointer (some ⟨p.d,0,none⟩))∧w'.cell? ⟨p.w,1,none⟩=some (.pointer (some ⟨p.a,0,none⟩))) (first|with_reducible exact⟨c0,c1⟩|with_reducible exact d1)
  (first
   |(go_at_call 62;(with_reducible refine Q2.out.mono ?_);rintro e w8 ⟨rfl,rfl⟩)
   |(go_at_call 61;(with_reducible refine Q1.out.mono ?_);rintro e w6 ⟨b,g,rfl,⟨G6,k1,k2,k3,k4,k5⟩,k6,k7,k8,k9⟩;have d1:=HCL.out _ _ _ k1))
 have hs6:=k2.row HRF5.out (HNG.out _ (Nat.le_refl _))
 have hs7:=k2.row HRS5.out (HNG.out _ HL1.out)
 have e0:w6.cell? ⟨w.heap.size,0,none⟩=some (.int .i64 first):=hs6.cell 0
 have e1:w6.cell? ⟨w.heap.size,1,none⟩=some (.int .i64 nb):=hs6.cell 1
 have e2:w6.cell? ⟨w.heap.size,2,none⟩=some (.int .i64 k):=hs6.cell 2
 have e3:w6.cell? ⟨w.heap.size,3,none⟩=some (.int .i64 count):=hs6.cell 3
 have e4:w6.cell? ⟨w1.heap.size,0,none⟩=some (.int .i64 k):=hs7.cell 0
 have e5:w6.cell? ⟨w1.heap.size,1,none⟩=some (.int .i64 hh):=hs7.cell 1
 have HN:=Lib.hid (HNEW.out w6 _ b g G6 k1 ((Far.of_below HB5.out G).trans k2 fun b hb=>.inl hb) (fun k hk=>(k3 k hk).imp_right fun h=>Nat.le_trans HB5.out.size h) k4 k5 k6 k7 (Nat.le_trans HB5.out.size k8) (Nat.le_trans HB5.out.size k9) rfl)
 clear k1 k2 k3 k4 k5 k6 k7 k8 k9 hs6 hs7 Q1 Q2 HNEW HB5 HRF5 HRS5 HCL d1 c0 c1 HNG
 go_wp2
 exact HPOST.out _ _ b g HN.out
def rxO(p:Wp)(x:Nat)(r:Rx)(sz:Nat):Asn:=⟨fun k=>k=x∨k=r.b∨k=r.g,fun W=>∃ws,XMem W x p r sz ws,some (r.b,sz),(0,0),fun _=>True⟩
theorem rxO_ok{p:Wp}{x sz:Nat}{r:Rx}:(rxO p x r sz).Ok:=⟨fun W W' ⟨ws,hm⟩ hk=>⟨ws,row_same hm.row (hk _ (.inl rfl)),row_same hm.buf (hk _ (.inr (.inl rfl))),row_same hm.words (hk _ (.inr (.inr rfl))),hm.len,hm.u64⟩,fun _ _ _ _ _=>trivial,fun b n h=>by injection h with h;injection h with h1 _;exact .inr (.inl h1.symm)⟩
section
variable {X : Cx} {os : List Asn} {m i : Nat} {W W' : World} {G : Nat → Prop} {D : St} {A : Ar} {S : Sp} {a : Asn} {x : Nat} {r : Rx}
theorem wd_xread(h:Wd X os m W)(first:Int)(nb k hh count:Nat)(hhe:hh=holdsI X.sz k)(hh0:0<hh)(hnb:nb=blocksN hh count)(hcount:count≤100000000)(hroom:X.sz+sumN Asn.gw os≤X.rm):
  Calls Tryz.prog 39 #[.pointer (some ⟨X.p.w,0,none⟩),.agg #[.int .i64 first,.int .i64 nb,.int .i64 k,.int .i64 count]] W fun e w'=>∃x r,e=.returned (.tuple #[.pointer (some ⟨x,0,none⟩),.int .i64 0])∧Wd X (os++[rxO X.p x r X.sz]) m w':=by
 obtain⟨G,D,A,S,h⟩:=h
 have hsz:=h.size
 have hu:=h.used
 have hrm:=h.room
 have hz:8≤X.sz∧X.sz≤256:=by rw[←hsz];exact h.sys.size
 refine(xread_ok (F:=⟨D,A,S⟩) h.sys k hh first nb count (by show hh=holdsI D.size k;rw[hsz];exact hhe) hh0 hnb hcount (by show D.size≤A.room-A.used;rw[hsz,hrm,hu];omega)).mono ?_
 rintro e w' ⟨x,b,g,he,n1,n2,n3,G',k1,⟨ws,k2⟩,k3,k4,k5⟩
 have n2:W.heap.size≤b:=n2
 refine⟨x,⟨k,hh,first,nb,count,0,b,g⟩,he,?_⟩
 have hgr:=h.grow
 have hq:∀q∈A.st,q.1≠b:=fun q hq e=>by have:=(h.sys.buf hq).1.lt;omega
 obtain⟨q1,q2,q3⟩:=k2.lt
 have hstep:=hgr.step (a':=rxO X.p x ⟨k,hh,first,nb,count,0,b,g⟩ X.sz) (D':=D) (A':=grant A b D.size) (S':=S) (nil_at os) k1 (k4.mono fun k hk=>.inl hk) k5 rxO_ok ⟨ws,by rw[←hsz];exact k2⟩ (fun k hk=>?_) ⟨rfl,rfl⟩ h.alive id h.acts (fun _ _=>rfl) trivial rfl (by show A.used+D.size+0=A.used+X.sz;omega) (fun b n hw _=>wordsAt_append _ _ _ _ _ hw) (fun b' n hb=>by injection hb with hb;injection hb with h1 h2;subst h1 h2;rw[←hsz];exact wordsAt_new _ _ _ hq) ⟨rfl,rfl⟩ (fun z=>⟨fun hz=>⟨.inl hz,inX_zero _ _⟩,fun hz=>hz.1.elim id fun hx=>absurd hx (inX_zero _ _)⟩) (fun z hz=>absurd hz (inX_zero _ _)) rfl
 ·rw[snoc_set]at hstep
  exact⟨_,_,_,_,hstep⟩
 ·exact hk.elim (fun e=>by rw[e];exact⟨.inr n1,q1,k3.x⟩) fun hk=>hk.elim (fun e=>by rw[e];exact⟨.inr n2,q2,k3.b⟩) fun e=>by rw[e];exact⟨.inr n3,q3,k3.g⟩
theorem wd_xclose(u:FrameMode)(h:Wd X os m W)(hi:os[i]?=some (rxO X.p x r X.sz)):
  CallsD Tryz.prog 40 #[.pointer (some ⟨x,0,none⟩)] u W fun e u' w'=>u'=u∧(e=.returned (.tuple #[])∧Wd X (os.set i nilO) m w'):=by
 obtain⟨G,D,A,S,h⟩:=h
 obtain⟨ws,hm⟩:=(h.mem i _ hi).1
 have hsz:=h.size
 have hst2:wordsAt A.st r.b=some X.sz:=h.st i _ r.b X.sz hi rfl
 have ho:XOut G x r:=⟨((h.mem i _ hi).2 x (.inl rfl)).2.2,((h.mem i _ hi).2 r.b (.inr (.inl rfl))).2.2,((h.mem i _ hi).2 r.g (.inr (.inr rfl))).2.2⟩
 have hm':XMem W x X.p r D.size ws:=by rw[hsz];exact hm
 refine(xclose_def u (F:=⟨D,A,S⟩) h.sys hm' ho (by show wordsAt A.st r.b=some D.size;rw[hsz];exact hst2)).mono ?_
 rintro e u' w' ⟨hu,he,G',k1,k2,k3,k4⟩
 have k1:Sys w' G' X.p ⟨D,release A r.b X.sz,S⟩ (X.n+m):=by rw[←hsz];exact k1
 refine⟨hu,he,G',_,_,_,h.step hi k1 (k3.mono fun k hk=>hk.imp_right fun e=>.inr (.inl e)) k4 nilO_ok trivial (fun k hk=>hk.elim) ⟨rfl,rfl⟩ h.alive id h.acts (fun z _=>rfl) trivial rfl ?_ (fun b n hw hb=>wordsAt_without _ _ _ _ hw fun e=>hb (.inr (.inl e))) (fun b n hb=>by cases hb) ⟨rfl,rfl⟩ (fun z=>⟨fun hz=>⟨.inl hz,inX_zero _ _⟩,fun hz=>hz.1.elim id fun hx=>absurd hx (inX_zero _ _)⟩) (fun z hz=>absurd hz (inX_zero _ _)) rfl⟩
 have hu:=release_used h.sys.sound hst2
 show (release A r.b X.sz).used+X.sz=A.used+0
 exact hu
end
theorem give_def(fm:FrameMode)(p:Nat)(s:Sp)(G:Nat→Prop)(f n:Int)(w:World)(h:Spc w G p s)(hf:I64 f)(hn:I64 n):
  CallsD Tryz.prog 86 #[.pointer (some ⟨p,0,none⟩),.int .i64 f,.int .i64 n] fm w fun e u' w'=>u'=fm∧(e=.returned (.int .i64 ((giveS s f n).2:Nat))∧Next w G p (giveS s f n).1 w'):=by
 by_cases h1:n<1
 ·have g1:decide (n<1)=true:=by simpa using h1
  have HTS:giveS s f n=(s,1):=by unfold giveS;rw[if_pos (.inl h1)]
  rw[HTS]
  have HN:Hid (Next w G p s w):=Next.refl h
  clear h h1 HTS
  go_enter_d Tryz.func86,Tryz.ntmps86
  go_wp2
  go_ret
  exact⟨rfl,HN.out⟩
 have g1:decide (n<1)=false:=by simpa using h1
 obtain⟨hok,v,hr,ho,hG⟩:=id h
 obtain⟨A,c,rfl,hnc,hcm,_⟩:=own2_form ho
 have hlen:=hok.len
 have hhi:s.first+s.blocks≤2000000:=by have:=hok.1;have:=hok.2.1;omega
 have c0:w.cell? ⟨p,0,none⟩=some (.int .i64 s.first):=hr.cell 0
 have c1:w.cell? ⟨p,1,none⟩=some (.int .i64 s.blocks):=hr.cell 1
 have c2:w.cell? ⟨p,2,none⟩=some (.slice A s.fr.length c):=hr.cell 2
 have hpl:=hr.lt
 have HH:Hid (∀W,Calls Tryz.prog 99 #[.agg #[.int .i64 s.first,.int .i64 s.blocks],.int .i64 f,.int .i64 n] W fun e w'=>e=.returned (.bool (decide ((s.first:Int)≤f)&&decide (n≤((s.first+s.blocks:Nat):Int)-f)))∧Below W.heap.size W w'):=fun W=>holds_any s.first s.blocks f n W (by omega) hf
 by_cases h2:¬((s.first:Int)≤f∧n≤((s.first+s.blocks:Nat):Int)-f)
 ·have hht:(decide ((s.first:Int)≤f)&&decide (n≤((s.first+s.blocks:Nat):Int)-f))=false:=by
   cases hq:(decide ((s.first:Int)≤f)&&decide (n≤((s.first+s.blocks:Nat):Int)-f))with
   |false=>rfl
   |true=>simp only[Bool.and_eq_true,decide_eq_true_eq]at hq;exact absurd hq h2
  have HTS:giveS s f n=(s,1):=by unfold giveS;rw[if_pos (.inr (.inl h2))]
  rw[HTS]
  have HHT:=Lib.hid hht
  have H:=Lib.hid h
  generalize s.fr.length=N at*
  clear h h1 h2 HTS hht hok hr ho hG
  go_enter_d Tryz.func86,Tryz.ntmps86
  go_wp2_with fail
  refine(HH.out _).mono ?_
  rintro e w2 ⟨rfl,hb2⟩
  rw[HHT.out]
  have HX:Hid (Next w G p s w2):=Next.of_below H.out hb2
  clear hb2
  go_wp2
  go_ret
  exact⟨rfl,HX.out⟩
 have h2:=Classical.not_not.1 h2
 obtain⟨f,rfl⟩:∃f':Nat,f=(f':Int):=⟨f.toNat,by omega⟩
 obtain⟨n',rfl⟩:∃n':Nat,n=(n':Int):=⟨n.toNat,by omega⟩
 have hht:(decide ((s.first:Int)≤(f:Int))&&decide ((n':Int)≤((s.first+s.blocks:Nat):Int)-(f:Int)))=true:=by simp only[Bool.and_eq_true,decide_eq_true_eq];exact h2
 have HHT:=Lib.hid hht
 have HTS:giveS s (f:Int) (n':Int)=if nextI s.fr f<s.fr.length∧(xAt s.fr (nextI s.fr f)).1<f+n' then (s,1)else ({s with fr:=joinL s.fr (nextI s.fr f) f n'},0):=by
  unfold giveS
  simp only[Int.toNat_natCast]
  by_cases hq:nextI s.fr f<s.fr.length∧(xAt s.fr (nextI s.fr f)).1<f+n'
  ·rw[if_pos hq,if_pos (.inr (.inr hq))]
  ·rw[if_neg hq,if_neg (by rintro(h3|h3|h3);exact h1 h3;exact h3 h2;exact hq h3)]
 have hf1:s.first≤f:=by omega
 have hf2:f+n'≤s.first+s.blocks:=by omega
 have hnn:1≤n':=by omega
 have hfn4:f+n'≤2000000:=by omega
 have hno:=next_none hok.2.2 (f:=f) hnn
 have hiz:nextI s.fr f≤s.fr.length:=List.findIdx_le_length
 have HNX:Hid (∀W,Below w.heap.size w W→Calls Tryz.prog 98 #[.pointer (some ⟨p,0,none⟩),.int .i64 (f:Int)] W fun e w'=>e=.returned (.int .i64 (nextI s.fr f:Nat))∧Below W.heap.size W w'):=fun W hb=>by
  have:=spnext_any p s G (f:Int) W (h.below hb)
  rw[nextZ_nat]at this
  exact this
 have HJ:Hid (¬(nextI s.fr f<s.fr.length∧(xAt s.fr (nextI s.fr f)).1<f+n')→∀W,Below w.heap.size w W→Calls Tryz.prog 102 #[.pointer (some ⟨p,0,none⟩),.int .i64 (nextI s.fr f:Nat),.agg #[.int .i64 (f:Int),.int .i64 (n':Int)]] W fun e w'=>e=.returned (.tuple #[])∧Next w G p {s with fr:=joinL s.fr (nextI s.fr f) f n'} w'):=fun hq W hb=>
  (join_any p s G (nextI s.fr f) f n' W (h.below hb) rfl hf1 hf2 hnn (hno.2 fun hlt=>by
   rcases Nat.lt_or_ge (xAt s.fr (nextI s.fr f)).1 (f+n')with h3|h3
   ·exact absurd ⟨hlt,h3⟩ hq
   ·exact h3)).mono fun e w' ⟨G',h1,h2⟩=>⟨h1,Next.behind hb ⟨G',h2⟩⟩
 obtain⟨u,hu⟩:∃u,f+n'=u:=⟨_,rfl⟩
 have HE:Hid (∀W,Calls Tryz.prog 101 #[.agg #[.int .i64 (f:Int),.int .i64 (n':Int)]] W fun e w'=>e=.returned (.int .i64 (u:Nat))∧Below W.heap.size W w'):=fun W=>by have:=end_any f n' W (by omega);rwa [hu]at this
 rw[hu]at HTS HJ
 have HAT:Hid (∀k,k<s.fr.length→∃g,A=some ⟨g,0,none⟩∧g<w.heap.size∧w.cell? ⟨g,k*2,none⟩=some (.int .i64 (xAt s.fr k).1)∧w.cell? ⟨g,k*2+1,none⟩=some (.int .i64 (xAt s.fr k).2)):=fun k hk=>own2_at ho hk
 have H:=Lib.hid h
 obtain⟨N,hN⟩:∃N,N=s.fr.length:=⟨_,rfl⟩
 rw[←hN]at c2 hlen hiz HTS HJ HAT
 have HN:=Lib.hid hN
 generalize joinL s.fr (nextI s.fr f) f n'=R at*
 generalize nextI s.fr f=i at*
 have hbx:=fun(W:World) (hb:Below w.heap.size w W)=>(hb.alloc (o:=.cells #[.int .i64 (f:Int),.int .i64 (n':Int)] 106) hb.size)
 have HBX:=Lib.hid hbx
 clear h h1 h2 hht hok hr ho hG hno hu hhi hN hbx hf1 hf2
 by_cases hlt:i<N
 ·obtain⟨g,rfl,hg,hc0,hc1⟩:=HAT.out i hlt
  generalize(xAt s.fr i).1=a at*
  have ii0:(0:Int)≤(i:Int):=by omega
  have ii1:(i:Int)<(N:Int):=by omega
  have gi:decide ((i:Int)<(N:Int))=true:=by simp;omega
  have gi2:decide (i<N)=true:=by simp;omega
  by_cases hau:a<u
  ·have ga:decide ((a:Int)<(u:Int))=true:=by simp;omega
   have ga2:decide (a<u)=true:=by simp;omega
   rw[if_pos ⟨hlt,hau⟩]at HTS
   rw[HTS]
   dsimp only
   clear HTS HJ
   go_enter_d Tryz.func86,Tryz.ntmps86
   go_wp2_with fail
   refine(HH.out _).mono ?_
   rintro e w2 ⟨rfl,hb2⟩
   rw[HHT.out]
   have HB2:=Lib.hid hb2
   clear hb2
   go_wp2_with fail
   refine(HNX.out _ (HBX.out _ HB2.out)).mono ?_
   rintro e w3 ⟨rfl,hb3⟩
   have hbx:Row (w2.alloc (.cells #[.int .i64 (f:Int),.int .i64 (n':Int)] 106)) w2.heap.size 106 [.int .i64 (f:Int),.int .i64 (n':Int)]:=heap_alloc_new _ _
   have hbx3:=hbx.below hb3 (by simp)
   have HB3:=Lib.hid ((HBX.out _ HB2.out).trans (hb3.mono (HBX.out _ HB2.out).size))
   have b0:w3.cell? ⟨w2.heap.size,0,none⟩=some (.int .i64 (f:Int)):=hbx3.cell 0
   have b1:w3.cell? ⟨w2.heap.size,1,none⟩=some (.int .i64 (n':Int)):=hbx3.cell 1
   have c2':=(HB3.out.cell (p:=⟨p,2,none⟩) hpl).trans c2
   have hs2:w2.heap.size<w3.heap.size:=hbx3.lt
   have hpl3:p<w3.heap.size:=by have:=HB3.out.size;omega
   have d0:=(HB3.out.cell (p:=⟨g,i*2,none⟩) hg).trans hc0
   have hg3:g<w3.heap.size:=by have:=HB3.out.size;omega
   clear hb3 hbx hbx3 HB2 HNX HH HHT c0 c1 c2 hc0 hc1
   go_wp2
   go_region_held3 (fun w'=>Below w3.heap.size w3 w'∧w'.cell? ⟨p,2,none⟩=some (.slice (some ⟨g,0,none⟩) N c)∧w'.cell? ⟨w2.heap.size,0,none⟩=some (.int .i64 (f:Int))∧w'.cell? ⟨w2.heap.size,1,none⟩=some (.int .i64 (n':Int))∧w'.cell? ⟨g,i*2,none⟩=some (.int .i64 (a:Int)))
    (first
     |(exact⟨below_drewN (Below.refl _ _) 1,c2',b0,b1,d0⟩)
     |(exact⟨hacc,(hacc.cell hpl3).trans c2',(hacc.cell hs2).trans b0,(hacc.cell hs2).trans b1,(hacc.cell hg3).trans d0⟩))
    ((go_split_ands;go_at_call 101;(with_reducible refine(HE.out _).mono ?_);rintro e w4 ⟨rfl,hb4⟩;have hacc:Below w3.heap.size w3 w4:=Below.trans (by assumption) (Below.mono hb4 (Below.size (by assumption)))))
   have HX:Hid (Next w G p s w4):=Next.of_below H.out (HB3.out.trans (hacc.mono HB3.out.size))
   clear hacc
   go_wp2
   go_ret
   exact⟨rfl,HX.out⟩
  ·have ga:decide ((a:Int)<(u:Int))=false:=by simp;omega
   have ga2:decide (a<u)=false:=by simp;omega
   rw[if_neg (fun hh=>hau hh.2)]at HTS
   rw[HTS]
   dsimp only
   have HQ:Hid (¬(i<N∧a<u)):=fun hh=>hau hh.2
   clear HTS
   go_enter_d Tryz.func86,Tryz.ntmps86
   go_wp2_with fail
   refine(HH.out _).mono ?_
   rintro e w2 ⟨rfl,hb2⟩
   rw[HHT.out]
   have HB2:=Lib.hid hb2
   clear hb2
   go_wp2_with fail
   refine(HNX.out _ (HBX.out _ HB2.out)).mono ?_
   rintro e w3 ⟨rfl,hb3⟩
   have hbx:Row (w2.alloc (.cells #[.int .i64 (f:Int),.int .i64 (n':Int)] 106)) w2.heap.size 106 [.int .i64 (f:Int),.int .i64 (n':Int)]:=heap_alloc_new _ _
   have hbx3:=hbx.below hb3 (by simp)
   have HB3:=Lib.hid ((HBX.out _ HB2.out).trans (hb3.mono (HBX.out _ HB2.out).size))
   have b0:w3.cell? ⟨w2.heap.size,0,none⟩=some (.int .i64 (f:Int)):=hbx3.cell 0
   have b1:w3.cell? ⟨w2.heap.size,1,none⟩=some (.int .i64 (n':Int)):=hbx3.cell 1
   have c2':=(HB3.out.cell (p:=⟨p,2,none⟩) hpl).trans c2
   have hs2:w2.heap.size<w3.heap.size:=hbx3.lt
   have hpl3:p<w3.heap.size:=by have:=HB3.out.size;omega
   have d0:=(HB3.out.cell (p:=⟨g,i*2,none⟩) hg).trans hc0
   have hg3:g<w3.heap.size:=by have:=HB3.out.size;omega
   clear hb3 hbx hbx3 HB2 HNX HH HHT c0 c1 c2 hc0 hc1
   go_wp2
   go_region_held3 (fun w'=>Below w3.heap.size w3 w'∧w'.cell? ⟨p,2,none⟩=some (.slice (some ⟨g,0,none⟩) N c)∧w'.cell? ⟨w2.heap.size,0,none⟩=some (.int .i64 (f:Int))∧w'.cell? ⟨w2.heap.size,1,none⟩=some (.int .i64 (n':Int))∧w'.cell? ⟨g,i*2,none⟩=some (.int .i64 (a:Int)))
    (first
     |(exact⟨below_drewN (Below.refl _ _) 1,c2',b0,b1,d0⟩)
     |(exact⟨hacc,(hacc.cell hpl3).trans c2',(hacc.cell hs2).trans b0,(hacc.cell hs2).trans b1,(hacc.cell hg3).trans d0⟩))
    ((go_split_ands;go_at_call 101;(with_reducible refine(HE.out _).mono ?_);rintro e w4 ⟨rfl,hb4⟩;have hacc:Below w3.heap.size w3 w4:=Below.trans (by assumption) (Below.mono hb4 (Below.size (by assumption)))))
   have HJ4:=Lib.hid (HJ.out HQ.out w4 (HB3.out.trans (hacc.mono HB3.out.size)))
   have b04:=(hacc.cell (p:=⟨w2.heap.size,0,none⟩) hs2).trans b0
   have b14:=(hacc.cell (p:=⟨w2.heap.size,1,none⟩) hs2).trans b1
   clear hacc b0 b1 c2' d0
   go_wp2_with fail
   refine HJ4.out.mono ?_
   rintro e w5 ⟨rfl,hx⟩
   have HX:=Lib.hid hx
   clear hx
   go_wp2
   go_ret
   exact⟨rfl,HX.out⟩
 ·have gi:decide ((i:Int)<(N:Int))=false:=by simp;omega
  have gi2:decide (i<N)=false:=by simp;omega
  rw[if_neg (fun hh=>hlt hh.1)]at HTS
  rw[HTS]
  dsimp only
  have HQ:Hid (¬(i<N∧(xAt s.fr i).1<u)):=fun hh=>hlt hh.1
  clear HTS
  go_enter_d Tryz.func86,Tryz.ntmps86
  go_wp2_with fail
  refine(HH.out _).mono ?_
  rintro e w2 ⟨rfl,hb2⟩
  rw[HHT.out]
  have HB2:=Lib.hid hb2
  clear hb2
  go_wp2_with fail
  refine(HNX.out _ (HBX.out _ HB2.out)).mono ?_
  rintro e w3 ⟨rfl,hb3⟩
  have hbx:Row (w2.alloc (.cells #[.int .i64 (f:Int),.int .i64 (n':Int)] 106)) w2.heap.size 106 [.int .i64 (f:Int),.int .i64 (n':Int)]:=heap_alloc_new _ _
  have hbx3:=hbx.below hb3 (by simp)
  have HB3:=Lib.hid ((HBX.out _ HB2.out).trans (hb3.mono (HBX.out _ HB2.out).size))
  have b0:w3.cell? ⟨w2.heap.size,0,none⟩=some (.int .i64 (f:Int)):=hbx3.cell 0
  have b1:w3.cell? ⟨w2.heap.size,1,none⟩=some (.int .i64 (n':Int)):=hbx3.cell 1
  have c2':=(HB3.out.cell (p:=⟨p,2,none⟩) hpl).trans c2
  have hs2:w2.heap.size<w3.heap.size:=hbx3.lt
  have hpl3:p<w3.heap.size:=by have:=HB3.out.size;omega
  clear hb3 hbx hbx3 HB2 HNX HH HHT c0 c1 c2
  go_wp2
  go_quiet (fail)
  have HJ4:=Lib.hid (HJ.out HQ.out (w3.drewN nq) (below_drewN HB3.out nq))
  go_wp2_with fail
  refine HJ4.out.mono ?_
  rintro e w5 ⟨rfl,hx⟩
  have HX:=Lib.hid hx
  clear hx
  go_wp2
  go_ret
  exact⟨rfl,HX.out⟩
def hxO(a n:Nat):Asn:=⟨fun _=>False,fun _=>True,none,(a,n),fun _=>True⟩
theorem hxO_ok{a n:Nat}:(hxO a n).Ok:=⟨fun _ _ _ _=>trivial,fun _ _ _ _ _=>trivial,fun _ _ h=>by cases h⟩
section
variable {X : Cx} {os : List Asn} {m i : Nat} {W W' : World} {G : Nat → Prop} {D : St} {A : Ar} {S : Sp} {a : Asn}
def FreeX(X:Cx)(os:List Asn)(z:Nat):Prop:=hasB X.S0.fr z∧∀(i:Nat) (o:Asn),os[i]?=some o→¬inX o.ex z
theorem wd_hold{f n:Nat}(h:Wd X os m W)(hn:1≤n)(hf:f+n≤3000000)(hfr:∀z,f≤z→z<f+n→FreeX X os z):
  Calls Tryz.prog 85 #[.pointer (some ⟨X.p.s,0,none⟩),.int .i64 f,.int .i64 n] W fun e w'=>e=.returned (.int .i64 0)∧Wd X (os++[hxO f n]) m w':=by
 obtain⟨G,D,A,S,h⟩:=h
 have hroom:roomB S f n:=fun z h1 h2=>(h.free z).2 (hfr z h1 h2)
 obtain⟨Gs,hs,hback⟩:=h.sys.spc
 refine(hold_any X.p.s S Gs f n W hs (I64.of (by omega) (by omega)) (I64.of (by omega) (by omega))).mono ?_
 rintro e w' ⟨he,h1⟩
 obtain⟨G',k1,k2,k3⟩:=hback _ _ h1
 rcases holdS_spec (s:=S) h.sys.sok (f:Int) (n:Int)with⟨s',a',m',ha,hm,h1,he',ht⟩|⟨_,hbad⟩
 ·obtain rfl:a'=f:=by omega
  obtain rfl:m'=n:=by omega
  rw[he']at he k1
  have hstep:=h.grow.step (a':=hxO a' m') (D':=D) (A':=A) (S':=s') (nil_at os) k1 (k2.mono fun k hk=>.inl hk) k3 hxO_ok trivial (fun k hk=>hk.elim) ⟨rfl,rfl⟩ h.alive id h.acts (fun _ _=>rfl) trivial rfl rfl (fun _ _ hw _=>hw) (fun b n hb=>by cases hb) ⟨ht.first,ht.blocks⟩ (fun z=>?_) (fun z hz=>.inr (hroom z hz.1 hz.2)) ?_
  ·rw[snoc_set]at hstep
   exact⟨he,_,_,_,_,hstep⟩
  ·rw[ht.has]
   exact⟨fun hq=>⟨.inl hq.1,hq.2⟩,fun hq=>⟨hq.1.elim id fun hx=>absurd hx (inX_zero _ _),hq.2⟩⟩
  ·exact ht.sum
 ·exact absurd hroom (hbad f n rfl rfl hn)
theorem wd_give_def(fm:FrameMode){f n:Nat}(h:Wd X os m W)(hi:os[i]?=some (hxO f n))(hn:1≤n)(hf:f+n≤3000000):
  CallsD Tryz.prog 86 #[.pointer (some ⟨X.p.s,0,none⟩),.int .i64 f,.int .i64 n] fm W fun e u' w'=>u'=fm∧(e=.returned (.int .i64 0)∧Wd X (os.set i nilO) m w'):=by
 obtain⟨G,D,A,S,h⟩:=h
 obtain⟨hh1,hh2⟩:=h.held hi
 have hh1:∀z,inX (f,n) z→¬hasB S.fr z:=hh1
 have hh2:0<n→S.first≤f∧f+n≤S.first+S.blocks:=hh2
 obtain⟨Gs,hs,hback⟩:=h.sys.spc
 refine(give_def fm X.p.s S Gs f n W hs (I64.of (by omega) (by omega)) (I64.of (by omega) (by omega))).mono ?_
 rintro e u' w' ⟨hu,he,h1⟩
 obtain⟨G',k1,k2,k3⟩:=hback _ _ h1
 rcases giveS_spec (s:=S) h.sys.sok (f:Int) (n:Int)with⟨s',a',m',ha,hm,h1,he',hg⟩|⟨_,hbad⟩
 ·obtain rfl:a'=f:=by omega
  obtain rfl:m'=n:=by omega
  rw[he']at he k1
  refine⟨hu,he,G',_,_,_,h.step hi k1 (k2.mono fun k hk=>.inl hk) k3 nilO_ok trivial (fun k hk=>hk.elim) ⟨rfl,rfl⟩ h.alive id h.acts (fun _ _=>rfl) trivial rfl rfl (fun _ _ hw _=>hw) (fun b n hb=>by cases hb) ⟨hg.first,hg.blocks⟩ (fun z=>?_) (fun z hz=>absurd hz (inX_zero _ _)) ?_⟩
  ·rw[hg.has]
   exact⟨fun hq=>⟨hq,inX_zero _ _⟩,fun hq=>hq.1⟩
  ·exact hg.sum
 ·exact absurd ⟨(hh2 (by omega)).1,(hh2 (by omega)).2,fun z z1 z2=>hh1 z ⟨z1,z2⟩⟩ (hbad f n rfl rfl hn)
theorem wd_extents9(h:Wd X os m W):Calls Tryz.prog 84 #[.pointer (some ⟨X.p.s,0,none⟩)] W fun e w'=>∃A n c l,e=.returned (.slice A n c)∧w'.ownsRow 0 106 2 (.slice A n c) n (flatX l)∧n≤1000000∧
  (∀i,i<n→(xAt l i).1+(xAt l i).2≤3000000)∧(∀i,i<n→∀z,(xAt l i).1≤z→z<(xAt l i).1+(xAt l i).2→FreeX X os z)∧(X.S0=newSp 0 5000→(∀(j:Nat) (a:Asn),os[j]?=some a→a.ex.2=0)→n=1∧l=[(0,5000)])∧Below W.heap.size W w':=by
 obtain⟨G,D,A,S,hF⟩:=h
 obtain⟨Gd,Ga,Gs,hr,hd,ha,hs,_⟩:=hF.sys
 have hok:S.ok:=hs.1
 refine(extents_any X.p.s S Gs W hs).mono ?_
 rintro e w' ⟨v',rfl,ho,hb⟩
 have ho0:w'.ownsRow 0 106 2 v' S.fr.length (flatX S.fr):=by
  obtain⟨h1,h2⟩:=ho
  refine⟨h1,?_⟩
  rcases h2 with h2|⟨g,cap,cur,rfl,hg,r⟩
  ·exact .inl h2
  ·exact .inr ⟨g,cap,cur,rfl,Nat.zero_le _,r⟩
 obtain⟨A',c,rfl,_,_,_⟩:=own2_form ho0
 refine⟨A',_,c,S.fr,rfl,ho0,hok.len,fun i hi=>?_,fun i hi z h1 h2=>?_,fun hS hos=>?_,hb⟩
 ·have:=(hok.2.2.getD hi).2.2
  have:=hok.1
  have:=hok.2.1
  omega
 ·exact(hF.free z).1 ⟨xAt S.fr i,getD_lt hi,h1,h2⟩
 ·have hsp:=hF.sp
  have hfree:=hF.free
  rw[hS]at hsp hfree
  have e1:(newSp 0 5000).fr=[(0,5000)]:=rfl
  have e2:(newSp 0 5000).first=0:=rfl
  have e3:(newSp 0 5000).blocks=5000:=rfl
  have hl:S.fr=[(0,5000)]:=by
   refine Canon.only (hi:=S.first+S.blocks) (lo:=S.first) hok.2.2 ?_ fun b=>?_
   ·rw[hsp.1,hsp.2]
    exact⟨Nat.le_refl _,by decide,by decide,trivial⟩
   ·rw[hfree b,e1]
    refine⟨fun hq=>hq.1,fun hq=>⟨hq,fun i o ho hx=>?_⟩⟩
    have:=hos i o ho
    unfold inX at hx
    omega
  exact⟨by rw[hl];rfl,hl⟩
end
section
variable {X : Cx} {os : List Asn} {m : Nat} {W : World}
theorem wd_writex{k hh c:Nat}(h:Wd X os m W)(hhe:hh=holdsI X.sz k)(hh0:0<hh)(hbn:blocksN hh c=4000000)(hc:c≤100000000)(hroom:X.sz+sumN Asn.gw os≤X.rm):
  Calls Tryz.prog 52 #[.pointer (some ⟨X.p.w,0,none⟩),.int .i64 k,.int .i64 c] W fun e w'=>e=.returned (.tuple #[.pointer none,.int .i64 5])∧Wd X os m w':=by
 obtain⟨G,D,A,S,h⟩:=h
 have hsz:=h.size
 have hu:=h.used
 have hrm:=h.room
 have hwa:WArgs ⟨D,A,S⟩ (k:Int) (c:Int):=⟨by show holdsI D.size k≠0;rw[hsz];omega,by omega,by omega⟩
 refine(fwrite_any (F:=⟨D,A,S⟩) h.sys (k:Int) (c:Int)).mono ?_
 rintro e w' (⟨er,he,hw,hs⟩|⟨x,t,S',he,_,_,h1,h2,h3,_,h4,htk,_⟩)
 ·rcases hw with⟨_,hno⟩|⟨_,_,hlt⟩|⟨rfl,_,_,hpos,hno⟩
  ·exact absurd hwa hno
  ·have hlt:A.room-A.used<D.size:=hlt
   omega
  ·refine⟨he,?_⟩
   obtain⟨G',h1,h2,h3⟩:=hs
   have hstep:=h.grow.step (nil_at os) h1 (h2.mono fun k hk=>.inl hk) h3 nilO_ok trivial (fun k hk=>hk.elim) ⟨rfl,rfl⟩ h.alive id h.acts (fun _ _=>rfl) trivial rfl rfl (fun _ _ hw _=>hw) (fun _ _ hb=>by cases hb) ⟨rfl,rfl⟩ (fun z=>⟨fun hz=>⟨.inl hz,inX_zero _ _⟩,fun hz=>hz.1.elim id fun hx=>absurd hx (inX_zero _ _)⟩) (fun z hz=>.inl hz) rfl
   rw[snoc_set]at hstep
   exact Wd.drop ⟨_,_,_,_,hstep⟩ rfl rfl
 ·exfalso
  have h3:t.h=holdsI D.size (k:Int):=h3
  have hk:t.h=hh:=by rw[h3,hsz,hhe]
  have hb:t.bound=c:=by omega
  rw[hk,hb,hbn]at h4
  have hok:=h.sys.sok
  rcases htk with⟨h0,_⟩|⟨hpos,ht,_⟩
  ·omega
  ·have h5:=took_le hpos hok ht
   have h6:=hok.1
   have h7:=hok.2.1
   simp only at h5 h6 h7
   omega
theorem jwrite_x1{k hh c rb ir cr:Nat}{f0 f1:Int}(h:Wd X os m W)(hir:os[ir]?=some (rowO rb 31 [.int .i64 f0,.int .i64 f1,.int .i64 k,.int .i64 c]))(hS:X.S0=newSp 0 5000)(hos:∀(j:Nat) (a:Asn),os[j]?=some a→a.ex.2=0)(hhe:hh=holdsI X.sz k)(hh0:0<hh)(hbn:blocksN hh c=4000000)(hc:c≤100000000)(hroom:X.sz+sumN Asn.gw os≤X.rm):
  Calls Tryz.prog 67 #[.pointer (some ⟨X.p.w,0,none⟩),.int .i64 k,.slice (some ⟨rb,0,none⟩) 1 cr] W fun e w'=>e=.returned (.tuple #[.pointer none,.int .i64 5])∧Wd X os m w':=by
 obtain⟨z,hz⟩:∃z:Int,IntKind.i64.wrap (f0+f1)=z:=⟨_,rfl⟩
 have HFR:Hid (∀t,hasB X.S0.fr t→t<5000):=fun t ht=>by
  rw[hS]at ht
  have e1:(newSp 0 5000).fr=[(0,5000)]:=rfl
  rw[e1]at ht
  obtain⟨x,hx,h1,h2⟩:=ht
  simp at hx
  subst hx
  simpa using h2
 have HFR2:Hid (∀t,t<5000→(∀z,z<5000→hasB X.S0.fr z)):=fun t _ z hz=>by
  rw[hS]
  exact⟨(0,5000),by simp[newSp],Nat.zero_le _,by simpa using hz⟩
 have HSH1:Hid (∀(A:Option Addr) (C:Nat) (w:World),w.ownsRow 0 106 2 (.slice A 1 C) 1 (flatX [(0,5000)])→Calls Tryz.prog 83 #[.slice A 1 C,.agg #[.int .i64 f0,.int .i64 f1,.int .i64 k,.int .i64 c]] w fun e w'=>∃v,e=.returned v∧SH f0 z w 0 5000 v w'):=fun A C w ho=>by
  have:=shared_one (f0:=f0) (f1:=f1) (k:=k) (count:=c) ho (by omega)
  rw[hz]at this
  exact this
 have HH:=Lib.hid (And.intro hhe (And.intro hh0 hc))
 have HBN:=Lib.hid hbn
 have HRM:=Lib.hid hroom
 have HZ:=Lib.hid hz
 have HS:=Lib.hid hS
 have HOS:=Lib.hid hos
 have HIR:=Lib.hid hir
 have H:=Lib.hid h
 have hmin:(if (100000000:Int)<(c:Int)then (100000000:Int)else (c:Int))=(c:Int):=by rw[if_neg (by omega)]
 clear h hhe hh0 hbn hc hroom hz hS hos hir
 go_enter_defers Tryz.func67,Tryz.ntmps67
 go_wp2_with fail
 refine wp_loop_rounds 2 ?_
 rw[rounds_succ]
 have p0:W.cell? ⟨rb,0,none⟩=some (.int .i64 f0):=(H.out.row HIR.out).cell 0
 have p1:W.cell? ⟨rb,1,none⟩=some (.int .i64 f1):=(H.out.row HIR.out).cell 1
 have p2:W.cell? ⟨rb,2,none⟩=some (.int .i64 k):=(H.out.row HIR.out).cell 2
 have p3:W.cell? ⟨rb,3,none⟩=some (.int .i64 c):=(H.out.row HIR.out).cell 3
 have hrbl:rb<W.heap.size:=(H.out.row HIR.out).lt
 obtain⟨w3,hw3⟩:∃w3,w3=W.alloc (.cells #[.int .i64 f0,.int .i64 f1,.int .i64 k,.int .i64 c] 31):=⟨_,rfl⟩
 have hb3:Below W.heap.size W w3:=by rw[hw3];exact(Below.refl _ _).alloc (Nat.le_refl _) _
 have hr3:Row w3 W.heap.size 31 [.int .i64 f0,.int .i64 f1,.int .i64 k,.int .i64 c]:=by rw[hw3];exact heap_alloc_new _ _
 have HD:Hid (Wd X os m w3):=H.out.below hb3
 have HE:Hid (Wd X os m w3.drew):=HD.out.drewN 1
 have HCE:Hid (∀w,Below w3.heap.size w3 w→w.cell? ⟨W.heap.size,0,none⟩=some (.int .i64 f0)∧w.cell? ⟨W.heap.size,1,none⟩=some (.int .i64 f1)∧w.cell? ⟨W.heap.size,2,none⟩=some (.int .i64 k)∧w.cell? ⟨W.heap.size,3,none⟩=some (.int .i64 c)):=fun w hb=>by
  have h9:=hr3.below hb hr3.lt
  exact⟨h9.cell 0,h9.cell 1,h9.cell 2,h9.cell 3⟩
 have c0:=HCE.out w3.drew (below_drewN (Below.refl w3.heap.size w3) 1)
 have HSP:=Lib.hid (wd_spc HE.out)
 have HEX:Hid (Calls Tryz.prog 84 #[.pointer (some ⟨X.p.s,0,none⟩)] w3.drew fun e w'=>∃A5 n5 c5 l,e=.returned (.slice A5 n5 c5)∧w'.ownsRow 0 106 2 (.slice A5 n5 c5) n5 (flatX l)∧n5≤1000000∧(∀i,i<n5→(xAt l i).1+(xAt l i).2≤3000000)∧(∀i,i<n5→∀z,(xAt l i).1≤z→z<(xAt l i).1+(xAt l i).2→FreeX X os z)∧(X.S0=newSp 0 5000→(∀(j:Nat) (o:Asn),os[j]?=some o→o.ex.2=0)→n5=1∧l=[(0,5000)])∧Below w3.drew.heap.size w3.drew w'):=wd_extents9 HE.out
 have HW3:=Lib.hid hw3
 clear hw3 hb3 hr3
 go_upto_region 4 with(fail)
 rw[←HW3.out]
 go_region_held3 (fun w=>w.cell? ⟨W.heap.size,0,none⟩=some (.int .i64 f0)∧w.cell? ⟨W.heap.size,1,none⟩=some (.int .i64 f1)∧w.cell? ⟨W.heap.size,2,none⟩=some (.int .i64 k)∧w.cell? ⟨W.heap.size,3,none⟩=some (.int .i64 c)) (first|with_reducible exact c0|with_reducible exact q5|with_reducible exact q6)
  (first
   |(go_at_call 37;(with_reducible refine HSP.out.mono ?_);rintro e w4 ⟨rfl,rfl⟩)
   |(go_at_call 84;(with_reducible refine HEX.out.mono ?_);rintro e w5 ⟨A5,n5,cc5,l5,rfl,h51,h52,h53,h54,h56,h55⟩;obtain⟨rfl,rfl⟩:=h56 HS.out HOS.out;have hb5:Below w3.heap.size w3 w5:=(below_drewN (Below.refl w3.heap.size w3) 1).trans h55;have q5:=HCE.out w5 hb5)
   |(go_at_call 83;(with_reducible refine(HSH1.out _ _ _ h51).mono ?_);rintro e w6 ⟨v6,rfl,h66⟩;obtain⟨A6,N6,C6,rfl⟩:=h66.form;have hb6:Below w3.heap.size w3 w6:=hb5.trans (h66.1.mono hb5.size);have q6:=HCE.out w6 hb6))
 rcases h66 with⟨hb66,(⟨e6,hno⟩|⟨g,cap,a,n,e6,hg1,hg2,u0,u1,hn,ha1,ha2,hcov⟩)⟩
 ·injection e6 with e61 e62 e63
  subst e61 e62 e63
  have H7:Hid (Wd X os m w6):=HD.out.below hb6
  clear c0 q5 q6 h51 h52 h53 h54 h55 h56 hb66 hb5 hb6 p0 p1 p2 p3 hrbl HW3 HSP HEX HCE HD HE HSH1
  go_wp2_with fail
  refine wp_loop_rounds 1 ?_
  rw[rounds_succ]
  go_wp2_with fail
  rw[rounds_succ]
  have p3:w6.cell? ⟨rb,3,none⟩=some (.int .i64 c):=(H7.out.row HIR.out).cell 3
  have HWR:=Lib.hid (wd_writex H7.out HH.out.1 HH.out.2.1 HBN.out HH.out.2.2 HRM.out)
  go_wp2_with fail
  refine HWR.out.mono ?_
  rintro e w9 ⟨rfl,hw9⟩
  have H9:=Lib.hid hw9
  clear hw9 HWR
  go_wp2
  exact⟨.tuple #[.pointer none,.int .i64 5],by simp[results,Tryz.results67,go_sem],rfl,H9.out⟩
 ·injection e6 with e61 e62 e63
  subst e61 e62 e63
  have H7:Hid (Wd X os m w6):=HD.out.below hb6
  have HAN:Hid (1≤n∧a+n≤3000000):=⟨hn,by omega⟩
  clear c0 q5 q6 h51 h52 h53 h54 h55 h56 hb66 hb5 hb6 p0 p1 p2 p3 hrbl HW3 HSP HEX HCE HD HE HSH1
  obtain⟨w7,hw7⟩:∃w7,w7=w6.alloc (.cells #[.int .i64 a,.int .i64 n] 106):=⟨_,rfl⟩
  obtain⟨eb,heb⟩:∃eb,eb=w6.heap.size:=⟨_,rfl⟩
  have hb7:Below w6.heap.size w6 w7:=by rw[hw7];exact(Below.refl _ _).alloc (Nat.le_refl _) _
  have hr7:Row w7 eb 106 [.int .i64 a,.int .i64 n]:=by rw[hw7,heb];exact heap_alloc_new _ _
  have H8:Hid (Wd X (os++[rowO eb 106 [.int .i64 a,.int .i64 n]]) m w7):=H7.out.new hb7 hr7 (by rw[heb];exact Nat.le_refl _)
  have HRM1:Hid (X.sz+sumN Asn.gw (os++[rowO eb 106 [.int .i64 a,.int .i64 n]]++[hxO a n])≤X.rm):=by
   unfold Hid
   rw[sumN_snoc,sumN_snoc]
   exact HRM.out
  have HIR0:=HIR.out
  replace HIR:Hid ((os++[rowO eb 106 [.int .i64 a,.int .i64 n]]++[hxO a n])[ir]?=some (rowO rb 31 [.int .i64 f0,.int .i64 f1,.int .i64 k,.int .i64 c])):=snoc_old (snoc_old HIR0)
  have HD8:Hid (Wd X (os++[rowO eb 106 [.int .i64 a,.int .i64 n]]) m w7.drew):=H8.out.drewN 1
  have HSP:=Lib.hid (wd_spc HD8.out)
  have HHO:Hid (Calls Tryz.prog 85 #[.pointer (some ⟨X.p.s,0,none⟩),.int .i64 a,.int .i64 n] w7.drew fun e w'=>e=.returned (.int .i64 0)∧Wd X (os++[rowO eb 106 [.int .i64 a,.int .i64 n]]++[hxO a n]) m w'):=wd_hold (H8.out.drewN 1) hn (by omega) fun y h1 h2=>⟨HFR2.out 0 (by omega) y (by omega),fun i o ho hx=>by
   rcases snoc_or ho with⟨_,rfl⟩|⟨_,ho⟩
   ·exact inX_zero _ _ hx
   ·have:=HOS.out i o ho
    unfold inX at hx
    omega⟩
  have HEB:Hid (∀os' w,Wd X (os++[rowO eb 106 [.int .i64 a,.int .i64 n]]++os') m w→w.cell? ⟨eb,0,none⟩=some (.int .i64 a)∧w.cell? ⟨eb,1,none⟩=some (.int .i64 n)):=fun os' w hw=>by
   have hq:=hw.row (i:=os.length) (g:=eb) (t:=106) (cs:=[.int .i64 a,.int .i64 n]) (by simp)
   exact⟨hq.cell 0,hq.cell 1⟩
  have t0:w7.drew.cell? ⟨eb,0,none⟩=some (.int .i64 a):=hr7.cell 0
  have t1:w7.drew.cell? ⟨eb,1,none⟩=some (.int .i64 n):=hr7.cell 1
  have HW7:=Lib.hid hw7
  clear hw7 hb7 hr7
  subst heb
  go_wp2_with fail
  refine wp_loop_rounds 2 ?_
  rw[rounds_succ]
  go_upto_region 7 with(fail)
  rw[←HW7.out]
  go_region_held3 (fun w=>w.cell? ⟨w6.heap.size,0,none⟩=some (.int .i64 a)∧w.cell? ⟨w6.heap.size,1,none⟩=some (.int .i64 n)) (first|with_reducible exact⟨t0,t1⟩|with_reducible exact qq)
   (first
    |(go_at_call 37;(with_reducible refine HSP.out.mono ?_);rintro e w4 ⟨rfl,rfl⟩)
    |(go_at_call 85;(with_reducible refine HHO.out.mono ?_);rintro e w8 ⟨rfl,hw8⟩;have qq:=HEB.out [hxO a n] _ hw8))
  have H10:=Lib.hid hw8
  clear hw8 t0 t1 qq HSP HHO
  have⟨t0,t1⟩:=HEB.out [hxO a n] _ (H10.out.drewN 1)
  have H11:Hid (Wd X (os++[rowO w6.heap.size 106 [.int .i64 a,.int .i64 n]]++[hxO a n]) m w8.drew):=H10.out.drewN 1
  have HSP:=Lib.hid (wd_spc H11.out)
  have t0:w8.drew.cell? ⟨w6.heap.size,0,none⟩=some (.int .i64 a):=t0
  have t1:w8.drew.cell? ⟨w6.heap.size,1,none⟩=some (.int .i64 n):=t1
  go_wp2_with fail
  go_region_held3 (fun w=>w.cell? ⟨w6.heap.size,0,none⟩=some (.int .i64 a)∧w.cell? ⟨w6.heap.size,1,none⟩=some (.int .i64 n)) (with_reducible exact⟨t0,t1⟩)
   (first
    |(go_at_call 37;(with_reducible refine HSP.out.mono ?_);rintro e w4 ⟨rfl,rfl⟩))
  generalize w8.drew=w10 at*
  go_wp2_with fail
  rw[rounds_succ]
  go_wp2_with fail
  rw[rounds_succ]
  have p3:w10.cell? ⟨rb,3,none⟩=some (.int .i64 c):=(H11.out.row HIR.out).cell 3
  have HWR:=Lib.hid (wd_writex H11.out HH.out.1 HH.out.2.1 HBN.out HH.out.2.2 HRM1.out)
  go_wp2_with fail
  refine HWR.out.mono ?_
  rintro e w9 ⟨rfl,hw9⟩
  have H9:=Lib.hid hw9
  clear hw9 HWR
  go_wp2
  refine leaves_cons (f:=86) (args:=#[.pointer (some ⟨X.p.s,0,none⟩),.int .i64 a,.int .i64 n]) (by simp) (by simp[go_sem]) ?_
  refine(wd_give_def _ (i:=os.length+1) H9.out (by simp) HAN.out.1 HAN.out.2).mono ?_
  rintro e u' w'' ⟨rfl,rfl,hw''⟩
  have hw2:Wd X (os++[rowO w6.heap.size 106 [.int .i64 a,.int .i64 n]]++[nilO]) m w'':=by simpa [List.set_append]using hw''
  exact⟨.tuple #[.pointer none,.int .i64 5],by simp[results,Tryz.results67,go_sem],rfl,(hw2.drop rfl rfl).drop rfl rfl⟩
theorem jwrite_x2{k hh c rb ir cr:Nat}{f0 f1:Int}(h:Wd X os m W)(hir:os[ir]?=some (rowO rb 31 [.int .i64 f0,.int .i64 f1,.int .i64 k,.int .i64 c,.int .i64 f0,.int .i64 f1,.int .i64 k,.int .i64 c]))(hS:X.S0=newSp 0 5000)(hos:∀(j:Nat) (a:Asn),os[j]?=some a→a.ex.2=0)(hhe:hh=holdsI X.sz k)(hh0:0<hh)(hbn:blocksN hh c=4000000)(hc:c≤100000000)(hroom:X.sz+sumN Asn.gw os≤X.rm):
  Calls Tryz.prog 67 #[.pointer (some ⟨X.p.w,0,none⟩),.int .i64 k,.slice (some ⟨rb,0,none⟩) 2 cr] W fun e w'=>e=.returned (.tuple #[.pointer none,.int .i64 5])∧Wd X os m w':=by
 obtain⟨z,hz⟩:∃z:Int,IntKind.i64.wrap (f0+f1)=z:=⟨_,rfl⟩
 have HFR:Hid (∀t,hasB X.S0.fr t→t<5000):=fun t ht=>by
  rw[hS]at ht
  have e1:(newSp 0 5000).fr=[(0,5000)]:=rfl
  rw[e1]at ht
  obtain⟨x,hx,h1,h2⟩:=ht
  simp at hx
  subst hx
  simpa using h2
 have HFR2:Hid (∀t,t<5000→(∀z,z<5000→hasB X.S0.fr z)):=fun t _ z hz=>by
  rw[hS]
  exact⟨(0,5000),by simp[newSp],Nat.zero_le _,by simpa using hz⟩
 have HSH1:Hid (∀(A:Option Addr) (C:Nat) (w:World),w.ownsRow 0 106 2 (.slice A 1 C) 1 (flatX [(0,5000)])→Calls Tryz.prog 83 #[.slice A 1 C,.agg #[.int .i64 f0,.int .i64 f1,.int .i64 k,.int .i64 c]] w fun e w'=>∃v,e=.returned v∧SH f0 z w 0 5000 v w'):=fun A C w ho=>by
  have:=shared_one (f0:=f0) (f1:=f1) (k:=k) (count:=c) ho (by omega)
  rw[hz]at this
  exact this
 have HH:=Lib.hid (And.intro hhe (And.intro hh0 hc))
 have HBN:=Lib.hid hbn
 have HRM:=Lib.hid hroom
 have HZ:=Lib.hid hz
 have HS:=Lib.hid hS
 have HOS:=Lib.hid hos
 have HIR:=Lib.hid hir
 have H:=Lib.hid h
 have hmin:(if (100000000:Int)<(c:Int)then (100000000:Int)else (c:Int))=(c:Int):=by rw[if_neg (by omega)]
 clear h hhe hh0 hbn hc hroom hz hS hos hir
 go_enter_defers Tryz.func67,Tryz.ntmps67
 go_wp2_with fail
 refine wp_loop_rounds 3 ?_
 rw[rounds_succ]
 have p0:W.cell? ⟨rb,0,none⟩=some (.int .i64 f0):=(H.out.row HIR.out).cell 0
 have p1:W.cell? ⟨rb,1,none⟩=some (.int .i64 f1):=(H.out.row HIR.out).cell 1
 have p2:W.cell? ⟨rb,2,none⟩=some (.int .i64 k):=(H.out.row HIR.out).cell 2
 have p3:W.cell? ⟨rb,3,none⟩=some (.int .i64 c):=(H.out.row HIR.out).cell 3
 have hrbl:rb<W.heap.size:=(H.out.row HIR.out).lt
 obtain⟨w3,hw3⟩:∃w3,w3=W.alloc (.cells #[.int .i64 f0,.int .i64 f1,.int .i64 k,.int .i64 c] 31):=⟨_,rfl⟩
 have hb3:Below W.heap.size W w3:=by rw[hw3];exact(Below.refl _ _).alloc (Nat.le_refl _) _
 have hr3:Row w3 W.heap.size 31 [.int .i64 f0,.int .i64 f1,.int .i64 k,.int .i64 c]:=by rw[hw3];exact heap_alloc_new _ _
 have HD:Hid (Wd X os m w3):=H.out.below hb3
 have HE:Hid (Wd X os m w3.drew):=HD.out.drewN 1
 have HCE:Hid (∀w,Below w3.heap.size w3 w→w.cell? ⟨W.heap.size,0,none⟩=some (.int .i64 f0)∧w.cell? ⟨W.heap.size,1,none⟩=some (.int .i64 f1)∧w.cell? ⟨W.heap.size,2,none⟩=some (.int .i64 k)∧w.cell? ⟨W.heap.size,3,none⟩=some (.int .i64 c)):=fun w hb=>by
  have h9:=hr3.below hb hr3.lt
  exact⟨h9.cell 0,h9.cell 1,h9.cell 2,h9.cell 3⟩
 have c0:=HCE.out w3.drew (below_drewN (Below.refl w3.heap.size w3) 1)
 have HSP:=Lib.hid (wd_spc HE.out)
 have HEX:Hid (Calls Tryz.prog 84 #[.pointer (some ⟨X.p.s,0,none⟩)] w3.drew fun e w'=>∃A5 n5 c5 l,e=.returned (.slice A5 n5 c5)∧w'.ownsRow 0 106 2 (.slice A5 n5 c5) n5 (flatX l)∧n5≤1000000∧(∀i,i<n5→(xAt l i).1+(xAt l i).2≤3000000)∧(∀i,i<n5→∀z,(xAt l i).1≤z→z<(xAt l i).1+(xAt l i).2→FreeX X os z)∧(X.S0=newSp 0 5000→(∀(j:Nat) (o:Asn),os[j]?=some o→o.ex.2=0)→n5=1∧l=[(0,5000)])∧Below w3.drew.heap.size w3.drew w'):=wd_extents9 HE.out
 have HW3:=Lib.hid hw3
 clear hw3 hb3 hr3
 go_upto_region 4 with(fail)
 rw[←HW3.out]
 go_region_held3 (fun w=>w.cell? ⟨W.heap.size,0,none⟩=some (.int .i64 f0)∧w.cell? ⟨W.heap.size,1,none⟩=some (.int .i64 f1)∧w.cell? ⟨W.heap.size,2,none⟩=some (.int .i64 k)∧w.cell? ⟨W.heap.size,3,none⟩=some (.int .i64 c)) (first|with_reducible exact c0|with_reducible exact q5|with_reducible exact q6)
  (first
   |(go_at_call 37;(with_reducible refine HSP.out.mono ?_);rintro e w4 ⟨rfl,rfl⟩)
   |(go_at_call 84;(with_reducible refine HEX.out.mono ?_);rintro e w5 ⟨A5,n5,cc5,l5,rfl,h51,h52,h53,h54,h56,h55⟩;obtain⟨rfl,rfl⟩:=h56 HS.out HOS.out;have hb5:Below w3.heap.size w3 w5:=(below_drewN (Below.refl w3.heap.size w3) 1).trans h55;have q5:=HCE.out w5 hb5)
   |(go_at_call 83;(with_reducible refine(HSH1.out _ _ _ h51).mono ?_);rintro e w6 ⟨v6,rfl,h66⟩;obtain⟨A6,N6,C6,rfl⟩:=h66.form;have hb6:Below w3.heap.size w3 w6:=hb5.trans (h66.1.mono hb5.size);have q6:=HCE.out w6 hb6))
 rcases h66 with⟨hb66,(⟨e6,hno⟩|⟨g,cap,a,n,e6,hg1,hg2,u0,u1,hn,ha1,ha2,hcov⟩)⟩
 ·injection e6 with e61 e62 e63
  subst e61 e62 e63
  have H7:Hid (Wd X os m w6):=HD.out.below hb6
  clear c0 q5 q6 h51 h52 h53 h54 h55 h56 hb66 hb5 hb6 p0 p1 p2 p3 hrbl HW3 HSP HEX HCE HD HE HSH1
  go_wp2_with fail
  refine wp_loop_rounds 1 ?_
  rw[rounds_succ]
  go_wp2_with fail
  have HNC:Hid (∀t:Nat,FreeX X os t→¬(f0≤(t:Int)∧(t:Int)<z)):=fun t ⟨h1,h2⟩ hq=>by
   have h3:=HFR.out t h1
   exact hno t (by omega) (by omega) hq
  have HSH2:Hid (∀(A:Option Addr) (N C:Nat) (l:List Ex) (w:World),w.ownsRow 0 106 2 (.slice A N C) N (flatX l)→N≤1000000→(∀i,i<N→(xAt l i).1+(xAt l i).2≤3000000)→(∀i,i<N→∀z,(xAt l i).1≤z→z<(xAt l i).1+(xAt l i).2→FreeX X os z)→
    Calls Tryz.prog 83 #[.slice A N C,.agg #[.int .i64 f0,.int .i64 f1,.int .i64 k,.int .i64 c]] w fun e w'=>e=.returned (.slice none 0 0)∧Below w.heap.size w w'):=fun A N C l w h1 h2 h3 h4=>shared_far HZ.out h1 h2 h3 fun i hi t t1 t2=>by
   obtain⟨t',rfl⟩:∃t':Nat,t=t':=⟨t.toNat,by omega⟩
   exact HNC.out t' (h4 i hi t' (by omega) (by omega))
  rw[rounds_succ]
  have p0:w6.cell? ⟨rb,4,none⟩=some (.int .i64 f0):=(H7.out.row HIR.out).cell 4
  have p1:w6.cell? ⟨rb,5,none⟩=some (.int .i64 f1):=(H7.out.row HIR.out).cell 5
  have p2:w6.cell? ⟨rb,6,none⟩=some (.int .i64 k):=(H7.out.row HIR.out).cell 6
  have p3:w6.cell? ⟨rb,7,none⟩=some (.int .i64 c):=(H7.out.row HIR.out).cell 7
  have hrbl:rb<w6.heap.size:=(H7.out.row HIR.out).lt
  obtain⟨v3,hw3⟩:∃v3,v3=w6.alloc (.cells #[.int .i64 f0,.int .i64 f1,.int .i64 k,.int .i64 c] 31):=⟨_,rfl⟩
  have hb3:Below w6.heap.size w6 v3:=by rw[hw3];exact(Below.refl _ _).alloc (Nat.le_refl _) _
  have hr3:Row v3 w6.heap.size 31 [.int .i64 f0,.int .i64 f1,.int .i64 k,.int .i64 c]:=by rw[hw3];exact heap_alloc_new _ _
  have HD:Hid (Wd X os m v3):=H7.out.below hb3
  have HE:Hid (Wd X os m v3.drew):=HD.out.drewN 1
  have HCE:Hid (∀w,Below v3.heap.size v3 w→w.cell? ⟨w6.heap.size,0,none⟩=some (.int .i64 f0)∧w.cell? ⟨w6.heap.size,1,none⟩=some (.int .i64 f1)∧w.cell? ⟨w6.heap.size,2,none⟩=some (.int .i64 k)∧w.cell? ⟨w6.heap.size,3,none⟩=some (.int .i64 c)):=fun w hb=>by
   have h9:=hr3.below hb hr3.lt
   exact⟨h9.cell 0,h9.cell 1,h9.cell 2,h9.cell 3⟩
  have c0:=HCE.out v3.drew (below_drewN (Below.refl v3.heap.size v3) 1)
  have HSP:=Lib.hid (wd_spc HE.out)
  have HEX:Hid (Calls Tryz.prog 84 #[.pointer (some ⟨X.p.s,0,none⟩)] v3.drew fun e w'=>∃A5 n5 c5 l,e=.returned (.slice A5 n5 c5)∧w'.ownsRow 0 106 2 (.slice A5 n5 c5) n5 (flatX l)∧n5≤1000000∧(∀i,i<n5→(xAt l i).1+(xAt l i).2≤3000000)∧(∀i,i<n5→∀z,(xAt l i).1≤z→z<(xAt l i).1+(xAt l i).2→FreeX X os z)∧(X.S0=newSp 0 5000→(∀(j:Nat) (o:Asn),os[j]?=some o→o.ex.2=0)→n5=1∧l=[(0,5000)])∧Below v3.drew.heap.size v3.drew w'):=wd_extents9 HE.out
  have HW3:=Lib.hid hw3
  clear hw3 hb3 hr3
  go_upto_region 4 with(fail)
  rw[←HW3.out]
  go_region_held3 (fun w=>w.cell? ⟨w6.heap.size,0,none⟩=some (.int .i64 f0)∧w.cell? ⟨w6.heap.size,1,none⟩=some (.int .i64 f1)∧w.cell? ⟨w6.heap.size,2,none⟩=some (.int .i64 k)∧w.cell? ⟨w6.heap.size,3,none⟩=some (.int .i64 c)) (first|with_reducible exact c0|with_reducible exact q5|with_reducible exact q6)
   (first
    |(go_at_call 37;(with_reducible refine HSP.out.mono ?_);rintro e v4 ⟨rfl,rfl⟩)
    |(go_at_call 84;(with_reducible refine HEX.out.mono ?_);rintro e v5 ⟨A5,n5,cc5,l5,rfl,h51,h52,h53,h54,h56,h55⟩;have hb5:Below v3.heap.size v3 v5:=(below_drewN (Below.refl v3.heap.size v3) 1).trans h55;have q5:=HCE.out v5 hb5)
    |(go_at_call 83;(with_reducible refine(HSH2.out _ _ _ _ _ h51 h52 h53 h54).mono ?_);rintro e v6 ⟨rfl,h66⟩;have hb6:Below v3.heap.size v3 v6:=hb5.trans (h66.mono hb5.size);have q6:=HCE.out v6 hb6))
  have H8:Hid (Wd X os m v6):=HD.out.below hb6
  clear c0 q5 q6 h51 h52 h53 h54 h55 h56 h66 hb5 hb6 p0 p1 p2 p3 hrbl
  go_wp2_with fail
  refine wp_loop_rounds 1 ?_
  rw[rounds_succ]
  go_wp2_with fail
  rw[rounds_succ]
  have p3:v6.cell? ⟨rb,3,none⟩=some (.int .i64 c):=(H8.out.row HIR.out).cell 3
  have HWR:=Lib.hid (wd_writex H8.out HH.out.1 HH.out.2.1 HBN.out HH.out.2.2 HRM.out)
  go_wp2_with fail
  refine HWR.out.mono ?_
  rintro e w9 ⟨rfl,hw9⟩
  have H9:=Lib.hid hw9
  clear hw9 HWR
  go_wp2
  exact⟨.tuple #[.pointer none,.int .i64 5],by simp[results,Tryz.results67,go_sem],rfl,H9.out⟩
 ·injection e6 with e61 e62 e63
  subst e61 e62 e63
  have H7:Hid (Wd X os m w6):=HD.out.below hb6
  have HAN:Hid (1≤n∧a+n≤3000000):=⟨hn,by omega⟩
  clear c0 q5 q6 h51 h52 h53 h54 h55 h56 hb66 hb5 hb6 p0 p1 p2 p3 hrbl HW3 HSP HEX HCE HD HE HSH1
  obtain⟨w7,hw7⟩:∃w7,w7=w6.alloc (.cells #[.int .i64 a,.int .i64 n] 106):=⟨_,rfl⟩
  obtain⟨eb,heb⟩:∃eb,eb=w6.heap.size:=⟨_,rfl⟩
  have hb7:Below w6.heap.size w6 w7:=by rw[hw7];exact(Below.refl _ _).alloc (Nat.le_refl _) _
  have hr7:Row w7 eb 106 [.int .i64 a,.int .i64 n]:=by rw[hw7,heb];exact heap_alloc_new _ _
  have H8:Hid (Wd X (os++[rowO eb 106 [.int .i64 a,.int .i64 n]]) m w7):=H7.out.new hb7 hr7 (by rw[heb];exact Nat.le_refl _)
  have HRM1:Hid (X.sz+sumN Asn.gw (os++[rowO eb 106 [.int .i64 a,.int .i64 n]]++[hxO a n])≤X.rm):=by
   unfold Hid
   rw[sumN_snoc,sumN_snoc]
   exact HRM.out
  have HIR0:=HIR.out
  replace HIR:Hid ((os++[rowO eb 106 [.int .i64 a,.int .i64 n]]++[hxO a n])[ir]?=some (rowO rb 31 [.int .i64 f0,.int .i64 f1,.int .i64 k,.int .i64 c,.int .i64 f0,.int .i64 f1,.int .i64 k,.int .i64 c])):=snoc_old (snoc_old HIR0)
  have HD8:Hid (Wd X (os++[rowO eb 106 [.int .i64 a,.int .i64 n]]) m w7.drew):=H8.out.drewN 1
  have HSP:=Lib.hid (wd_spc HD8.out)
  have HHO:Hid (Calls Tryz.prog 85 #[.pointer (some ⟨X.p.s,0,none⟩),.int .i64 a,.int .i64 n] w7.drew fun e w'=>e=.returned (.int .i64 0)∧Wd X (os++[rowO eb 106 [.int .i64 a,.int .i64 n]]++[hxO a n]) m w'):=wd_hold (H8.out.drewN 1) hn (by omega) fun y h1 h2=>⟨HFR2.out 0 (by omega) y (by omega),fun i o ho hx=>by
   rcases snoc_or ho with⟨_,rfl⟩|⟨_,ho⟩
   ·exact inX_zero _ _ hx
   ·have:=HOS.out i o ho
    unfold inX at hx
    omega⟩
  have HEB:Hid (∀os' w,Wd X (os++[rowO eb 106 [.int .i64 a,.int .i64 n]]++os') m w→w.cell? ⟨eb,0,none⟩=some (.int .i64 a)∧w.cell? ⟨eb,1,none⟩=some (.int .i64 n)):=fun os' w hw=>by
   have hq:=hw.row (i:=os.length) (g:=eb) (t:=106) (cs:=[.int .i64 a,.int .i64 n]) (by simp)
   exact⟨hq.cell 0,hq.cell 1⟩
  have t0:w7.drew.cell? ⟨eb,0,none⟩=some (.int .i64 a):=hr7.cell 0
  have t1:w7.drew.cell? ⟨eb,1,none⟩=some (.int .i64 n):=hr7.cell 1
  have HW7:=Lib.hid hw7
  clear hw7 hb7 hr7
  subst heb
  go_wp2_with fail
  refine wp_loop_rounds 2 ?_
  rw[rounds_succ]
  go_upto_region 7 with(fail)
  rw[←HW7.out]
  go_region_held3 (fun w=>w.cell? ⟨w6.heap.size,0,none⟩=some (.int .i64 a)∧w.cell? ⟨w6.heap.size,1,none⟩=some (.int .i64 n)) (first|with_reducible exact⟨t0,t1⟩|with_reducible exact qq)
   (first
    |(go_at_call 37;(with_reducible refine HSP.out.mono ?_);rintro e w4 ⟨rfl,rfl⟩)
    |(go_at_call 85;(with_reducible refine HHO.out.mono ?_);rintro e w8 ⟨rfl,hw8⟩;have qq:=HEB.out [hxO a n] _ hw8))
  have H10:=Lib.hid hw8
  clear hw8 t0 t1 qq HSP HHO
  have⟨t0,t1⟩:=HEB.out [hxO a n] _ (H10.out.drewN 1)
  have H11:Hid (Wd X (os++[rowO w6.heap.size 106 [.int .i64 a,.int .i64 n]]++[hxO a n]) m w8.drew):=H10.out.drewN 1
  have HSP:=Lib.hid (wd_spc H11.out)
  have t0:w8.drew.cell? ⟨w6.heap.size,0,none⟩=some (.int .i64 a):=t0
  have t1:w8.drew.cell? ⟨w6.heap.size,1,none⟩=some (.int .i64 n):=t1
  go_wp2_with fail
  go_region_held3 (fun w=>w.cell? ⟨w6.heap.size,0,none⟩=some (.int .i64 a)∧w.cell? ⟨w6.heap.size,1,none⟩=some (.int .i64 n)) (with_reducible exact⟨t0,t1⟩)
   (first
    |(go_at_call 37;(with_reducible refine HSP.out.mono ?_);rintro e w4 ⟨rfl,rfl⟩))
  generalize w8.drew=w10 at*
  go_wp2_with fail
  rw[rounds_succ]
  go_wp2_with fail
  have HNC:Hid (∀t:Nat,FreeX X (os++[rowO w6.heap.size 106 [.int .i64 a,.int .i64 n]]++[hxO a n]) t→¬(f0≤(t:Int)∧(t:Int)<z)):=fun t ⟨h1,h2⟩ hq=>by
   have h3:=HFR.out t h1
   have h4:=hcov t (by omega) (by omega) hq
   exact h2 (os.length+1) (hxO a n) (by simp) ⟨by show a≤t;omega,by show t<a+n;omega⟩
  have HSH2:Hid (∀(A:Option Addr) (N C:Nat) (l:List Ex) (w:World),w.ownsRow 0 106 2 (.slice A N C) N (flatX l)→N≤1000000→(∀i,i<N→(xAt l i).1+(xAt l i).2≤3000000)→(∀i,i<N→∀z,(xAt l i).1≤z→z<(xAt l i).1+(xAt l i).2→FreeX X (os++[rowO w6.heap.size 106 [.int .i64 a,.int .i64 n]]++[hxO a n]) z)→
    Calls Tryz.prog 83 #[.slice A N C,.agg #[.int .i64 f0,.int .i64 f1,.int .i64 k,.int .i64 c]] w fun e w'=>e=.returned (.slice none 0 0)∧Below w.heap.size w w'):=fun A N C l w h1 h2 h3 h4=>shared_far HZ.out h1 h2 h3 fun i hi t t1 t2=>by
   obtain⟨t',rfl⟩:∃t':Nat,t=t':=⟨t.toNat,by omega⟩
   exact HNC.out t' (h4 i hi t' (by omega) (by omega))
  rw[rounds_succ]
  have p0:w10.cell? ⟨rb,4,none⟩=some (.int .i64 f0):=(H11.out.row HIR.out).cell 4
  have p1:w10.cell? ⟨rb,5,none⟩=some (.int .i64 f1):=(H11.out.row HIR.out).cell 5
  have p2:w10.cell? ⟨rb,6,none⟩=some (.int .i64 k):=(H11.out.row HIR.out).cell 6
  have p3:w10.cell? ⟨rb,7,none⟩=some (.int .i64 c):=(H11.out.row HIR.out).cell 7
  have hrbl:rb<w10.heap.size:=(H11.out.row HIR.out).lt
  obtain⟨v3,hw3⟩:∃v3,v3=w10.alloc (.cells #[.int .i64 f0,.int .i64 f1,.int .i64 k,.int .i64 c] 31):=⟨_,rfl⟩
  have hb3:Below w10.heap.size w10 v3:=by rw[hw3];exact(Below.refl _ _).alloc (Nat.le_refl _) _
  have hr3:Row v3 w10.heap.size 31 [.int .i64 f0,.int .i64 f1,.int .i64 k,.int .i64 c]:=by rw[hw3];exact heap_alloc_new _ _
  have HD:Hid (Wd X (os++[rowO w6.heap.size 106 [.int .i64 a,.int .i64 n]]++[hxO a n]) m v3):=H11.out.below hb3
  have HE:Hid (Wd X (os++[rowO w6.heap.size 106 [.int .i64 a,.int .i64 n]]++[hxO a n]) m v3.drew):=HD.out.drewN 1
  have HCE:Hid (∀w,Below v3.heap.size v3 w→w.cell? ⟨w10.heap.size,0,none⟩=some (.int .i64 f0)∧w.cell? ⟨w10.heap.size,1,none⟩=some (.int .i64 f1)∧w.cell? ⟨w10.heap.size,2,none⟩=some (.int .i64 k)∧w.cell? ⟨w10.heap.size,3,none⟩=some (.int .i64 c)):=fun w hb=>by
   have h9:=hr3.below hb hr3.lt
   exact⟨h9.cell 0,h9.cell 1,h9.cell 2,h9.cell 3⟩
  have c0:=HCE.out v3.drew (below_drewN (Below.refl v3.heap.size v3) 1)
  have HSP:=Lib.hid (wd_spc HE.out)
  have HEX:Hid (Calls Tryz.prog 84 #[.pointer (some ⟨X.p.s,0,none⟩)] v3.drew fun e w'=>∃A5 n5 c5 l,e=.returned (.slice A5 n5 c5)∧w'.ownsRow 0 106 2 (.slice A5 n5 c5) n5 (flatX l)∧n5≤1000000∧(∀i,i<n5→(xAt l i).1+(xAt l i).2≤3000000)∧(∀i,i<n5→∀z,(xAt l i).1≤z→z<(xAt l i).1+(xAt l i).2→FreeX X (os++[rowO w6.heap.size 106 [.int .i64 a,.int .i64 n]]++[hxO a n]) z)∧(X.S0=newSp 0 5000→(∀(j:Nat) (o:Asn),(os++[rowO w6.heap.size 106 [.int .i64 a,.int .i64 n]]++[hxO a n])[j]?=some o→o.ex.2=0)→n5=1∧l=[(0,5000)])∧Below v3.drew.heap.size v3.drew w'):=wd_extents9 HE.out
  have HW3:=Lib.hid hw3
  clear hw3 hb3 hr3
  go_upto_region 4 with(fail)
  rw[←HW3.out]
  go_region_held3 (fun w=>w.cell? ⟨w10.heap.size,0,none⟩=some (.int .i64 f0)∧w.cell? ⟨w10.heap.size,1,none⟩=some (.int .i64 f1)∧w.cell? ⟨w10.heap.size,2,none⟩=some (.int .i64 k)∧w.cell? ⟨w10.heap.size,3,none⟩=some (.int .i64 c)) (first|with_reducible exact c0|with_reducible exact q5|with_reducible exact q6)
   (first
    |(go_at_call 37;(with_reducible refine HSP.out.mono ?_);rintro e v4 ⟨rfl,rfl⟩)
    |(go_at_call 84;(with_reducible refine HEX.out.mono ?_);rintro e v5 ⟨A5,n5,cc5,l5,rfl,h51,h52,h53,h54,h56,h55⟩;have hb5:Below v3.heap.size v3 v5:=(below_drewN (Below.refl v3.heap.size v3) 1).trans h55;have q5:=HCE.out v5 hb5)
    |(go_at_call 83;(with_reducible refine(HSH2.out _ _ _ _ _ h51 h52 h53 h54).mono ?_);rintro e v6 ⟨rfl,h66⟩;have hb6:Below v3.heap.size v3 v6:=hb5.trans (h66.mono hb5.size);have q6:=HCE.out v6 hb6))
  have H8:Hid (Wd X (os++[rowO w6.heap.size 106 [.int .i64 a,.int .i64 n]]++[hxO a n]) m v6):=HD.out.below hb6
  clear c0 q5 q6 h51 h52 h53 h54 h55 h56 h66 hb5 hb6 p0 p1 p2 p3 hrbl
  go_wp2_with fail
  refine wp_loop_rounds 1 ?_
  rw[rounds_succ]
  go_wp2_with fail
  rw[rounds_succ]
  have p3:v6.cell? ⟨rb,3,none⟩=some (.int .i64 c):=(H8.out.row HIR.out).cell 3
  have HWR:=Lib.hid (wd_writex H8.out HH.out.1 HH.out.2.1 HBN.out HH.out.2.2 HRM1.out)
  go_wp2_with fail
  refine HWR.out.mono ?_
  rintro e w9 ⟨rfl,hw9⟩
  have H9:=Lib.hid hw9
  clear hw9 HWR
  go_wp2
  refine leaves_cons (f:=86) (args:=#[.pointer (some ⟨X.p.s,0,none⟩),.int .i64 a,.int .i64 n]) (by simp) (by simp[go_sem]) ?_
  refine(wd_give_def _ (i:=os.length+1) H9.out (by simp) HAN.out.1 HAN.out.2).mono ?_
  rintro e u' w'' ⟨rfl,rfl,hw''⟩
  have hw2:Wd X (os++[rowO w6.heap.size 106 [.int .i64 a,.int .i64 n]]++[nilO]) m w'':=by simpa [List.set_append]using hw''
  exact⟨.tuple #[.pointer none,.int .i64 5],by simp[results,Tryz.results67,go_sem],rfl,(hw2.drop rfl rfl).drop rfl rfl⟩
end
theorem xread_room{w:World}{G:Nat→Prop}{p:Wp}{F:Fs}{n:Nat}(h:Sys w G p F n)(k hh:Nat)(first:Int)(nb count:Nat)(hhe:hh=holdsI F.D.size k)(hh0:0<hh)(hnb:nb=blocksN hh count)(hcount:count≤100000000)(hroom:F.A.room-F.A.used<F.D.size):Calls Tryz.prog 39 #[.pointer (some ⟨p.w,0,none⟩),.agg #[.int .i64 first,.int .i64 nb,.int .i64 k,.int .i64 count]] w fun e w'=>e=.returned (.tuple #[.pointer none,.int .i64 7])∧Below w.heap.size w w':=by
 have hsz:=h.size
 have hh254:hh≤254:=by rw[hhe];exact Nat.le_trans (holds_le _ _) (by omega)
 have hb0:=(Below.refl w.heap.size w).alloc (Nat.le_refl _) (.cells #[.int .i64 first,.int .i64 nb,.int .i64 k,.int .i64 count] 31)
 have hr0:Row (w.alloc (.cells #[.int .i64 first,.int .i64 nb,.int .i64 k,.int .i64 count] 31)) w.heap.size 31 [.int .i64 first,.int .i64 nb,.int .i64 k,.int .i64 count]:=heap_alloc_new _ _
 have hshp:=shape_any (h.below hb0) k
 rw[←hhe]at hshp
 have HS:=Lib.hid hshp
 have HBL:Hid (∀W,Calls Tryz.prog 60 #[.agg #[.int .i64 k,.int .i64 hh],.int .i64 count] W fun e w'=>e=.returned (.int .i64 nb)∧Below W.heap.size W w'):=fun W=>by
  rw[hnb];exact blks_any k hh count W hh0 hh254 hcount
 have HSYS:Hid (∀W,Below w.heap.size w W→Sys W G p F n):=fun W hb=>h.below hb
 have HB0:=Lib.hid hb0
 have HR0:=Lib.hid hr0
 obtain⟨size,hsize⟩:∃size,size=F.D.size:=⟨_,rfl⟩
 have g0:((hh:Int)==0)=false:=by simp;omega
 have g1:decide ((count:Int)<0)=false:=by simp
 have HGQ:Hid (∀W,Sys W G p F n→∀q,Calls Tryz.prog 61 #[.pointer (some ⟨p.a,0,none⟩),.int .i64 size] (W.drewN q) fun e w''=>e=.returned (.tuple #[.pointer none,.int .i64 7])∧∃k,w''=W.drewN k):=fun W hs q=>by
  rw[hsize];exact Calls.quiet_of_same ((sys_grant_no (hs.below (below_drewN (Below.refl _ _) q)) F.D.size hroom).mono fun _ _ h=>h)
 have HSQ:Hid (∀W,Sys W G p F n→∀q,Calls Tryz.prog 62 #[.pointer (some ⟨p.d,0,none⟩)] (W.drewN q) fun e w''=>e=.returned (.int .i64 (size:Int))∧∃k,w''=W.drewN k):=fun W hs q=>by
  rw[hsize];exact Calls.quiet_of_same ((hs.below (below_drewN (Below.refl _ _) q)).dsize_any.mono fun _ _ h=>h)
 clear hsize hroom h hshp hb0 hr0 hhe hnb hsz
 go_enter Tryz.func39,Tryz.ntmps39
 go_wp2_with fail
 refine HS.out.mono ?_;rintro e w1 ⟨rfl,hb1⟩
 have hb2:=hb1.alloc hb1.size (.cells #[.int .i64 k,.int .i64 hh] 120)
 have hrs:Row (w1.alloc (.cells #[.int .i64 k,.int .i64 hh] 120)) w1.heap.size 120 [.int .i64 k,.int .i64 hh]:=heap_alloc_new _ _
 have hrf:=HR0.out.below hb2 HR0.out.lt
 have HB2:=Lib.hid (HB0.out.trans (hb2.mono HB0.out.size))
 have HL1:Hid (w.heap.size≤w1.heap.size):=Nat.le_trans HB0.out.size hb1.size
 clear hb1 hb2 HB0 HR0 HS
 have HRS:=Lib.hid hrs
 have HRF:=Lib.hid hrf
 clear hrs hrf
 have k0:∀d os,(Sort.grow (redrawn (w1.alloc (.cells #[.int .i64 k,.int .i64 hh] 120)) d) os).cell? ⟨w1.heap.size,0,none⟩=some (.int .i64 k):=cell_regrown (HRS.out.cell 0)
 have k1:∀d os,(Sort.grow (redrawn (w1.alloc (.cells #[.int .i64 k,.int .i64 hh] 120)) d) os).cell? ⟨w1.heap.size,1,none⟩=some (.int .i64 hh):=cell_regrown (HRS.out.cell 1)
 have k2:∀d os,(Sort.grow (redrawn (w1.alloc (.cells #[.int .i64 k,.int .i64 hh] 120)) d) os).cell? ⟨w.heap.size,1,none⟩=some (.int .i64 nb):=cell_regrown (HRF.out.cell 1)
 have k3:∀d os,(Sort.grow (redrawn (w1.alloc (.cells #[.int .i64 k,.int .i64 hh] 120)) d) os).cell? ⟨w.heap.size,3,none⟩=some (.int .i64 count):=cell_regrown (HRF.out.cell 3)
 have Q1:Hid (∀d os,Calls Tryz.prog 60 #[.agg #[.int .i64 k,.int .i64 hh],.int .i64 count] (Sort.grow (redrawn (w1.alloc (.cells #[.int .i64 k,.int .i64 hh] 120)) d) os) fun e w''=>e=.returned (.int .i64 nb)∧∃p:Regrown,w''=Sort.grow (redrawn (w1.alloc (.cells #[.int .i64 k,.int .i64 hh] 120)) p.d) p.os):=fun d os=>Calls.regrown_of (HBL.out _)
 go_wp2
 refine wp_region_quiet_below (by kernel_rfl) (by kernel_rfl) ?_
 repeat(any_goals(first|go_big_quiet_step (with_reducible exact Q1.out _ _)|quiet_step (with_reducible exact Q1.out _ _)))
 refine wpQuiet_nil ?_
 intro w5 hw5
 obtain⟨⟨dq,osq⟩,hw5⟩:=hw5
 have hbw5:=below_regrown (w1.alloc (.cells #[.int .i64 k,.int .i64 hh] 120)) dq osq
 rw[←hw5]at hbw5
 clear hw5
 have HB5:=Lib.hid (HB2.out.trans (hbw5.mono HB2.out.size))
 have HRS5:=Lib.hid (HRS.out.below hbw5 HRS.out.lt)
 have HRF5:=Lib.hid (HRF.out.below hbw5 HRF.out.lt)
 have k5:=HSYS.out w5 HB5.out
 clear hbw5 Q1 k0 k1 k2 k3 HRS HRF HB2 HBL
 have Q1:=Lib.hid (HGQ.out w5 k5)
 have Q2:=Lib.hid (HSQ.out w5 k5)
 have c0:w5.cell? ⟨p.w,0,none⟩=some (.pointer (some ⟨p.d,0,none⟩)):=k5.row.cell 0
 have c1:w5.cell? ⟨p.w,1,none⟩=some (.pointer (some ⟨p.a,0,none⟩)):=k5.row.cell 1
 clear k5 HGQ HSQ HSYS
 go_wp2
 go_quiet ((with_reducible first|exact Q1.out _|exact Q2.out _))
 go_wp2
 go_ret2
 exact⟨rfl,below_drewN HB5.out _⟩
section
variable {X : Cx} {os : List Asn} {m i : Nat} {W W' : World} {G : Nat → Prop} {D : St} {A : Ar} {S : Sp} {nb k hh count : Nat} {first : Int}
theorem jcanbe_x(h:Wd X os m W)(hhe:hh=holdsI X.sz k)(hh0:0<hh)(hnb:nb=blocksN hh count)(hcount:count≤100000000):
  Calls Tryz.prog 45 #[.pointer (some ⟨X.p.w,0,none⟩),.agg #[.int .i64 first,.int .i64 nb,.int .i64 k,.int .i64 count]] W fun e w'=>e=.returned (.bool true)∧Below W.heap.size W w':=by
 obtain⟨W1,hW1⟩:∃W1,W1=W.alloc (.cells #[.int .i64 first,.int .i64 nb,.int .i64 k,.int .i64 count] 31):=⟨_,rfl⟩
 have hb1:Below W.heap.size W W1:=by rw[hW1];exact(Below.refl _ _).alloc (Nat.le_refl _) _
 have hr1:Row W1 W.heap.size 31 [.int .i64 first,.int .i64 nb,.int .i64 k,.int .i64 count]:=by rw[hW1];exact heap_alloc_new _ _
 obtain⟨G,D,A,S,hF⟩:=h
 have h1:=hF.below hb1
 have hbd:8≤X.sz:=(Wd.bounds ⟨G,D,A,S,hF⟩).1.1
 have HDV:Hid (∀w,Below W1.heap.size W1 w→Calls Tryz.prog 17 #[.pointer (some ⟨X.p.w,0,none⟩)] w fun e w'=>e=.returned (.pointer (some ⟨X.p.d,0,none⟩))∧w'=w):=fun w hb=>wd_dev ⟨G,D,A,S,h1.below hb⟩
 have HSP:Hid (∀w,Below W1.heap.size W1 w→Calls Tryz.prog 37 #[.pointer (some ⟨X.p.w,0,none⟩)] w fun e w'=>e=.returned (.pointer (some ⟨X.p.s,0,none⟩))∧w'=w):=fun w hb=>wd_spc ⟨G,D,A,S,h1.below hb⟩
 have HAN:Hid (∀w,Below W1.heap.size W1 w→Calls Tryz.prog 24 #[.int .i64 0] w fun e w'=>∃a,e=.returned (.pointer (some ⟨a,0,none⟩))∧Ar0 W1 w' a):=fun w hb=>by
  refine(arnew_any 0 w (by omega) (by omega)).mono ?_
  rintro e w' ⟨he,ha,hb2⟩
  exact⟨w.heap.size,he,hb.trans (hb2.mono hb.size),hb.size,ha⟩
 have HFN:Hid (∀w a,Ar0 W1 w a→Calls Tryz.prog 23 #[.pointer (some ⟨X.p.d,0,none⟩),.pointer (some ⟨a,0,none⟩),.pointer (some ⟨X.p.s,0,none⟩)] w fun e w'=>∃wp,e=.returned (.pointer (some ⟨wp,0,none⟩))∧Ar0 W1 w' a∧Row w' wp 83 [ptr X.p.d,ptr a,ptr X.p.s]∧W1.heap.size≤wp∧wp≠a):=fun w a h0=>by
  refine(fnew_any X.p.d a X.p.s w).mono ?_
  rintro e w' ⟨he,rfl⟩
  have hal:a<w.heap.size:=h0.2.2.lt rfl
  exact⟨w.heap.size,he,h0.below ((Below.refl _ _).alloc (Nat.le_refl _) _),heap_alloc_new _ _,h0.1.size,by omega⟩
 have HRD:Hid (∀w a wp,Ar0 W1 w a→Row w wp 83 [ptr X.p.d,ptr a,ptr X.p.s]→W1.heap.size≤wp→wp≠a→Calls Tryz.prog 39 #[.pointer (some ⟨wp,0,none⟩),.agg #[.int .i64 first,.int .i64 nb,.int .i64 k,.int .i64 count]] w fun e w'=>e=.returned (.tuple #[.pointer none,.int .i64 7])∧Below W1.heap.size W1 w'):=fun w a wp h0 hr hw hne=>by
  obtain⟨G',hsys⟩:=sys_new h1.sys h0 hr ⟨hw,hne⟩
  have hds:D.size=X.sz:=hF.size
  refine(xread_room hsys k hh first nb count (by show hh=holdsI D.size k;rw[hds];exact hhe) hh0 hnb (by omega) (by show (empty 0).room-(empty 0).used<D.size;rw[hds];exact Nat.lt_of_lt_of_le (by show 0-0<8;omega) hbd)).mono ?_
  rintro e w' ⟨he,hb⟩
  exact⟨he,h0.1.trans (hb.mono h0.1.size)⟩
 have HCEL:Hid (∀w,Below W1.heap.size W1 w→w.cell? ⟨W.heap.size,0,none⟩=some (.int .i64 first)∧w.cell? ⟨W.heap.size,1,none⟩=some (.int .i64 nb)∧w.cell? ⟨W.heap.size,2,none⟩=some (.int .i64 k)∧w.cell? ⟨W.heap.size,3,none⟩=some (.int .i64 count)):=fun w hb=>by
  have h9:=hr1.below hb hr1.lt
  exact⟨h9.cell 0,h9.cell 1,h9.cell 2,h9.cell 3⟩
 have HFIN:Hid (∀w,Below W1.heap.size W1 w→Below W.heap.size W w):=fun w hb=>hb1.trans (hb.mono hb1.size)
 have hb0:Below W1.heap.size W1 W1.drew:=below_drew (Below.refl _ _)
 have q0:=HCEL.out _ hb0
 have HW1:=Lib.hid hW1
 have HNB:=Lib.hid hnb
 have HHE:=Lib.hid hhe
 generalize hS0:W.heap.size=s0 at*
 clear hW1 hb1 hr1 hF h1 hnb hhe
 go_enter Tryz.func45,Tryz.ntmps45
 go_upto_region 1 with(fail)
 rw[←HW1.out]
 clear HW1
 go_region_held3 (fun w=>w.cell? ⟨s0,0,none⟩=some (.int .i64 first)∧w.cell? ⟨s0,1,none⟩=some (.int .i64 nb)∧w.cell? ⟨s0,2,none⟩=some (.int .i64 k)∧w.cell? ⟨s0,3,none⟩=some (.int .i64 count)) (first|with_reducible exact q0|with_reducible exact q5|with_reducible exact q6|with_reducible exact q7)
  (first
   |(go_at_call 17;(with_reducible refine(HDV.out _ (by first|with_reducible exact hb0|with_reducible exact hb5)).mono ?_);rintro e w4 ⟨rfl,rfl⟩)
   |(go_at_call 37;(with_reducible refine(HSP.out _ (by first|with_reducible exact hb0|with_reducible exact hb5)).mono ?_);rintro e w4 ⟨rfl,rfl⟩)
   |(go_at_call 24;(with_reducible refine(HAN.out _ hb0).mono ?_);rintro e w5 ⟨a,rfl,h5⟩;have hb5:=h5.1;have q5:=HCEL.out w5 hb5;have q6:=q5;have q7:=q5)
   |(go_at_call 23;(with_reducible refine(HFN.out _ _ h5).mono ?_);rintro e w6 ⟨wp,rfl,h6,hr6,hw6,hn6⟩;have q6:=HCEL.out w6 h6.1)
   |(go_at_call 39;(with_reducible refine(HRD.out _ _ _ h6 hr6 hw6 hn6).mono ?_);rintro e w7 ⟨rfl,hb7⟩;have q7:=HCEL.out w7 hb7))
 all_goals
  have H9:=Lib.hid (HFIN.out _ hb7)
  clear hb7 q7 q6 q5 q0 h6 hr6 hw6 hn6 h5 hb5 hb0
  go_wp2
  go_ret
  exact⟨rfl,by rw[hS0]at*;exact H9.out⟩
end
section
variable {X : Cx} {os : List Asn} {m : Nat} {W : World}
theorem wd_zero{j s:Nat}(h:Wd X os m W)(hj:os[j]?=some (rowO s 31 Z4)):Wd X os m ((((W.setCell ⟨s,0,none⟩ (.int .i64 0)).setCell ⟨s,1,none⟩ (.int .i64 0)).setCell ⟨s,2,none⟩ (.int .i64 0)).setCell ⟨s,3,none⟩ (.int .i64 0)):=by
 have e:∀(l:List Asn) (a:Asn),l[j]?=some a→l.set j a=l:=fun l a ha=>by
  apply List.ext_getElem?
  intro q
  rw[List.getElem?_set]
  split
  ·rename_i hq
   subst hq
   split
   ·exact ha.symm
   ·rename_i hl
    rw[List.getElem?_eq_none (by omega)]
  ·rfl
 have k1:=h.store hj (by decide) 0 (.int .i64 0)
 have k2:=k1.store (set_at _ hj _) (by decide) 1 (.int .i64 0)
 have k3:=k2.store (set_at _ (set_at _ hj _) _) (by decide) 2 (.int .i64 0)
 have k4:=k3.store (set_at _ (set_at _ (set_at _ hj _) _) _) (by decide) 3 (.int .i64 0)
 simp only[Z4,List.set_cons_zero,List.set_cons_succ,List.set_set]at k4 hj
 rw[e os _ hj]at k4
 exact k4
theorem jlay_x1{k hh c rb ir cr:Nat}{f0 f1:Int}{v:Value}(h:Wd X os m W)(hir:os[ir]?=some (rowO rb 31 [.int .i64 f0,.int .i64 f1,.int .i64 k,.int .i64 c]))(hS:X.S0=newSp 0 5000)(hos:∀(j:Nat) (a:Asn),os[j]?=some a→a.ex.2=0)(hhe:hh=holdsI X.sz k)(hh0:0<hh)(hbn:blocksN hh c=4000000)(hc:c≤100000000)(hroom:X.sz+sumN Asn.gw os≤X.rm):
  Calls Tryz.prog 47 #[.pointer (some ⟨X.p.w,0,none⟩),.int .i64 k,v,.slice (some ⟨rb,0,none⟩) 1 cr] W fun e w'=>e=.returned (.tuple #[.agg #[.int .i64 0,.int .i64 0,.int .i64 0,.int .i64 0],.int .i64 5])∧Wd X os m w':=by
 have hb0:Below W.heap.size W (W.alloc (.cells #[.int .i64 0,.int .i64 0,.int .i64 0,.int .i64 0] 31)):=(Below.refl _ _).alloc (Nat.le_refl _) _
 have hr0:Row (W.alloc (.cells #[.int .i64 0,.int .i64 0,.int .i64 0,.int .i64 0] 31)) W.heap.size 31 Z4:=heap_alloc_new _ _
 have h0:=h.new hb0 hr0 (Nat.le_refl _)
 have HWR:=Lib.hid (jwrite_x1 (cr:=cr) h0 (snoc_old hir) hS (fun j a hj=>by
  rcases snoc_or hj with⟨_,rfl⟩|⟨_,hj⟩
  ·rfl
  ·exact hos j a hj) hhe hh0 hbn hc (by rw[sumN_snoc];exact hroom))
 have HAT:Hid ((os++[rowO W.heap.size 31 Z4])[os.length]?=some (rowO W.heap.size 31 Z4)):=by unfold Hid;simp
 clear h hir hS hos hhe hh0 hbn hc hroom hb0 hr0 h0
 go_enter_defers Tryz.func47,Tryz.ntmps47
 go_wp2_with fail
 refine HWR.out.mono ?_
 rintro e w1 ⟨rfl,hw1⟩
 have H1:=Lib.hid hw1
 have HR0:=Lib.hid (hw1.row HAT.out)
 clear hw1 HWR
 have z0:w1.cell? ⟨W.heap.size,0,none⟩=some (.int .i64 0):=HR0.out.cell 0
 have z1:w1.cell? ⟨W.heap.size,1,none⟩=some (.int .i64 0):=HR0.out.cell 1
 have z2:w1.cell? ⟨W.heap.size,2,none⟩=some (.int .i64 0):=HR0.out.cell 2
 have z3:w1.cell? ⟨W.heap.size,3,none⟩=some (.int .i64 0):=HR0.out.cell 3
 have f0':=HR0.out.free 0
 have f1':=HR0.out.free 1
 have f2':=HR0.out.free 2
 have f3':=HR0.out.free 3
 have H9:=Lib.hid (wd_zero H1.out HAT.out)
 have HR9:=Lib.hid (H9.out.row HAT.out)
 go_wp2
 have r0:=HR9.out.cell 0
 have r1:=HR9.out.cell 1
 have r2:=HR9.out.cell 2
 have r3:=HR9.out.cell 3
 simp only[Z4,List.getElem?_cons_zero,List.getElem?_cons_succ]at r0 r1 r2 r3
 exact⟨.tuple #[.agg #[.int .i64 0,.int .i64 0,.int .i64 0,.int .i64 0],.int .i64 5],by simp[results,Tryz.results47,go_sem,r0,r1,r2,r3],rfl,H9.out.drop rfl rfl⟩
theorem jlay_x2{k hh c rb ir cr:Nat}{f0 f1:Int}{v:Value}(h:Wd X os m W)(hir:os[ir]?=some (rowO rb 31 [.int .i64 f0,.int .i64 f1,.int .i64 k,.int .i64 c,.int .i64 f0,.int .i64 f1,.int .i64 k,.int .i64 c]))(hS:X.S0=newSp 0 5000)(hos:∀(j:Nat) (a:Asn),os[j]?=some a→a.ex.2=0)(hhe:hh=holdsI X.sz k)(hh0:0<hh)(hbn:blocksN hh c=4000000)(hc:c≤100000000)(hroom:X.sz+sumN Asn.gw os≤X.rm):
  Calls Tryz.prog 47 #[.pointer (some ⟨X.p.w,0,none⟩),.int .i64 k,v,.slice (some ⟨rb,0,none⟩) 2 cr] W fun e w'=>e=.returned (.tuple #[.agg #[.int .i64 0,.int .i64 0,.int .i64 0,.int .i64 0],.int .i64 5])∧Wd X os m w':=by
 have hb0:Below W.heap.size W (W.alloc (.cells #[.int .i64 0,.int .i64 0,.int .i64 0,.int .i64 0] 31)):=(Below.refl _ _).alloc (Nat.le_refl _) _
 have hr0:Row (W.alloc (.cells #[.int .i64 0,.int .i64 0,.int .i64 0,.int .i64 0] 31)) W.heap.size 31 Z4:=heap_alloc_new _ _
 have h0:=h.new hb0 hr0 (Nat.le_refl _)
 have HWR:=Lib.hid (jwrite_x2 (cr:=cr) h0 (snoc_old hir) hS (fun j a hj=>by
  rcases snoc_or hj with⟨_,rfl⟩|⟨_,hj⟩
  ·rfl
  ·exact hos j a hj) hhe hh0 hbn hc (by rw[sumN_snoc];exact hroom))
 have HAT:Hid ((os++[rowO W.heap.size 31 Z4])[os.length]?=some (rowO W.heap.size 31 Z4)):=by unfold Hid;simp
 clear h hir hS hos hhe hh0 hbn hc hroom hb0 hr0 h0
 go_enter_defers Tryz.func47,Tryz.ntmps47
 go_wp2_with fail
 refine HWR.out.mono ?_
 rintro e w1 ⟨rfl,hw1⟩
 have H1:=Lib.hid hw1
 have HR0:=Lib.hid (hw1.row HAT.out)
 clear hw1 HWR
 have z0:w1.cell? ⟨W.heap.size,0,none⟩=some (.int .i64 0):=HR0.out.cell 0
 have z1:w1.cell? ⟨W.heap.size,1,none⟩=some (.int .i64 0):=HR0.out.cell 1
 have z2:w1.cell? ⟨W.heap.size,2,none⟩=some (.int .i64 0):=HR0.out.cell 2
 have z3:w1.cell? ⟨W.heap.size,3,none⟩=some (.int .i64 0):=HR0.out.cell 3
 have f0':=HR0.out.free 0
 have f1':=HR0.out.free 1
 have f2':=HR0.out.free 2
 have f3':=HR0.out.free 3
 have H9:=Lib.hid (wd_zero H1.out HAT.out)
 have HR9:=Lib.hid (H9.out.row HAT.out)
 go_wp2
 have r0:=HR9.out.cell 0
 have r1:=HR9.out.cell 1
 have r2:=HR9.out.cell 2
 have r3:=HR9.out.cell 3
 simp only[Z4,List.getElem?_cons_zero,List.getElem?_cons_succ]at r0 r1 r2 r3
 exact⟨.tuple #[.agg #[.int .i64 0,.int .i64 0,.int .i64 0,.int .i64 0],.int .i64 5],by simp[results,Tryz.results47,go_sem,r0,r1,r2,r3],rfl,H9.out.drop rfl rfl⟩
theorem change_x{k hh c:Nat}{f0 f1:Int}{fH:Nat}{caps:Array Value}(h:Wd X os m W)(hS:X.S0=newSp 0 5000)(hos:∀(j:Nat) (a:Asn),os[j]?=some a→a.ex.2=0)(hhe:hh=holdsI X.sz k)(hh0:0<hh)(hbn:blocksN hh c=4000000)(hc:c≤100000000)(hf1:f1=(4000000:Nat))(hroom:2*X.sz+sumN Asn.gw os≤X.rm):
  Calls Tryz.prog 32 #[.pointer (some ⟨X.p.w,0,none⟩),.agg #[.int .i64 f0,.int .i64 f1,.int .i64 k,.int .i64 c],.int .i64 k,.func (.func fH) #[] caps] W fun e w'=>e=.returned (.tuple #[.agg #[.int .i64 0,.int .i64 0,.int .i64 0,.int .i64 0],.int .i64 5])∧Wd X os m w':=by
 obtain⟨W2,hW2⟩:∃W2,W2=(W.alloc (.cells #[.int .i64 f0,.int .i64 f1,.int .i64 k,.int .i64 c] 31)).alloc (.cells #[.int .i64 0,.int .i64 0,.int .i64 0,.int .i64 0] 31):=⟨_,rfl⟩
 have h1:=h.new ((Below.refl W.heap.size W).alloc (Nat.le_refl _) (.cells #[.int .i64 f0,.int .i64 f1,.int .i64 k,.int .i64 c] 31)) (heap_alloc_new _ _:Row _ _ 31 [.int .i64 f0,.int .i64 f1,.int .i64 k,.int .i64 c]) (Nat.le_refl _)
 have h2:=h1.new ((Below.refl _ _).alloc (Nat.le_refl _) (.cells #[.int .i64 0,.int .i64 0,.int .i64 0,.int .i64 0] 31)) (heap_alloc_new _ _:Row _ _ 31 Z4) (Nat.le_refl _)
 rw[←hW2,show (W.alloc (.cells #[.int .i64 f0,.int .i64 f1,.int .i64 k,.int .i64 c] 31)).heap.size=W.heap.size+1 by simp]at h2
 obtain⟨s0,hs0⟩:∃s0,s0=W.heap.size:=⟨_,rfl⟩
 rw[←hs0]at h2
 obtain⟨Y,hY⟩:∃Y,Y=os++[rowO s0 31 [.int .i64 f0,.int .i64 f1,.int .i64 k,.int .i64 c]]++[rowO (s0+1) 31 Z4]:=⟨_,rfl⟩
 rw[←hY]at h2
 have hya:Y[os.length]?=some (rowO s0 31 [.int .i64 f0,.int .i64 f1,.int .i64 k,.int .i64 c]):=by rw[hY];simp
 have hyz:Y[os.length+1]?=some (rowO (s0+1) 31 Z4):=by rw[hY];simp
 have hye:∀(j:Nat) (a:Asn),Y[j]?=some a→a.ex.2=0:=fun j a hj=>by
  rw[hY]at hj
  rcases snoc_or hj with⟨_,rfl⟩|⟨_,hj⟩
  ·rfl
  rcases snoc_or hj with⟨_,rfl⟩|⟨_,hj⟩
  ·rfl
  ·exact hos j a hj
 have hyg:sumN Asn.gw Y=sumN Asn.gw os:=by rw[hY,sumN_snoc,sumN_snoc];rfl
 have HRD:Hid (Calls Tryz.prog 39 #[.pointer (some ⟨X.p.w,0,none⟩),.agg #[.int .i64 f0,.int .i64 f1,.int .i64 k,.int .i64 c]] W2 fun e w'=>∃x r,e=.returned (.tuple #[.pointer (some ⟨x,0,none⟩),.int .i64 0])∧Wd X (Y++[rxO X.p x r X.sz]) m w'):=by
  have:=wd_xread h2 f0 4000000 k hh c hhe hh0 hbn.symm hc (by rw[hyg];omega)
  rw[←hf1]at this
  exact this
 have HL:Hid (∀x r w g cs rb,Wd X (Y++[rxO X.p x r X.sz]++[rowO g 118 cs]++[rowO rb 31 [.int .i64 f0,.int .i64 f1,.int .i64 k,.int .i64 c]]) m w→∀fv,Calls Tryz.prog 47 #[.pointer (some ⟨X.p.w,0,none⟩),.int .i64 k,fv,.slice (some ⟨rb,0,none⟩) 1 1] w fun e w'=>e=.returned (.tuple #[.agg #[.int .i64 0,.int .i64 0,.int .i64 0,.int .i64 0],.int .i64 5])∧Wd X (Y++[rxO X.p x r X.sz]++[rowO g 118 cs]++[rowO rb 31 [.int .i64 f0,.int .i64 f1,.int .i64 k,.int .i64 c]]) m w'):=fun x r w g cs rb hw fv=>
  jlay_x1 (f0:=f0) (f1:=f1) hw (ir:=(Y++[rxO X.p x r X.sz]++[rowO g 118 cs]).length) (by simp) hS (fun j a hj=>by
   rcases snoc_or hj with⟨_,rfl⟩|⟨_,hj⟩
   ·rfl
   rcases snoc_or hj with⟨_,rfl⟩|⟨_,hj⟩
   ·rfl
   rcases snoc_or hj with⟨_,rfl⟩|⟨_,hj⟩
   ·rfl
   ·exact hye j a hj) hhe hh0 hbn hc (by
   rw[sumN_snoc,sumN_snoc,sumN_snoc,hyg]
   show X.sz+(sumN Asn.gw os+X.sz+0+0)≤X.rm
   omega)
 have HOS:Hid (∀w,Wd X (Y++[nilO]) m w→Wd X os m w):=fun w hw=>by
  have:=hw.drop rfl rfl
  rw[hY]at this
  exact(this.drop rfl rfl).drop rfl rfl
 have HYA:=Lib.hid hya
 have HYZ:=Lib.hid hyz
 have a0:W2.cell? ⟨s0,0,none⟩=some (.int .i64 f0):=(h2.row hya).cell 0
 have a1:W2.cell? ⟨s0,1,none⟩=some (.int .i64 f1):=(h2.row hya).cell 1
 have a2:W2.cell? ⟨s0,2,none⟩=some (.int .i64 k):=(h2.row hya).cell 2
 have a3:W2.cell? ⟨s0,3,none⟩=some (.int .i64 c):=(h2.row hya).cell 3
 have HW2:=Lib.hid hW2
 have HS0:=Lib.hid hs0
 clear h hS hos hhe hh0 hbn hc hf1 hroom h1 h2 hW2 hya hyz hye hyg hs0 hY
 go_enter_defers Tryz.func32,Tryz.ntmps32
 go_upto_region 1 with(fail)
 rw[←HW2.out,←HS0.out]
 clear HW2
 go_wp2_with fail
 refine HRD.out.mono ?_
 rintro e w3 ⟨x,r,rfl,hw3⟩
 have hw4:=hw3.new ((Below.refl w3.heap.size w3).alloc (Nat.le_refl _) (.cells #[.func (.func 41) #[.pointer (some ⟨x,0,none⟩)] #[],.func (.func fH) #[] caps] 118)) (heap_alloc_new _ _:Row _ _ 118 [.func (.func 41) #[.pointer (some ⟨x,0,none⟩)] #[],.func (.func fH) #[] caps]) (Nat.le_refl _)
 have H4:=Lib.hid hw4
 clear hw3 hw4 HRD a0 a1 a2 a3
 go_upto_region 6 with(fail)
 generalize w3.alloc (.cells #[.func (.func 41) #[.pointer (some ⟨x,0,none⟩)] #[],.func (.func fH) #[] caps] 118)=w4 at*
 generalize w3.heap.size=cb at*
 have hra:=H4.out.row (snoc_old (snoc_old HYA.out))
 have a0:w4.cell? ⟨s0,0,none⟩=some (.int .i64 f0):=hra.cell 0
 have a1:w4.cell? ⟨s0,1,none⟩=some (.int .i64 f1):=hra.cell 1
 have a2:w4.cell? ⟨s0,2,none⟩=some (.int .i64 k):=hra.cell 2
 have a3:w4.cell? ⟨s0,3,none⟩=some (.int .i64 c):=hra.cell 3
 have hrc:=H4.out.row (i:=(Y++[rxO X.p x r X.sz]).length) (g:=cb) (t:=118) (cs:=[.func (.func 41) #[.pointer (some ⟨x,0,none⟩)] #[],.func (.func fH) #[] caps]) (by simp)
 have b0:w4.cell? ⟨cb,0,none⟩=some (.func (.func 41) #[.pointer (some ⟨x,0,none⟩)] #[]):=hrc.cell 0
 have b1:w4.cell? ⟨cb,1,none⟩=some (.func (.func fH) #[] caps):=hrc.cell 1
 have h5:=H4.out.new ((Below.refl w4.heap.size w4).alloc (Nat.le_refl _) (.cells #[.int .i64 f0,.int .i64 f1,.int .i64 k,.int .i64 c] 31)) (heap_alloc_new _ _:Row _ _ 31 [.int .i64 f0,.int .i64 f1,.int .i64 k,.int .i64 c]) (Nat.le_refl _)
 have HLL:=Lib.hid (HL.out _ _ _ _ _ _ h5)
 clear hra hrc h5
 go_wp2_with fail
 refine(HLL.out _).mono ?_
 rintro e w6 ⟨rfl,hw6⟩
 have H6:=Lib.hid hw6
 have HR6:=Lib.hid (hw6.row (snoc_old (snoc_old (snoc_old HYZ.out))))
 have H9:=Lib.hid (wd_zero hw6 (snoc_old (snoc_old (snoc_old HYZ.out))))
 clear hw6 a0 a1 a2 a3 b0 b1 HLL
 have z0:w6.cell? ⟨s0+1,0,none⟩=some (.int .i64 0):=HR6.out.cell 0
 have z1:w6.cell? ⟨s0+1,1,none⟩=some (.int .i64 0):=HR6.out.cell 1
 have z2:w6.cell? ⟨s0+1,2,none⟩=some (.int .i64 0):=HR6.out.cell 2
 have z3:w6.cell? ⟨s0+1,3,none⟩=some (.int .i64 0):=HR6.out.cell 3
 have f0':=HR6.out.free 0
 have f1':=HR6.out.free 1
 have f2':=HR6.out.free 2
 have f3':=HR6.out.free 3
 go_wp2
 refine leaves_cons (f:=40) (args:=#[.pointer (some ⟨x,0,none⟩)]) (by simp) (by simp[go_sem]) ?_
 refine(wd_xclose _ ((H9.out.drop rfl rfl).drop rfl rfl) (i:=Y.length) (r:=r) (by simp)).mono ?_
 rintro e u' w'' ⟨rfl,rfl,hw''⟩
 have hw2:Wd X (Y++[nilO]) m w'':=by simpa [List.set_append]using hw''
 have hr9:=hw2.row (snoc_old HYZ.out)
 have r0:=hr9.cell 0
 have r1:=hr9.cell 1
 have r2:=hr9.cell 2
 have r3:=hr9.cell 3
 simp only[Z4,List.getElem?_cons_zero,List.getElem?_cons_succ]at r0 r1 r2 r3
 exact⟨.tuple #[.agg #[.int .i64 0,.int .i64 0,.int .i64 0,.int .i64 0],.int .i64 5],by simp[results,Tryz.results32,go_sem,r0,r1,r2,r3],rfl,HOS.out _ hw2⟩
end
section
variable {X : Cx} {os : List Asn} {m : Nat} {W : World}
theorem keep_x{k hh c:Nat}{f0 f1 c0 lo hi:Int}{w:World}(h:Wd X os m w)(hS:X.S0=newSp 0 5000)(hos:∀(j:Nat) (a:Asn),os[j]?=some a→a.ex.2=0)(hhe:hh=holdsI X.sz k)(hh0:0<hh)(hbn:blocksN hh c=4000000)(hc:c≤100000000)(hf1:f1=(4000000:Nat))(hin:0≤c0∧c0<(k:Int))(hroom:2*X.sz+sumN Asn.gw os≤X.rm):
  Calls Tryz.prog 20 #[.pointer (some ⟨X.p.w,0,none⟩),.agg #[.int .i64 f0,.int .i64 f1,.int .i64 k,.int .i64 c],.int .i64 c0,.int .i64 lo,.int .i64 hi] w fun e w'=>e=.returned (.tuple #[.agg #[.int .i64 0,.int .i64 0,.int .i64 0,.int .i64 0],.int .i64 5])∧Wd X os m w':=by
 have hsz:∀(w:World) (o:Obj),(w.alloc o).heap.size=w.heap.size+1:=fun w o=>by simp
 obtain⟨W,hW⟩:∃W,W=(((((w.alloc (.cells #[.int .i64 f0,.int .i64 f1,.int .i64 k,.int .i64 c] 31)).alloc (.cells #[.int .i64 c0] 3)).alloc (.cells #[.int .i64 lo] 2)).alloc (.cells #[.int .i64 hi] 2)).alloc (.cells #[.int .i64 0,.int .i64 0,.int .i64 0,.int .i64 0] 31)):=⟨_,rfl⟩
 have q0:=Below.refl w.heap.size w
 have q1:=q0.alloc q0.size (.cells #[.int .i64 f0,.int .i64 f1,.int .i64 k,.int .i64 c] 31)
 have q2:=q1.alloc q1.size (.cells #[.int .i64 c0] 3)
 have q3:=q2.alloc q2.size (.cells #[.int .i64 lo] 2)
 have q4:=q3.alloc q3.size (.cells #[.int .i64 hi] 2)
 have h1:=(h.below q4).new ((Below.refl _ _).alloc (Nat.le_refl _) (.cells #[.int .i64 0,.int .i64 0,.int .i64 0,.int .i64 0] 31)) (heap_alloc_new _ _:Row _ _ 31 Z4) (Nat.le_refl _)
 rw[←hW]at h1
 simp only[hsz,Nat.add_assoc,Nat.reduceAdd]at h1
 have r0:Row W (w.heap.size) 31 [.int .i64 f0,.int .i64 f1,.int .i64 k,.int .i64 c]:=by
  have q:Row (w.alloc (.cells #[.int .i64 f0,.int .i64 f1,.int .i64 k,.int .i64 c] 31)) w.heap.size 31 [.int .i64 f0,.int .i64 f1,.int .i64 k,.int .i64 c]:=heap_alloc_new _ _
  rw[hW]
  have p0:=Below.refl (w.heap.size+1) (w.alloc (.cells #[.int .i64 f0,.int .i64 f1,.int .i64 k,.int .i64 c] 31))
  have p1:=p0.alloc (by simp only[hsz];omega) (.cells #[.int .i64 c0] 3)
  have p2:=p1.alloc (by simp only[hsz];omega) (.cells #[.int .i64 lo] 2)
  have p3:=p2.alloc (by simp only[hsz];omega) (.cells #[.int .i64 hi] 2)
  have p4:=p3.alloc (by simp only[hsz];omega) (.cells #[.int .i64 0,.int .i64 0,.int .i64 0,.int .i64 0] 31)
  exact q.below p4 (by omega)
 have r1:Row W (w.heap.size+1) 3 [.int .i64 c0]:=by
  have q:Row ((w.alloc (.cells #[.int .i64 f0,.int .i64 f1,.int .i64 k,.int .i64 c] 31)).alloc (.cells #[.int .i64 c0] 3)) (w.alloc (.cells #[.int .i64 f0,.int .i64 f1,.int .i64 k,.int .i64 c] 31)).heap.size 3 [.int .i64 c0]:=heap_alloc_new _ _
  simp only[hsz]at q
  rw[hW]
  have p1:=Below.refl (w.heap.size+2) ((w.alloc (.cells #[.int .i64 f0,.int .i64 f1,.int .i64 k,.int .i64 c] 31)).alloc (.cells #[.int .i64 c0] 3))
  have p2:=p1.alloc (by simp only[hsz];omega) (.cells #[.int .i64 lo] 2)
  have p3:=p2.alloc (by simp only[hsz];omega) (.cells #[.int .i64 hi] 2)
  have p4:=p3.alloc (by simp only[hsz];omega) (.cells #[.int .i64 0,.int .i64 0,.int .i64 0,.int .i64 0] 31)
  exact q.below p4 (by omega)
 have HHC:Hid (∀w,Calls Tryz.prog 44 #[.agg #[.int .i64 f0,.int .i64 f1,.int .i64 k,.int .i64 c],.int .i64 c0] w fun e w'=>e=.returned (.bool true)∧Below w.heap.size w w'):=fun w=>by
  have:=hascol_any f0 f1 k c c0 w
  rwa [decide_eq_true hin]at this
 have HCC:Hid (∀u,Below W.heap.size W u→u.cell? ⟨w.heap.size,0,none⟩=some (.int .i64 f0)∧u.cell? ⟨w.heap.size,1,none⟩=some (.int .i64 f1)∧u.cell? ⟨w.heap.size,2,none⟩=some (.int .i64 k)∧u.cell? ⟨w.heap.size,3,none⟩=some (.int .i64 c)):=fun u hb=>by
  have q:=r0.below hb r0.lt
  exact⟨q.cell 0,q.cell 1,q.cell 2,q.cell 3⟩
 have d0:W.cell? ⟨w.heap.size,0,none⟩=some (.int .i64 f0):=r0.cell 0
 have d1:W.cell? ⟨w.heap.size,1,none⟩=some (.int .i64 f1):=r0.cell 1
 have d2:W.cell? ⟨w.heap.size,2,none⟩=some (.int .i64 k):=r0.cell 2
 have d3:W.cell? ⟨w.heap.size,3,none⟩=some (.int .i64 c):=r0.cell 3
 have d4:W.cell? ⟨w.heap.size+1,0,none⟩=some (.int .i64 c0):=r1.cell 0
 obtain⟨Y,hY⟩:∃Y,Y=os++[rowO (w.heap.size+4) 31 Z4]:=⟨_,rfl⟩
 rw[←hY]at h1
 have HAT:Hid (Y[os.length]?=some (rowO (w.heap.size+4) 31 Z4)):=by unfold Hid;rw[hY];simp
 have HCN:Hid (∀fH caps u,Below W.heap.size W u→Calls Tryz.prog 32 #[.pointer (some ⟨X.p.w,0,none⟩),.agg #[.int .i64 f0,.int .i64 f1,.int .i64 k,.int .i64 c],.int .i64 k,.func (.func fH) #[] caps] u fun e w'=>e=.returned (.tuple #[.agg #[.int .i64 0,.int .i64 0,.int .i64 0,.int .i64 0],.int .i64 5])∧Wd X Y m w'):=fun fH caps u hb=>
  change_x (h1.below hb) hS (fun j a hj=>by
   rw[hY]at hj
   rcases snoc_or hj with⟨_,rfl⟩|⟨_,hj⟩
   ·rfl
   ·exact hos j a hj) hhe hh0 hbn hc hf1 (by rw[hY,sumN_snoc];exact hroom)
 have HOS:Hid (∀u,Wd X Y m u→Wd X os m u):=fun u hu=>by rw[hY]at hu;exact hu.drop rfl rfl
 have HW:=Lib.hid hW
 clear h hS hos hhe hh0 hbn hc hf1 hin hroom hW hsz q0 q1 q2 q3 q4 h1 r0 r1 hY
 go_enter Tryz.func20,Tryz.ntmps20
 go_upto_region 1 with(fail)
 rw[←HW.out]
 clear HW
 go_wp2_with fail
 refine(HHC.out _).mono ?_
 rintro e w3 ⟨rfl,hb3⟩
 have HB3:=Lib.hid hb3
 clear hb3 d0 d1 d2 d3 d4
 obtain⟨d0,d1,d2,d3⟩:=HCC.out _ HB3.out
 go_wp2_with fail
 refine(HCN.out _ _ _ HB3.out).mono ?_
 rintro e w4 ⟨rfl,hw4⟩
 have H4:=Lib.hid hw4
 have HR4:=Lib.hid (hw4.row HAT.out)
 have H9:=Lib.hid (wd_zero hw4 HAT.out)
 clear hw4 d0 d1 d2 d3
 have z0:w4.cell? ⟨w.heap.size+4,0,none⟩=some (.int .i64 0):=HR4.out.cell 0
 have z1:w4.cell? ⟨w.heap.size+4,1,none⟩=some (.int .i64 0):=HR4.out.cell 1
 have z2:w4.cell? ⟨w.heap.size+4,2,none⟩=some (.int .i64 0):=HR4.out.cell 2
 have z3:w4.cell? ⟨w.heap.size+4,3,none⟩=some (.int .i64 0):=HR4.out.cell 3
 have f0':=HR4.out.free 0
 have f1':=HR4.out.free 1
 have f2':=HR4.out.free 2
 have f3':=HR4.out.free 3
 have HR9:=Lib.hid (H9.out.row HAT.out)
 go_wp2
 have r0:=HR9.out.cell 0
 have r1:=HR9.out.cell 1
 have r2:=HR9.out.cell 2
 have r3:=HR9.out.cell 3
 simp only[Z4,List.getElem?_cons_zero,List.getElem?_cons_succ]at r0 r1 r2 r3
 refine bodyPost_ret (v:=.tuple #[.agg #[.int .i64 0,.int .i64 0,.int .i64 0,.int .i64 0],.int .i64 5]) (by simp[results,Tryz.results20,go_sem,r0,r1,r2,r3]) rfl ?_
 exact⟨rfl,HOS.out _ H9.out⟩
theorem look_x{k hh c:Nat}{f0 f1:Int}(h:Wd X os m W)(hS:X.S0=newSp 0 5000)(hos:∀(j:Nat) (a:Asn),os[j]?=some a→a.ex.2=0)(hhe:hh=holdsI X.sz k)(hh0:0<hh)(hbn:blocksN hh c=4000000)(hc:c≤100000000)(hf1:f1=(4000000:Nat))(hk:1≤k∧k≤5)(hroom:3*X.sz+sumN Asn.gw os≤X.rm):
  Calls Tryz.prog 19 #[.pointer (some ⟨X.p.w,0,none⟩),.agg #[.int .i64 f0,.int .i64 f1,.int .i64 k,.int .i64 c],.int .i64 0,.agg #[.int .i64 f0,.int .i64 f1,.int .i64 k,.int .i64 c],.int .i64 0,.int .i64 0] W fun e w'=>e=.returned (.tuple #[.agg #[.int .i64 0,.int .i64 0,.int .i64 0,.int .i64 0],.int .i64 5])∧Wd X os m w':=by
 have hsz:∀(w:World) (o:Obj),(w.alloc o).heap.size=w.heap.size+1:=fun w o=>by simp
 obtain⟨W3,hW3⟩:∃W3,W3=(((W.alloc (.cells #[.int .i64 f0,.int .i64 f1,.int .i64 k,.int .i64 c] 31)).alloc (.cells #[.int .i64 f0,.int .i64 f1,.int .i64 k,.int .i64 c] 31)).alloc (.cells #[.int .i64 0,.int .i64 0,.int .i64 0,.int .i64 0] 31)):=⟨_,rfl⟩
 have h1:=h.new ((Below.refl W.heap.size W).alloc (Nat.le_refl _) (.cells #[.int .i64 f0,.int .i64 f1,.int .i64 k,.int .i64 c] 31)) (heap_alloc_new _ _:Row _ _ 31 [.int .i64 f0,.int .i64 f1,.int .i64 k,.int .i64 c]) (Nat.le_refl _)
 have h2:=h1.new ((Below.refl _ _).alloc (Nat.le_refl _) (.cells #[.int .i64 f0,.int .i64 f1,.int .i64 k,.int .i64 c] 31)) (heap_alloc_new _ _:Row _ _ 31 [.int .i64 f0,.int .i64 f1,.int .i64 k,.int .i64 c]) (Nat.le_refl _)
 have h3:=h2.new ((Below.refl _ _).alloc (Nat.le_refl _) (.cells #[.int .i64 0,.int .i64 0,.int .i64 0,.int .i64 0] 31)) (heap_alloc_new _ _:Row _ _ 31 Z4) (Nat.le_refl _)
 rw[←hW3]at h3
 simp only[hsz,Nat.add_assoc,Nat.reduceAdd]at h3
 obtain⟨s0,hs0⟩:∃s0,s0=W.heap.size:=⟨_,rfl⟩
 rw[←hs0]at h3
 obtain⟨Y,hY⟩:∃Y,Y=os++[rowO s0 31 [.int .i64 f0,.int .i64 f1,.int .i64 k,.int .i64 c]]++[rowO (s0+1) 31 [.int .i64 f0,.int .i64 f1,.int .i64 k,.int .i64 c]]++[rowO (s0+2) 31 Z4]:=⟨_,rfl⟩
 have h3:Wd X Y m W3:=by rw[hY];exact h3
 have hya:Y[os.length]?=some (rowO s0 31 [.int .i64 f0,.int .i64 f1,.int .i64 k,.int .i64 c]):=by rw[hY];simp
 have hyb:Y[os.length+1]?=some (rowO (s0+1) 31 [.int .i64 f0,.int .i64 f1,.int .i64 k,.int .i64 c]):=by rw[hY];simp
 have hyz:Y[os.length+2]?=some (rowO (s0+2) 31 Z4):=by rw[hY];simp
 have hye:∀(j:Nat) (a:Asn),Y[j]?=some a→a.ex.2=0:=fun j a hj=>by
  rw[hY]at hj
  rcases snoc_or hj with⟨_,rfl⟩|⟨_,hj⟩
  ·rfl
  rcases snoc_or hj with⟨_,rfl⟩|⟨_,hj⟩
  ·rfl
  rcases snoc_or hj with⟨_,rfl⟩|⟨_,hj⟩
  ·rfl
  ·exact hos j a hj
 have hyg:sumN Asn.gw Y=sumN Asn.gw os:=by rw[hY,sumN_snoc,sumN_snoc,sumN_snoc];rfl
 have HHC:Hid (∀w,Calls Tryz.prog 44 #[.agg #[.int .i64 f0,.int .i64 f1,.int .i64 k,.int .i64 c],.int .i64 0] w fun e w'=>e=.returned (.bool true)∧Below w.heap.size w w'):=fun w=>by
  have:=hascol_any f0 f1 k c 0 w
  rwa [decide_eq_true (show (0:Int)≤0∧(0:Int)<k by omega)]at this
 have HCB:Hid (∀w,Below W3.heap.size W3 w→Calls Tryz.prog 45 #[.pointer (some ⟨X.p.w,0,none⟩),.agg #[.int .i64 f0,.int .i64 f1,.int .i64 k,.int .i64 c]] w fun e w'=>e=.returned (.bool true)∧Below w.heap.size w w'):=fun w hb=>by
  have:=jcanbe_x (first:=f0) (nb:=4000000) (h3.below hb) hhe hh0 hbn.symm hc
  rw[←hf1]at this
  exact this
 have HRA:Hid (∀w,Below W3.heap.size W3 w→Calls Tryz.prog 39 #[.pointer (some ⟨X.p.w,0,none⟩),.agg #[.int .i64 f0,.int .i64 f1,.int .i64 k,.int .i64 c]] w fun e w'=>∃x r,e=.returned (.tuple #[.pointer (some ⟨x,0,none⟩),.int .i64 0])∧Wd X (Y++[rxO X.p x r X.sz]) m w'):=fun w hb=>by
  have:=wd_xread (h3.below hb) f0 4000000 k hh c hhe hh0 hbn.symm hc (by rw[hyg];omega)
  rw[←hf1]at this
  exact this
 have HRB:Hid (∀xa ra w,Wd X (Y++[rxO X.p xa ra X.sz]) m w→Calls Tryz.prog 39 #[.pointer (some ⟨X.p.w,0,none⟩),.agg #[.int .i64 f0,.int .i64 f1,.int .i64 k,.int .i64 c]] w fun e w'=>∃x r,e=.returned (.tuple #[.pointer (some ⟨x,0,none⟩),.int .i64 0])∧Wd X (Y++[rxO X.p xa ra X.sz]++[rxO X.p x r X.sz]) m w'):=fun xa ra w hw=>by
  have:=wd_xread hw f0 4000000 k hh c hhe hh0 hbn.symm hc (by
   rw[sumN_snoc,hyg]
   show X.sz+(sumN Asn.gw os+X.sz)≤X.rm
   omega)
  rw[←hf1]at this
  exact this
 have HL:Hid (∀xa ra xb rb' w rb,Wd X (Y++[rxO X.p xa ra X.sz]++[rxO X.p xb rb' X.sz]++[rowO rb 31 [.int .i64 f0,.int .i64 f1,.int .i64 k,.int .i64 c,.int .i64 f0,.int .i64 f1,.int .i64 k,.int .i64 c]]) m w→∀fv,Calls Tryz.prog 47 #[.pointer (some ⟨X.p.w,0,none⟩),.int .i64 k,fv,.slice (some ⟨rb,0,none⟩) 2 2] w fun e w'=>e=.returned (.tuple #[.agg #[.int .i64 0,.int .i64 0,.int .i64 0,.int .i64 0],.int .i64 5])∧Wd X (Y++[rxO X.p xa ra X.sz]++[rxO X.p xb rb' X.sz]++[rowO rb 31 [.int .i64 f0,.int .i64 f1,.int .i64 k,.int .i64 c,.int .i64 f0,.int .i64 f1,.int .i64 k,.int .i64 c]]) m w'):=fun xa ra xb rb' w rb hw fv=>
  jlay_x2 (f0:=f0) (f1:=f1) hw (ir:=(Y++[rxO X.p xa ra X.sz]++[rxO X.p xb rb' X.sz]).length) (by simp) hS (fun j a hj=>by
   rcases snoc_or hj with⟨_,rfl⟩|⟨_,hj⟩
   ·rfl
   rcases snoc_or hj with⟨_,rfl⟩|⟨_,hj⟩
   ·rfl
   rcases snoc_or hj with⟨_,rfl⟩|⟨_,hj⟩
   ·rfl
   ·exact hye j a hj) hhe hh0 hbn hc (by
   rw[sumN_snoc,sumN_snoc,sumN_snoc,hyg]
   show X.sz+(sumN Asn.gw os+X.sz+X.sz+0)≤X.rm
   omega)
 have HOS:Hid (∀w,Wd X (Y++[nilO]++[nilO]) m w→Wd X os m w):=fun w hw=>by
  have:=(hw.drop rfl rfl).drop rfl rfl
  rw[hY]at this
  exact((this.drop rfl rfl).drop rfl rfl).drop rfl rfl
 have HCF:Hid (∀w,Wd X Y m w→(w.cell? ⟨s0,0,none⟩=some (.int .i64 f0)∧w.cell? ⟨s0,1,none⟩=some (.int .i64 f1)∧w.cell? ⟨s0,2,none⟩=some (.int .i64 k)∧w.cell? ⟨s0,3,none⟩=some (.int .i64 c))∧w.cell? ⟨s0+1,0,none⟩=some (.int .i64 f0)∧w.cell? ⟨s0+1,1,none⟩=some (.int .i64 f1)∧w.cell? ⟨s0+1,2,none⟩=some (.int .i64 k)∧w.cell? ⟨s0+1,3,none⟩=some (.int .i64 c)):=fun w hw=>by
  have q1:=hw.row hya
  have q2:=hw.row hyb
  exact⟨⟨q1.cell 0,q1.cell 1,q1.cell 2,q1.cell 3⟩,q2.cell 0,q2.cell 1,q2.cell 2,q2.cell 3⟩
 have HYA:=Lib.hid hya
 have HYB:=Lib.hid hyb
 have HYZ:=Lib.hid hyz
 have H3:=Lib.hid h3
 have hmx:(if k<1 then (1:Int)else (k:Int))=(k:Int):=by rw[if_neg (by omega)]
 have hk1:1≤k:=hk.1
 have hk5:k≤5:=hk.2
 have HW3:=Lib.hid hW3
 replace hs0:=Lib.hid hs0
 clear h hS hos hhe hh0 hbn hc hf1 hk hroom hsz hW3 h1 h2 h3 hY hya hyb hyz hye hyg
 obtain⟨⟨a0,a1,a2,a3⟩,b0,b1,b2,b3⟩:=HCF.out W3 H3.out
 go_enter_defers Tryz.func19,Tryz.ntmps19
 go_upto_region 1 with(fail)
 rw[←HW3.out,←hs0.out]
 clear HW3
 go_wp2_with fail
 refine(HHC.out _).mono ?_
 rintro e w4 ⟨rfl,hb4⟩
 have HB4:=Lib.hid hb4
 clear hb4 a0 a1 a2 a3 b0 b1 b2 b3
 obtain⟨⟨a0,a1,a2,a3⟩,b0,b1,b2,b3⟩:=HCF.out w4 (H3.out.below HB4.out)
 go_wp2_with fail
 refine(HHC.out _).mono ?_
 rintro e w5 ⟨rfl,hb5⟩
 have HB5:=Lib.hid (HB4.out.trans (hb5.mono HB4.out.size))
 clear hb5 a0 a1 a2 a3 b0 b1 b2 b3
 obtain⟨⟨a0,a1,a2,a3⟩,b0,b1,b2,b3⟩:=HCF.out w5 (H3.out.below HB5.out)
 have HC5:=Lib.hid (HCB.out w5 HB5.out)
 go_wp2_with fail
 refine HC5.out.mono ?_
 rintro e w6 ⟨rfl,hb6⟩
 have HB6:=Lib.hid (HB5.out.trans (hb6.mono HB5.out.size))
 clear hb6 a0 a1 a2 a3 b0 b1 b2 b3 HC5
 obtain⟨⟨a0,a1,a2,a3⟩,b0,b1,b2,b3⟩:=HCF.out w6 (H3.out.below HB6.out)
 have HR6:=Lib.hid (HRA.out w6 HB6.out)
 go_wp2_with fail
 refine HR6.out.mono ?_
 rintro e w7 ⟨xa,ra,rfl,hw7⟩
 have HR7:=Lib.hid (HRB.out xa ra w7 hw7)
 have hqb:=hw7.row (snoc_old HYB.out)
 clear a0 a1 a2 a3 b0 b1 b2 b3 HR6 HRA hw7
 have b0:w7.cell? ⟨s0+1,0,none⟩=some (.int .i64 f0):=hqb.cell 0
 have b1:w7.cell? ⟨s0+1,1,none⟩=some (.int .i64 f1):=hqb.cell 1
 have b2:w7.cell? ⟨s0+1,2,none⟩=some (.int .i64 k):=hqb.cell 2
 have b3:w7.cell? ⟨s0+1,3,none⟩=some (.int .i64 c):=hqb.cell 3
 clear hqb
 go_wp2_with fail
 refine HR7.out.mono ?_
 rintro e w8 ⟨xb,rb,rfl,hw8⟩
 have q1:=(Below.refl w8.heap.size w8).alloc (Nat.le_refl _) (.cells #[.func (.func 41) #[.pointer (some ⟨xa,0,none⟩)] #[],.int .i64 0,.bool false,.bool false,.int .i64 0] 96)
 have q2:=q1.alloc q1.size (.cells #[.func (.func 41) #[.pointer (some ⟨xb,0,none⟩)] #[],.int .i64 0,.bool true,.bool false,.int .i64 0] 96)
 have q3:=q2.alloc q2.size (.cells #[.func (.func 46) #[.pointer (some ⟨w8.heap.size,0,none⟩)] #[],.func (.func 46) #[.pointer (some ⟨w8.heap.size+1,0,none⟩)] #[],.int .i64 0,.int .i64 0,.int .i64 0,.bool false,.bool false,.int .i64 0,.int .i64 0,.int .i64 0,.int .i64 0,.int .i64 0] 99)
 have H9:Hid (Wd X (Y++[rxO X.p xa ra X.sz]++[rxO X.p xb rb X.sz]) m (((w8.alloc (.cells #[.func (.func 41) #[.pointer (some ⟨xa,0,none⟩)] #[],.int .i64 0,.bool false,.bool false,.int .i64 0] 96)).alloc (.cells #[.func (.func 41) #[.pointer (some ⟨xb,0,none⟩)] #[],.int .i64 0,.bool true,.bool false,.int .i64 0] 96)).alloc (.cells #[.func (.func 46) #[.pointer (some ⟨w8.heap.size,0,none⟩)] #[],.func (.func 46) #[.pointer (some ⟨w8.heap.size+1,0,none⟩)] #[],.int .i64 0,.int .i64 0,.int .i64 0,.bool false,.bool false,.int .i64 0,.int .i64 0,.int .i64 0,.int .i64 0,.int .i64 0] 99))):=hw8.below q3
 clear hw8 HR7 HRB b0 b1 b2 b3 q1 q2 q3
 go_upto_region 14 with(fail)
 generalize hw9:(((w8.alloc (.cells #[.func (.func 41) #[.pointer (some ⟨xa,0,none⟩)] #[],.int .i64 0,.bool false,.bool false,.int .i64 0] 96)).alloc (.cells #[.func (.func 41) #[.pointer (some ⟨xb,0,none⟩)] #[],.int .i64 0,.bool true,.bool false,.int .i64 0] 96)).alloc (.cells #[.func (.func 46) #[.pointer (some ⟨w8.heap.size,0,none⟩)] #[],.func (.func 46) #[.pointer (some ⟨w8.heap.size+1,0,none⟩)] #[],.int .i64 0,.int .i64 0,.int .i64 0,.bool false,.bool false,.int .i64 0,.int .i64 0,.int .i64 0,.int .i64 0,.int .i64 0] 99))=w9 at*
 replace hw9:=Lib.hid hw9
 have qa:=H9.out.row (snoc_old (snoc_old HYA.out))
 have qb:=H9.out.row (snoc_old (snoc_old HYB.out))
 have a0:w9.cell? ⟨s0,0,none⟩=some (.int .i64 f0):=qa.cell 0
 have a1:w9.cell? ⟨s0,1,none⟩=some (.int .i64 f1):=qa.cell 1
 have a2:w9.cell? ⟨s0,2,none⟩=some (.int .i64 k):=qa.cell 2
 have a3:w9.cell? ⟨s0,3,none⟩=some (.int .i64 c):=qa.cell 3
 have b0:w9.cell? ⟨s0+1,0,none⟩=some (.int .i64 f0):=qb.cell 0
 have b1:w9.cell? ⟨s0+1,1,none⟩=some (.int .i64 f1):=qb.cell 1
 have b2:w9.cell? ⟨s0+1,2,none⟩=some (.int .i64 k):=qb.cell 2
 have b3:w9.cell? ⟨s0+1,3,none⟩=some (.int .i64 c):=qb.cell 3
 have h10:=H9.out.new ((Below.refl w9.heap.size w9).alloc (Nat.le_refl _) (.cells #[.int .i64 f0,.int .i64 f1,.int .i64 k,.int .i64 c,.int .i64 f0,.int .i64 f1,.int .i64 k,.int .i64 c] 31)) (heap_alloc_new _ _:Row _ _ 31 [.int .i64 f0,.int .i64 f1,.int .i64 k,.int .i64 c,.int .i64 f0,.int .i64 f1,.int .i64 k,.int .i64 c]) (Nat.le_refl _)
 have HLL:=Lib.hid (HL.out _ _ _ _ _ _ h10)
 clear qa qb h10
 go_wp2_with fail
 refine(HLL.out _).mono ?_
 rintro e w11 ⟨rfl,hw11⟩
 have HR6:=Lib.hid (hw11.row (snoc_old (snoc_old (snoc_old HYZ.out))))
 have H12:=Lib.hid (wd_zero hw11 (snoc_old (snoc_old (snoc_old HYZ.out))))
 clear hw11 a0 a1 a2 a3 b0 b1 b2 b3 HLL
 have z0:w11.cell? ⟨s0+2,0,none⟩=some (.int .i64 0):=HR6.out.cell 0
 have z1:w11.cell? ⟨s0+2,1,none⟩=some (.int .i64 0):=HR6.out.cell 1
 have z2:w11.cell? ⟨s0+2,2,none⟩=some (.int .i64 0):=HR6.out.cell 2
 have z3:w11.cell? ⟨s0+2,3,none⟩=some (.int .i64 0):=HR6.out.cell 3
 have f0':=HR6.out.free 0
 have f1':=HR6.out.free 1
 have f2':=HR6.out.free 2
 have f3':=HR6.out.free 3
 go_wp2
 refine leaves_cons (f:=40) (args:=#[.pointer (some ⟨xb,0,none⟩)]) (by simp) (by simp[go_sem]) ?_
 refine(wd_xclose _ (H12.out.drop rfl rfl) (i:=Y.length+1) (r:=rb) (by simp)).mono ?_
 rintro e u' w12 ⟨rfl,rfl,hw12⟩
 have hw12:Wd X (Y++[rxO X.p xa ra X.sz]++[nilO]) m w12:=by simpa [List.set_append]using hw12
 refine leaves_cons (f:=40) (args:=#[.pointer (some ⟨xa,0,none⟩)]) (by simp[settle]) (by simp[go_sem]) ?_
 refine(wd_xclose _ hw12 (i:=Y.length) (r:=ra) (by simp)).mono ?_
 rintro e u' w13 ⟨rfl,rfl,hw13⟩
 have hw13:Wd X (Y++[nilO]++[nilO]) m w13:=by simpa [List.set_append]using hw13
 have hr9:=hw13.row (snoc_old (snoc_old HYZ.out))
 have r0:=hr9.cell 0
 have r1:=hr9.cell 1
 have r2:=hr9.cell 2
 have r3:=hr9.cell 3
 simp only[Z4,List.getElem?_cons_zero,List.getElem?_cons_succ]at r0 r1 r2 r3
 exact⟨.tuple #[.agg #[.int .i64 0,.int .i64 0,.int .i64 0,.int .i64 0],.int .i64 5],by simp[results,Tryz.results19,go_sem,r0,r1,r2,r3],rfl,HOS.out _ hw13⟩
end
theorem nil_can{sz:Nat}{f2 f3:Int}(hno:¬(holdsI sz f2=0∨f3<0∨(2≤holdsI sz f2∧(4000000:Int)≠(blocksN (holdsI sz f2) f3.toNat:Nat))))(hz:sz=12):
  ∃k c:Nat,f2=k∧f3=c∧1≤k∧k≤5∧0<holdsI sz k∧blocksN (holdsI sz k) c=4000000∧c≤100000000∧4000000<c:=by
 subst hz
 have h1:¬holdsI 12 f2=0:=fun h=>hno (.inl h)
 have h2:¬f3<0:=fun h=>hno (.inr (.inl h))
 have hwd:1≤f2∧f2≤5:=by
  unfold holdsI at h1
  split at h1
  ·exact absurd rfl h1
  ·omega
 obtain⟨c,rfl⟩:∃c:Nat,f3=c:=⟨f3.toNat,by omega⟩
 obtain⟨k,rfl⟩:∃k:Nat,f2=k:=⟨f2.toNat,by omega⟩
 have h3:¬(2≤holdsI 12 (k:Int)∧(4000000:Int)≠(blocksN (holdsI 12 (k:Int)) (c:Int).toNat:Nat)):=fun h=>hno (.inr (.inr h))
 simp only[Int.toNat_natCast]at h3
 have hk:k=1∨k=2∨k=3∨k=4∨k=5:=by omega
 have key:∀h:Nat,holdsI 12 (k:Int)=h→2≤h→h≤10→(h=10∨h=5∨h=3∨h=2)→∃k' c':Nat,(k:Int)=k'∧(c:Int)=c'∧1≤k'∧k'≤5∧0<holdsI 12 k'∧blocksN (holdsI 12 k') c'=4000000∧c'≤100000000∧4000000<c':=fun h e h4 h5 h6=>by
  rw[e]at h3
  have h7:blocksN h c=4000000:=by
   rcases Nat.decEq (blocksN h c) 4000000 with h8|h8
   ·exact absurd ⟨h4,by omega⟩ h3
   ·exact h8
  refine⟨k,c,rfl,rfl,by omega,by omega,by rw[e];omega,by rw[e];exact h7,?_⟩
  unfold blocksN at h7
  rcases h6 with rfl|rfl|rfl|rfl<;>(split at h7<;>omega)
 rcases hk with rfl|rfl|rfl|rfl|rfl
 ·exact key 10 (by decide) (by decide) (by decide) (by decide)
 ·exact key 5 (by decide) (by decide) (by decide) (by decide)
 ·exact key 3 (by decide) (by decide) (by decide) (by decide)
 ·exact key 2 (by decide) (by decide) (by decide) (by decide)
 ·exact key 2 (by decide) (by decide) (by decide) (by decide)
theorem base_store{W1 w5:World}{b j:Nat}{t:TypeId}{cs:List Value}{v:Value}(hr:Row W1 b t cs)(hb:Below W1.heap.size W1 w5):
  Below (W1.setCell ⟨b,j,none⟩ v).heap.size (W1.setCell ⟨b,j,none⟩ v) (w5.setCell ⟨b,j,none⟩ v)∧Far (fun k=>k=b) w5 (w5.setCell ⟨b,j,none⟩ v):=by
 have h5:Row w5 b t cs:=hr.below hb hr.lt
 have f1:Far (fun k=>k=b) W1 (W1.setCell ⟨b,j,none⟩ v):=(Far.refl (fun k=>k=b) _).set (p:=⟨b,j,none⟩) (.inl rfl) v
 have f2:Far (fun k=>k=b) w5 (w5.setCell ⟨b,j,none⟩ v):=(Far.refl (fun k=>k=b) _).set (p:=⟨b,j,none⟩) (.inl rfl) v
 have e1:=hr.set j v
 have e2:=h5.set j v
 refine⟨⟨(f2.os.trans hb.os).trans f1.os.symm,(f2.tape.trans hb.tape).trans f1.tape.symm,(f2.output.trans hb.output).trans f1.output.symm,?_,fun k hk=>?_⟩,f2⟩
 ·have:=hb.size
  simpa using this
 ·have hk:k<W1.heap.size:=by simpa using hk
  by_cases hkb:k=b
  ·subst hkb
   exact Eq.trans e2 (Eq.symm e1)
  ·rw[f2.block k (by have:=hb.size;omega) hkb,f1.block k hk hkb]
   exact hb.block k hk
section
variable {X : Cx} {m : Nat} {W : World}
theorem nil_look{f0 f2 f3:Int}(h:Wd X [] m W)(hS:X.S0=newSp 0 5000)(hz:X.sz=12)(hr:X.rm=60)(hf3:I64 f3):
  Calls Tryz.prog 19 #[.pointer (some ⟨X.p.w,0,none⟩),.agg #[.int .i64 f0,.int .i64 4000000,.int .i64 f2,.int .i64 f3],.int .i64 0,.agg #[.int .i64 f0,.int .i64 4000000,.int .i64 f2,.int .i64 f3],.int .i64 0,.int .i64 0] W fun e w'=>∃er:Nat,e=.returned (.tuple #[.agg #[.int .i64 0,.int .i64 0,.int .i64 0,.int .i64 0],.int .i64 er])∧(er=1∨(4000000:Int)<f3)∧Wd X [] m w':=by
 have hf3b:f3≤9223372036854775807:=hf3.bounds.2
 by_cases hno:holdsI X.sz f2=0∨f3<0∨(2≤holdsI X.sz f2∧(4000000:Int)≠(blocksN (holdsI X.sz f2) f3.toNat:Nat))
 ·refine(look_arg _ f0 4000000 f2 f3 0 W fun u hb=>jcanbe_arg (h.below hb) hf3b hno).mono ?_
  rintro e w' ⟨rfl,hb⟩
  exact⟨1,rfl,.inl rfl,h.below hb⟩
 obtain⟨k,c,hk2,hc3,hk1,hk5,hhh,hbb,hcc,hcb⟩:=nil_can hno hz
 subst hk2 hc3
 refine(look_x (f0:=f0) (f1:=4000000) h hS (fun j a hj=>by simp at hj) rfl hhh hbb hcc rfl ⟨hk1,hk5⟩ (by rw[hz,hr];show 3*12+0≤60;omega)).mono ?_
 rintro e w' ⟨rfl,hw⟩
 exact⟨5,rfl,.inr (by omega),hw⟩
theorem nil_keep{f0 f2 f3:Int}(h:Wd X [] m W)(hS:X.S0=newSp 0 5000)(hz:X.sz=12)(hr:X.rm=60)(hf3:I64 f3):
  Calls Tryz.prog 20 #[.pointer (some ⟨X.p.w,0,none⟩),.agg #[.int .i64 f0,.int .i64 4000000,.int .i64 f2,.int .i64 f3],.int .i64 0,.int .i64 0,.int .i64 0] W fun e w'=>∃er:Nat,e=.returned (.tuple #[.agg #[.int .i64 0,.int .i64 0,.int .i64 0,.int .i64 0],.int .i64 er])∧(er=1∨(4000000:Int)<f3)∧Wd X [] m w':=by
 have hf3b:f3≤9223372036854775807:=hf3.bounds.2
 by_cases hno:holdsI X.sz f2=0∨f3<0∨(2≤holdsI X.sz f2∧(4000000:Int)≠(blocksN (holdsI X.sz f2) f3.toNat:Nat))
 ·refine(keep_arg _ f0 4000000 f2 f3 0 0 0 W fun wd v u hb=>change_arg _ f0 4000000 f2 f3 wd v u fun u2 hb2=>?_).mono ?_
  ·obtain⟨G,D,A,S,hF⟩:=(h.below hb).below hb2
   have hds:D.size=X.sz:=hF.size
   exact fread_arg hF.sys f0 4000000 f2 f3 hf3b (by show holdsI D.size f2=0∨ _;rw[hds];exact hno)
  ·rintro e w' ⟨rfl,hb⟩
   exact⟨1,rfl,.inl rfl,h.below hb⟩
 obtain⟨k,c,hk2,hc3,hk1,hk5,hhh,hbb,hcc,hcb⟩:=nil_can hno hz
 subst hk2 hc3
 refine(keep_x (f0:=f0) (f1:=4000000) (c0:=0) (lo:=0) (hi:=0) h hS (fun j a hj=>by simp at hj) rfl hhh hbb hcc rfl ⟨by omega,by omega⟩ (by rw[hz,hr];show 2*12+0≤60;omega)).mono ?_
 rintro e w' ⟨rfl,hw⟩
 exact⟨5,rfl,.inr (by omega),hw⟩
end
end Go.Proofs.YtfpjmhnmpjdbiaaGreat
