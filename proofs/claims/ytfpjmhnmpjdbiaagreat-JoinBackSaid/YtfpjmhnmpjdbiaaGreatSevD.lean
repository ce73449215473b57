/- What the laws stand on. -/
import Derived.Test.YtfpjmhnmpjdbiaaGreatSevC
namespace Go.Proofs.YtfpjmhnmpjdbiaaGreat
set_option linter.unusedVariables false
set_option maxRecDepth 100000
set_option maxHeartbeats 8000000
open Go.ChangeShapes Go.WideShapes Go.ChangeAt Go.RowKit
open Go.Joins Go.Deep
open Go.ChangeShapes Go.WideShapes Go.ChangeAt Go.RowKit Go.Maps
open Go.ChangeMaps (setBlock heap_setBlock_same heap_setBlock_other)
structure SrcC (X:Cx) (fN:Nat) (vF:Value) {σ:Type} (P:σ→Prop) (Z:σ→List Asn) (O:σ→List Tup) (mu c:σ→Nat) (nz:Nat) (Ze:List Asn→Prop) (Out:List Tup) (Fin:Prop) (Bad:Nat→Prop) (bd ct k:Nat):Prop where
 ent:∀args w,Sem.run Tryz.prog (callFunc fN args) w=.ok (.enter fN args) w
 len:∀s,(Z s).length=nz
 out:∀s,P s→(O s).length≤bd∧∀u∈O s,TupOk u∧fitsT k u=true
 cost:∀s,P s→c s≤ct
 zok:∀s,P s→Ze (Z s)
 next:∀s zz m W,P s→Wd X (Z s++zz) (m+c s) W→X.N+m+ct+1≤1000000→Calls Tryz.prog fN #[vF] W fun e w'=>
  (∃t s',e=.returned (.tuple #[tupV t,.bool true,.int .i64 0])∧P s'∧mu s'<mu s∧O s'=O s++[t]∧Wd X (Z s'++zz) (m+c s') w')∨
  (∃z',e=.returned (.tuple #[tupV tup0,.bool false,.int .i64 0])∧O s=Out∧Fin∧z'.length=nz∧Ze z'∧Wd X (z'++zz) (m+ct) w')∨
  (∃(er:Nat) (z':List Asn),e=.returned (.tuple #[tupV tup0,.bool false,.int .i64 er])∧0<er∧(Bad er∨er=6∧¬X.cm)∧z'.length=nz∧Ze z'∧Wd X (z'++zz) (m+ct+1) w')
structure KP where
 X:Cx
 nz:Nat
 Ze:List Asn→Prop
 Out:List Tup
 Fin:Prop
 Bad:Nat→Prop
 bd:Nat
 ct:Nat
 m:Nat
 x:Nat
 t:Wt
 R:Nat
structure KP.Ok (P:KP):Prop where
 ok:WtOk P.t P.X.sz
 bd:P.t.bound=P.bd
 nil:P.t.l=[]
 n:P.X.N+P.m+P.ct+P.bd+2≤1000000
def KP.tl(P:KP)(l:List Tup):Wt:={P.t with l:=l}
def KP.Z(P:KP)(z:List Asn)(cs:List Value)(a:Asn):List Asn:=z++[rowO P.R 31 cs,a]
def KP.Why(P:KP)(er:Nat):Prop:=P.Bad er∨er=6∧¬P.X.cm
def KP.J{σ:Type}(P:KP)(Q:σ→Prop)(Z:σ→List Asn)(O:σ→List Tup)(mu c:σ→Nat)(n:Nat)(W:World):Prop:=
 ∃s,Q s∧mu s=n∧Wd P.X (P.Z (Z s) Z4 (wrO P.X.p P.x (P.tl (O s)) P.X.sz)) (P.m+(O s).length/P.t.h+c s) W
def KP.Jm{σ:Type}(P:KP)(Q:σ→Prop)(Z:σ→List Asn)(O:σ→List Tup)(mu c:σ→Nat)(t:Tup)(n:Nat)(W:World):Prop:=
 ∃s l,Q s∧mu s=n∧O s=l++[t]∧Wd P.X (P.Z (Z s) Z4 (wrO P.X.p P.x (P.tl l) P.X.sz)) (P.m+l.length/P.t.h+c s) W
def KP.Fit(P:KP):Prop:=P.Out.length≤P.bd∧(∀u∈P.Out,TupOk u∧fitsT P.t.k u=true)∧P.Fin
def KP.E(P:KP)(W:World):Prop:=∃z,z.length=P.nz∧P.Ze z∧P.Fit∧Wd P.X (P.Z z Z4 (wrO P.X.p P.x (P.tl P.Out) P.X.sz)) (P.m+P.Out.length/P.t.h+P.ct) W
def KP.Er(P:KP)(cs:List Value)(er:Nat)(W:World):Prop:=∃z a l,z.length=P.nz∧P.Ze z∧P.Why er∧l.length≤P.bd∧(a=wrO P.X.p P.x (P.tl l) P.X.sz∨a=wsO P.X.p P.x (P.tl l))∧Wd P.X (P.Z z cs a) (P.m+P.ct+P.bd+2) W
def KP.N(P:KP)(cs:List Value)(er:Nat)(W:World):Prop:=∃z l,z.length=P.nz∧P.Ze z∧P.Why er∧Wd P.X (P.Z z cs (wsO P.X.p P.x (P.tl l))) (P.m+P.ct+P.bd+2) W
def KP.C(P:KP)(cs:List Value)(W:World):Prop:=∃z,z.length=P.nz∧P.Ze z∧P.Fit∧Wd P.X (P.Z z cs (wfO P.X.p P.x (P.tl P.Out) P.X.sz)) (P.m+blocksN P.t.h P.Out.length+P.ct) W
section
variable {P : KP} {W W' : World} {z : List Asn} {cs cs' : List Value} {a b : Asn} {er : Nat} {l : List Tup}
theorem KP.atW(P:KP)(hz:z.length=P.nz)(cs:List Value)(a:Asn):(P.Z z cs a)[P.nz+1]?=some a:=by rw[←hz];simp[KP.Z]
theorem KP.setW(P:KP)(hz:z.length=P.nz)(cs:List Value)(a b:Asn):(P.Z z cs a).set (P.nz+1) b=P.Z z cs b:=by rw[←hz];simp[KP.Z]
theorem KP.atR(P:KP)(hz:z.length=P.nz)(cs:List Value)(a:Asn):(P.Z z cs a)[P.nz]?=some (rowO P.R 31 cs):=by rw[←hz];simp[KP.Z]
theorem KP.setR(P:KP)(hz:z.length=P.nz)(cs cs':List Value)(a:Asn):(P.Z z cs a).set P.nz (rowO P.R 31 cs')=P.Z z cs' a:=by rw[←hz];simp[KP.Z]
theorem KP.tlOk(hP:P.Ok)(hl:l.length≤P.bd):WtOk (P.tl l) P.X.sz:=
 ⟨hP.ok.k,hP.ok.h,hP.ok.sz,⟨hP.ok.bound.1,by show l.length≤P.t.bound;rw[hP.bd];exact hl⟩,hP.ok.blocks,hP.ok.first⟩
theorem KP.store4{M:Nat}(hz:z.length=P.nz)(h:Wd P.X (P.Z z cs a) M W)(hcs:cs.length=4)(x1 x2 x3 x4:Value):Wd P.X (P.Z z [x1,x2,x3,x4] a) M ((((W.setCell ⟨P.R,0,none⟩ x1).setCell ⟨P.R,1,none⟩ x2).setCell ⟨P.R,2,none⟩ x3).setCell ⟨P.R,3,none⟩ x4):=by
 have h1:=Wd.store h (P.atR hz _ _) (by decide) 0 x1
 rw[P.setR hz]at h1
 have h2:=h1.store (P.atR hz _ _) (by decide) 1 x2
 rw[P.setR hz]at h2
 have h3:=h2.store (P.atR hz _ _) (by decide) 2 x3
 rw[P.setR hz]at h3
 have h4:=h3.store (P.atR hz _ _) (by decide) 3 x4
 rw[P.setR hz]at h4
 match cs,hcs with
 |[c1,c2,c3,c4],_=>exact h4
theorem div_next(n h:Nat):(n+1)/h=n/h+((n+1)/h-n/h):=by
 have:=Nat.div_le_div_right (c:=h) (show n≤n+1 by omega)
 omega
theorem KP.tell{σ:Type}{fN k:Nat}{vF:Value}{Q:σ→Prop}{Z:σ→List Asn}{O:σ→List Tup}{mu c:σ→Nat}(hP:P.Ok)(hk:P.t.k=k)(hS:SrcC P.X fN vF Q Z O mu c P.nz P.Ze P.Out P.Fin P.Bad P.bd P.ct k):
  TellC fN vF (P.J Q Z O mu c) (P.Jm Q Z O mu c) P.E (P.Er Z4):=by
 rintro n w ⟨s,hs,hmu,hw⟩
 have hd1:=Nat.div_le_self (O s).length P.t.h
 have hd2:=(hS.out s hs).1
 have hn:=hP.n
 refine(hS.next s _ (P.m+(O s).length/P.t.h) w hs hw (by omega)).mono ?_
 rintro e w' (⟨t,s',he,h1,h2,h3,h4⟩|⟨z',he,h1,hF,h2,h3,h4⟩|⟨er,z',he,h0,h1,h2,h3,h4⟩)
 ·exact .inl ⟨t,mu s',he,by omega,s',O s,h1,rfl,h3,h4⟩
 ·have hof:=(hS.out s hs).2
  rw[h1]at h4 hd2 hof
  exact .inr (.inl ⟨he,z',h2,h3,⟨hd2,by rw[hk];exact hof,hF⟩,h4⟩)
 ·exact .inr (.inr ⟨er,he,h0,z',_,O s,h2,h3,h1,hd2,.inl rfl,h4.mono (by omega) (by omega)⟩)
theorem KP.take{σ:Type}{fN k:Nat}{vF:Value}{Q:σ→Prop}{Z:σ→List Asn}{O:σ→List Tup}{mu c:σ→Nat}(hP:P.Ok)(hk:P.t.k=k)(hS:SrcC P.X fN vF Q Z O mu c P.nz P.Ze P.Out P.Fin P.Bad P.bd P.ct k):
  TakeC 54 (.pointer (some ⟨P.x,0,none⟩)) (P.J Q Z O mu c) (P.Jm Q Z O mu c) (P.Er Z4):=by
 rintro t n w ⟨s,l,hs,hmu,ho,hw⟩
 obtain⟨ho1,ho2⟩:=hS.out s hs
 have hcs:=hS.cost s hs
 rw[ho]at ho1 ho2
 have hll:l.length+1≤P.bd:=by simpa using ho1
 have hn:=hP.n
 have hd1:=Nat.div_le_self l.length P.t.h
 have hd2:=Nat.div_le_self (l.length+1) P.t.h
 refine(wd_put hw (P.atW (hS.len s) _ _) (KP.tlOk hP (by omega)) (by omega) (tu:=t) (by show fitsT P.t.k t=true;rw[hk];exact(ho2 t (by simp)).2) (by show l.length<P.t.bound;rw[hP.bd];omega)).mono ?_
 rintro e w' (⟨he,hw2⟩|⟨he,hno,hw2⟩)
 ·refine .inl ⟨he,s,hs,hmu,?_⟩
  rw[P.setW (hS.len s)]at hw2
  rw[ho]
  have e1:(l++[t]).length=l.length+1:=by simp
  rw[e1]
  have hdm:=div_next l.length P.t.h
  rw[show P.m+(l.length+1)/P.t.h+c s=P.m+l.length/P.t.h+c s+((l.length+1)/P.t.h-l.length/P.t.h)by omega]
  exact hw2
 ·refine .inr ⟨6,he,by omega,Z s,_,l++[t],hS.len s,hS.zok s hs,.inr ⟨rfl,hno⟩,by simpa using hll,.inr rfl,?_⟩
  rw[P.setW (hS.len s)]at hw2
  exact hw2.mono (by omega) (by omega)
theorem KP.close(hP:P.Ok)(h:P.E W):
  Calls Tryz.prog 55 #[.pointer (some ⟨P.x,0,none⟩)] W fun e w'=>(e=.returned (.tuple #[.agg #[.int .i64 (firstOf (P.tl P.Out):Nat),.int .i64 (blocksN P.t.h P.Out.length:Nat),.int .i64 (P.t.k:Nat),.int .i64 (P.Out.length:Nat)],.int .i64 0])∧P.C Z4 w')∨(e=.returned (.tuple #[.agg #[.int .i64 0,.int .i64 0,.int .i64 0,.int .i64 0],.int .i64 6])∧P.N Z4 6 w'):=by
 obtain⟨z,hz,hze,hfit,hw⟩:=h
 have hle:=hfit.1
 have hn:=hP.n
 have hd1:=Nat.div_le_self P.Out.length P.t.h
 refine(wd_close hw (P.atW hz _ _) (KP.tlOk hP hle) (by omega)).mono ?_
 rintro e w' (⟨he,hw2⟩|⟨he,hno,hw2⟩)
 ·refine .inl ⟨he,z,hz,hze,hfit,?_⟩
  rw[P.setW hz]at hw2
  have hb:P.Out.length/P.t.h≤blocksN P.t.h P.Out.length:=by unfold blocksN;split<;>omega
  rw[show P.m+blocksN P.t.h P.Out.length+P.ct=P.m+P.Out.length/P.t.h+P.ct+(blocksN P.t.h P.Out.length-P.Out.length/P.t.h)by omega]
  exact hw2
 ·refine .inr ⟨he,z,P.Out,hz,hze,.inr ⟨rfl,hno⟩,?_⟩
  rw[P.setW hz]at hw2
  exact hw2.mono (by omega) (by omega)
theorem KP.drop(u:FrameMode)(hP:P.Ok)(h:P.Er cs er W):
  CallsD Tryz.prog 53 #[.pointer (some ⟨P.x,0,none⟩)] u W fun e u' w'=>u'=u∧(e=.returned (.tuple #[])∧P.N cs er w'):=by
 obtain⟨z,a,l,hz,hze,hwhy,hl,rfl|rfl,hw⟩:=h
 ·refine(wd_drop hw (P.atW hz _ _) (KP.tlOk hP hl) u).mono ?_
  rintro e u' w' ⟨h1,h2,hw2⟩
  rw[P.setW hz]at hw2
  exact⟨h1,h2,z,l,hz,hze,hwhy,hw2⟩
 ·refine(wd_drop_shut (hw.at_ (P.atW hz _ _)) u).mono ?_
  rintro e u' w' ⟨h1,h2,rfl⟩
  exact⟨h1,h2,z,l,hz,hze,hwhy,hw⟩
theorem KP.N.drop(u:FrameMode)(h:P.N cs er W):
  CallsD Tryz.prog 53 #[.pointer (some ⟨P.x,0,none⟩)] u W fun e u' w'=>u'=u∧(e=.returned (.tuple #[])∧w'=W):=by
 obtain⟨z,l,hz,_,_,hw⟩:=h
 exact wd_drop_shut (hw.at_ (P.atW hz _ _)) u
theorem KP.C.drop(u:FrameMode)(h:P.C cs W):
  CallsD Tryz.prog 53 #[.pointer (some ⟨P.x,0,none⟩)] u W fun e u' w'=>u'=u∧(e=.returned (.tuple #[])∧w'=W):=by
 obtain⟨z,hz,_,_,hw⟩:=h
 exact wd_drop_shut (hw.at_ (P.atW hz _ _)) u
theorem KP.Er.store(h:P.Er cs er W)(hcs:cs.length=4)(x1 x2 x3 x4:Value):P.Er [x1,x2,x3,x4] er ((((W.setCell ⟨P.R,0,none⟩ x1).setCell ⟨P.R,1,none⟩ x2).setCell ⟨P.R,2,none⟩ x3).setCell ⟨P.R,3,none⟩ x4):=by
 obtain⟨z,a,l,hz,h1,h2,h3,h4,hw⟩:=h
 exact⟨z,a,l,hz,h1,h2,h3,h4,KP.store4 hz hw hcs x1 x2 x3 x4⟩
theorem KP.N.store(h:P.N cs er W)(hcs:cs.length=4)(x1 x2 x3 x4:Value):P.N [x1,x2,x3,x4] er ((((W.setCell ⟨P.R,0,none⟩ x1).setCell ⟨P.R,1,none⟩ x2).setCell ⟨P.R,2,none⟩ x3).setCell ⟨P.R,3,none⟩ x4):=by
 obtain⟨z,l,hz,h1,h2,hw⟩:=h
 exact⟨z,l,hz,h1,h2,KP.store4 hz hw hcs x1 x2 x3 x4⟩
theorem KP.C.store(h:P.C cs W)(hcs:cs.length=4)(x1 x2 x3 x4:Value):P.C [x1,x2,x3,x4] ((((W.setCell ⟨P.R,0,none⟩ x1).setCell ⟨P.R,1,none⟩ x2).setCell ⟨P.R,2,none⟩ x3).setCell ⟨P.R,3,none⟩ x4):=by
 obtain⟨z,hz,h1,h2,hw⟩:=h
 exact⟨z,hz,h1,h2,KP.store4 hz hw hcs x1 x2 x3 x4⟩
theorem KP.Er.row(h:P.Er cs er W):Row W P.R 31 cs:=by
 obtain⟨z,a,l,hz,h1,h2,h3,h4,hw⟩:=h
 exact hw.row (P.atR hz _ _)
theorem KP.N.row(h:P.N cs er W):Row W P.R 31 cs:=by
 obtain⟨z,l,hz,h1,h2,hw⟩:=h
 exact hw.row (P.atR hz _ _)
theorem KP.C.row(h:P.C cs W):Row W P.R 31 cs:=by
 obtain⟨z,hz,h1,h2,hw⟩:=h
 exact hw.row (P.atR hz _ _)
theorem KP.N.fin(h:P.N cs er W):∃z,z.length=P.nz∧P.Ze z∧P.Why er∧Wd P.X z (P.m+P.ct+P.bd+2) W:=by
 obtain⟨z,l,hz,h1,h2,hw⟩:=h
 refine⟨z,hz,h1,h2,?_⟩
 have h3:Wd P.X (z++[rowO P.R 31 cs,wsO P.X.p P.x (P.tl l)]++[]) (P.m+P.ct+P.bd+2) W:=by rw[List.append_nil];exact hw
 have h4:=Wd.cuts _ (fun q hq=>by simp at hq;rcases hq with rfl|rfl<;>exact⟨rfl,rfl⟩) h3
 rwa [List.append_nil]at h4
theorem KP.C.fin(h:P.C cs W):∃z,z.length=P.nz∧P.Ze z∧P.Fit∧Wd P.X (z++[fiO (firstOf (P.tl P.Out)) (blocksN P.t.h P.Out.length) P.t.k P.t.h P.Out P.X.sz]) (P.m+blocksN P.t.h P.Out.length+P.ct) W:=by
 obtain⟨z,hz,h1,hf,hw⟩:=h
 refine⟨z,hz,h1,hf,?_⟩
 have h2:=wf_fi hw (P.atW hz _ _)
 rw[P.setW hz]at h2
 have h3:Wd P.X (z++rowO P.R 31 cs::[fiO (firstOf (P.tl P.Out)) (blocksN P.t.h P.Out.length) P.t.k P.t.h P.Out P.X.sz]) (P.m+blocksN P.t.h P.Out.length+P.ct) W:=h2
 exact h3.cut rfl rfl
end
def LayRes(X:Cx)(nz:Nat)(Ze:List Asn→Prop)(Out:List Tup)(Fin:Prop)(Bad:Nat→Prop)(z0:List Asn)(m ct bd k:Nat)(e:Ending)(w':World):Prop:=
 (∃(F N:Nat) (z:List Asn),e=.returned (.tuple #[.agg #[.int .i64 F,.int .i64 N,.int .i64 k,.int .i64 (Out.length:Nat)],.int .i64 0])∧FOk F N k (holdsI X.sz k) Out X.sz∧Fin∧z.length=nz∧Ze z∧Wd X (z++[fiO F N k (holdsI X.sz k) Out X.sz]) (m+N+ct) w')∨
 (∃(er:Nat) (z:List Asn),e=.returned (.tuple #[.agg #[.int .i64 0,.int .i64 0,.int .i64 0,.int .i64 0],.int .i64 er])∧0<er∧((Bad er∨er=6∧¬X.cm)∨er=5∧∀q,¬Rm X z0 q (blocksN (holdsI X.sz k) bd))∧z.length=nz∧Ze z∧Wd X z (m+ct+bd+2) w')
section
variable {X : Cx} {m : Nat} {W : World}
theorem wd_jlay{σ:Type}{fN k nz bd ct nr rb cr:Nat}{vF:Value}{Q:σ→Prop}{Z:σ→List Asn}{O:σ→List Tup}{mu c:σ→Nat}{Ze:List Asn→Prop}{Out:List Tup}{Fin:Prop}{Bad:Nat→Prop}{s0:σ}
  (hS:SrcC X fN vF Q Z O mu c nz Ze Out Fin Bad bd ct k) (hs0:Q s0) (ho0:O s0=[]) (hc0:c s0=0) (h:Wd X (Z s0) m W) (hhol:0<holdsI X.sz k) (hbd:bd≤100000) (hroom:X.sz+sumN Asn.gw (Z s0)≤X.rm) (hn:X.N+m+ct+bd+2≤1000000)
  (hnr:0<nr∧nr≤10) (hrb:rb<W.heap.size) (hcl:W.cell? ⟨rb,3,none⟩=some (.int .i64 bd)) (hrd:ReadF (Z s0) W rb nr):
  Calls Tryz.prog 47 #[.pointer (some ⟨X.p.w,0,none⟩),.int .i64 k,.func (.func fN) #[vF] #[],.slice (some ⟨rb,0,none⟩) nr cr] W (LayRes X nz Ze Out Fin Bad (Z s0) m ct bd k):=by
 have hb0:Below W.heap.size W (W.alloc (.cells #[.int .i64 0,.int .i64 0,.int .i64 0,.int .i64 0] 31)):=(Below.refl _ _).alloc (Nat.le_refl _) _
 have hr0:Row (W.alloc (.cells #[.int .i64 0,.int .i64 0,.int .i64 0,.int .i64 0] 31)) W.heap.size 31 Z4:=heap_alloc_new _ _
 have h0:=h.new hb0 hr0 (Nat.le_refl _)
 have hgw:sumN Asn.gw (Z s0++[rowO W.heap.size 31 Z4])=sumN Asn.gw (Z s0):=sumN_snoc _ _ _
 have hrd1:ReadF (Z s0++[rowO W.heap.size 31 Z4]) (W.alloc (.cells #[.int .i64 0,.int .i64 0,.int .i64 0,.int .i64 0] 31)) rb nr:=fun i hi=>by
  obtain⟨f,n,k,c,⟨q0,q1,q2,q3⟩,h1,h2,h3⟩:=hrd i hi
  refine⟨f,n,k,c,⟨(hb0.cell hrb).trans q0,(hb0.cell hrb).trans q1,(hb0.cell hrb).trans q2,(hb0.cell hrb).trans q3⟩,h1,h2,h3.imp_right ?_⟩
  rintro⟨j,a,hj,ha⟩
  exact⟨j,a,snoc_old hj,ha⟩
 have HWR:=Lib.hid (wd_jwrite (cr:=cr) h0 hhol hbd (by rw[hgw];exact hroom) hnr (by have:=hb0.size;omega) ((hb0.cell hrb).trans hcl) hrd1)
 have hNO:∀(w':World),(∀q,¬Rm X (Z s0++[rowO W.heap.size 31 Z4]) q (blocksN (holdsI X.sz k) bd))→Wd X (Z s0++[rowO W.heap.size 31 Z4]) m w'→∀q,¬Rm X (Z s0) q (blocksN (holdsI X.sz k) bd):=fun w' hno _ q hq=>
  hno q (rm_bare hq fun a ha=>by simp at ha;subst ha;exact⟨rfl,rfl⟩)
 generalize hPO:LayRes X nz Ze Out Fin Bad (Z s0) m ct bd k=POST at*
 have HNF:Hid (∀W':World,(∀q,¬Rm X (Z s0++[rowO W.heap.size 31 Z4]) q (blocksN (holdsI X.sz k) bd))→Wd X (Z s0++[rowO W.heap.size 31 Z4]) m W'→∃P:World→Prop,P W'∧(∀w,P w→Row w W.heap.size 31 Z4)∧(∀w,P w→P ((((w.setCell ⟨W.heap.size,0,none⟩ (.int .i64 0)).setCell ⟨W.heap.size,1,none⟩ (.int .i64 0)).setCell ⟨W.heap.size,2,none⟩ (.int .i64 0)).setCell ⟨W.heap.size,3,none⟩ (.int .i64 0)))∧∀w,P w→POST (.returned (.tuple #[.agg #[.int .i64 0,.int .i64 0,.int .i64 0,.int .i64 0],.int .i64 5])) w):=fun W' hno hw=>by
  have ha:(Z s0++[rowO W.heap.size 31 Z4])[(Z s0).length]?=some (rowO W.heap.size 31 Z4):=by simp
  have hse:∀cs,(Z s0++[rowO W.heap.size 31 cs]).set (Z s0).length (rowO W.heap.size 31 Z4)=Z s0++[rowO W.heap.size 31 Z4]:=fun cs=>by simp
  refine⟨fun w=>Wd X (Z s0++[rowO W.heap.size 31 Z4]) m w,hw,fun w h1=>h1.row ha,fun w h1=>?_,fun w h1=>?_⟩
  ·have k1:=h1.store ha (by decide) 0 (.int .i64 0)
   have k2:=k1.store (set_at _ ha _) (by decide) 1 (.int .i64 0)
   have k3:=k2.store (set_at _ (set_at _ ha _) _) (by decide) 2 (.int .i64 0)
   have k4:=k3.store (set_at _ (set_at _ (set_at _ ha _) _) _) (by decide) 3 (.int .i64 0)
   simpa [Z4]using k4
  ·rw[←hPO]
   refine .inr ⟨5,Z s0,rfl,by omega,.inr ⟨rfl,hNO w hno h1⟩,hS.len s0,hS.zok s0 hs0,?_⟩
   exact(h1.drop rfl rfl).mono (by omega) (by omega)
 have HINIT:Hid (∀x t W1,t.k=k→t.h=holdsI X.sz k→t.bound=bd→t.l=[]→WtOk t X.sz→Wd X (Z s0++[rowO W.heap.size 31 Z4]++[wrO X.p x t X.sz]) m W1→
   ∃(P:KP) (F N:Nat),P.R=W.heap.size∧P.Ok∧P.x=x∧
    Calls Tryz.prog 68 #[.func (.func fN) #[vF] #[],.func (.func 54) #[.pointer (some ⟨x,0,none⟩)] #[]] W1 (fun e w'=>(e=.returned (.int .i64 0)∧P.E w')∨(∃er:Nat,e=.returned (.int .i64 er)∧0<er∧P.Er Z4 er w'))∧
    (∀w,P.E w→Calls Tryz.prog 55 #[.pointer (some ⟨x,0,none⟩)] w fun e w'=>(e=.returned (.tuple #[.agg #[.int .i64 F,.int .i64 N,.int .i64 k,.int .i64 (Out.length:Nat)],.int .i64 0])∧P.C Z4 w')∨(e=.returned (.tuple #[.agg #[.int .i64 0,.int .i64 0,.int .i64 0,.int .i64 0],.int .i64 6])∧P.N Z4 6 w'))∧
    (∀cs w,P.C cs w→POST (.returned (.tuple #[.agg #[.int .i64 F,.int .i64 N,.int .i64 k,.int .i64 (Out.length:Nat)],.int .i64 0])) w)∧
    (∀cs er w,0<er→P.N cs er w→POST (.returned (.tuple #[.agg #[.int .i64 0,.int .i64 0,.int .i64 0,.int .i64 0],.int .i64 er])) w)):=fun x t W1 e1 e2 e3 e4 e5 hw=>by
  have hP:KP.Ok ⟨X,nz,Ze,Out,Fin,Bad,bd,ct,m,x,t,W.heap.size⟩:=⟨e5,e3,e4,hn⟩
  refine⟨⟨X,nz,Ze,Out,Fin,Bad,bd,ct,m,x,t,W.heap.size⟩,firstOf (KP.tl ⟨X,nz,Ze,Out,Fin,Bad,bd,ct,m,x,t,W.heap.size⟩ Out),blocksN t.h Out.length,rfl,hP,rfl,?_,fun w h1=>?_,fun cs w h1=>?_,fun cs er w her h1=>?_⟩
  ·refine jpour_any (J:=KP.J ⟨X,nz,Ze,Out,Fin,Bad,bd,ct,m,x,t,W.heap.size⟩ Q Z O mu c) (n:=mu s0) hS.ent (fun args w=>by kernel_rfl) (KP.tell hP e1 hS) (KP.take hP e1 hS) ?_ ?_ ?_ ?_
   ·rintro tu n w w' ⟨s,l,q1,q2,q3,q4⟩ hb
    exact⟨s,l,q1,q2,q3,q4.below hb⟩
   ·rintro w w' ⟨z,q1,q2,q3,q4⟩ hb
    exact⟨z,q1,q2,q3,q4.below hb⟩
   ·rintro er w w' ⟨z,a,l,q1,q2,q3,q4,q5,q6⟩ hb
    exact⟨z,a,l,q1,q2,q3,q4,q5,q6.below hb⟩
   ·refine⟨s0,hs0,rfl,?_⟩
    have et:(KP.tl ⟨X,nz,Ze,Out,Fin,Bad,bd,ct,m,x,t,W.heap.size⟩ (O s0))=t:=by unfold KP.tl;rw[ho0,←e4]
    rw[et,ho0,hc0]
    show Wd X (Z s0++[rowO W.heap.size 31 Z4,wrO X.p x t X.sz]) (m+0/t.h+0) W1
    rw[Nat.zero_div]
    simpa using hw
  ·have:=KP.close hP h1
   have e1':((⟨X,nz,Ze,Out,Fin,Bad,bd,ct,m,x,t,W.heap.size⟩:KP).t.k)=k:=e1
   rw[e1']at this
   exact this
  ·obtain⟨z,q1,q2,q3,q4⟩:=h1.fin
   have q3':Out.length≤bd∧(∀u∈Out,TupOk u∧fitsT t.k u=true)∧Fin:=q3
   have q4':Wd X (z++[fiO (firstOf (KP.tl ⟨X,nz,Ze,Out,Fin,Bad,bd,ct,m,x,t,W.heap.size⟩ Out)) (blocksN t.h Out.length) t.k t.h Out X.sz]) (m+blocksN t.h Out.length+ct) w:=q4
   rw[←hPO]
   have hfo:firstOf (KP.tl ⟨X,nz,Ze,Out,Fin,Bad,bd,ct,m,x,t,W.heap.size⟩ Out)≤2000000:=by
    have:=e5.first
    unfold firstOf KP.tl
    split
    ·omega
    ·exact this
   generalize firstOf (KP.tl ⟨X,nz,Ze,Out,Fin,Bad,bd,ct,m,x,t,W.heap.size⟩ Out)=fo at*
   refine .inl ⟨fo,blocksN t.h Out.length,z,rfl,⟨by rw[←e1];exact e5.k,by have h9:=e5.h;rw[e2,e1]at h9;exact h9,rfl,by rw[e2],by omega,hfo,by rw[←e1];exact q3'.2.1⟩,q3'.2.2,q1,q2,?_⟩
   rw[e1]at q4'
   rw[e2]at q4'⊢
   exact q4'
  ·obtain⟨z,q1,q2,q3,q4⟩:=h1.fin
   rw[←hPO]
   exact .inr ⟨er,z,rfl,her,.inl q3,q1,q2,q4⟩
 clear hS hs0 ho0 hc0 h hhol hbd hroom hn hnr hrb hcl hrd hb0 hr0 h0 hgw hrd1 hNO
 replace hPO:=Lib.hid hPO
 go_enter_defers Tryz.func47,Tryz.ntmps47
 go_wp2_with fail
 refine HWR.out.mono ?_
 rintro e w1 (⟨rfl,hno,hw1⟩|⟨x,t,rfl,e1,e2,e3,e4,e5,hw1⟩)
 ·obtain⟨P,hp,hrow,hst,hfin⟩:=HNF.out w1 hno hw1
  have HP0:=Lib.hid hp
  have HRW:=Lib.hid hrow
  have HST:=Lib.hid hst
  have HFI:=Lib.hid hfin
  clear hp hrow hst hfin hno hw1 HNF HINIT HWR
  have HR0:=Lib.hid (HRW.out _ HP0.out)
  have z0:w1.cell? ⟨W.heap.size,0,none⟩=some (.int .i64 0):=HR0.out.cell 0
  have z1:w1.cell? ⟨W.heap.size,1,none⟩=some (.int .i64 0):=HR0.out.cell 1
  have z2:w1.cell? ⟨W.heap.size,2,none⟩=some (.int .i64 0):=HR0.out.cell 2
  have z3:w1.cell? ⟨W.heap.size,3,none⟩=some (.int .i64 0):=HR0.out.cell 3
  have f0:=HR0.out.free 0
  have f1:=HR0.out.free 1
  have f2:=HR0.out.free 2
  have f3:=HR0.out.free 3
  have HP9:=Lib.hid (HST.out _ HP0.out)
  have HR9:=Lib.hid (HRW.out _ HP9.out)
  go_wp2
  have r0:=HR9.out.cell 0
  have r1:=HR9.out.cell 1
  have r2:=HR9.out.cell 2
  have r3:=HR9.out.cell 3
  simp only[Z4,List.getElem?_cons_zero,List.getElem?_cons_succ]at r0 r1 r2 r3
  exact⟨.tuple #[.agg #[.int .i64 0,.int .i64 0,.int .i64 0,.int .i64 0],.int .i64 5],by simp[results,Tryz.results47,go_sem,r0,r1,r2,r3],HFI.out _ HP9.out⟩
 obtain⟨P,F,N,hR,hP,hx,hpour,hclose,hC,hN⟩:=HINIT.out x t w1 e1 e2 e3 e4 e5 hw1
 have HPOUR:=Lib.hid hpour
 have HCL:=Lib.hid hclose
 have HC:=Lib.hid hC
 have HN:=Lib.hid hN
 have HOK:=Lib.hid hP
 have HSTE:Hid (∀er w,P.Er Z4 er w→Row w W.heap.size 31 Z4∧P.Er Z4 er ((((w.setCell ⟨W.heap.size,0,none⟩ (.int .i64 0)).setCell ⟨W.heap.size,1,none⟩ (.int .i64 0)).setCell ⟨W.heap.size,2,none⟩ (.int .i64 0)).setCell ⟨W.heap.size,3,none⟩ (.int .i64 0))):=fun er w h1=>by
  have q1:=h1.row
  have q2:=h1.store rfl (.int .i64 0) (.int .i64 0) (.int .i64 0) (.int .i64 0)
  rw[hR]at q1 q2
  exact⟨q1,q2⟩
 have HSTN:Hid (∀er w,P.N Z4 er w→Row w W.heap.size 31 Z4∧P.N Z4 er ((((w.setCell ⟨W.heap.size,0,none⟩ (.int .i64 0)).setCell ⟨W.heap.size,1,none⟩ (.int .i64 0)).setCell ⟨W.heap.size,2,none⟩ (.int .i64 0)).setCell ⟨W.heap.size,3,none⟩ (.int .i64 0))):=fun er w h1=>by
  have q1:=h1.row
  have q2:=h1.store rfl (.int .i64 0) (.int .i64 0) (.int .i64 0) (.int .i64 0)
  rw[hR]at q1 q2
  exact⟨q1,q2⟩
 have HSTC:Hid (∀w x1 x2 x3 x4,P.C Z4 w→Row w W.heap.size 31 Z4∧P.C [x1,x2,x3,x4] ((((w.setCell ⟨W.heap.size,0,none⟩ x1).setCell ⟨W.heap.size,1,none⟩ x2).setCell ⟨W.heap.size,2,none⟩ x3).setCell ⟨W.heap.size,3,none⟩ x4)):=fun w x1 x2 x3 x4 h1=>by
  have q1:=h1.row
  have q2:=h1.store rfl x1 x2 x3 x4
  rw[hR]at q1 q2
  exact⟨q1,q2⟩
 have HRC:Hid (∀cs w,P.C cs w→Row w W.heap.size 31 cs):=fun cs w h1=>by have:=h1.row;rw[hR]at this;exact this
 have HRN:Hid (∀cs er w,P.N cs er w→Row w W.heap.size 31 cs):=fun cs er w h1=>by have:=h1.row;rw[hR]at this;exact this
 have HDE:Hid (∀u er w,P.Er Z4 er w→CallsD Tryz.prog 53 #[.pointer (some ⟨x,0,none⟩)] u w fun e u' w'=>u'=u∧(e=.returned (.tuple #[])∧P.N Z4 er w')):=fun u er w h1=>by have:=KP.drop u hP h1;rw[hx]at this;exact this
 have HDN:Hid (∀u er w,P.N Z4 er w→CallsD Tryz.prog 53 #[.pointer (some ⟨x,0,none⟩)] u w fun e u' w'=>u'=u∧(e=.returned (.tuple #[])∧w'=w)):=fun u er w h1=>by have:=KP.N.drop u h1;rw[hx]at this;exact this
 have HDC:Hid (∀u cs w,P.C cs w→CallsD Tryz.prog 53 #[.pointer (some ⟨x,0,none⟩)] u w fun e u' w'=>u'=u∧(e=.returned (.tuple #[])∧w'=w)):=fun u cs w h1=>by have:=KP.C.drop u h1;rw[hx]at this;exact this
 clear hpour hclose hC hN hP hx hR hw1 e1 e2 e3 e4 e5 HINIT HNF HWR
 generalize hol9:Out.length=ol at*
 go_wp2_with fail
 refine HPOUR.out.mono ?_
 rintro e w2 (⟨rfl,h2⟩|⟨er,rfl,hpos,h2⟩)
 ·have H2:=Lib.hid h2
  clear h2
  go_wp2_with fail
  refine(HCL.out _ H2.out).mono ?_
  rintro e w3 (⟨rfl,h3⟩|⟨rfl,h3⟩)
  ·obtain⟨hr3,h4⟩:=HSTC.out w3 (.int .i64 F) (.int .i64 N) (.int .i64 k) (.int .i64 ol) h3
   have HR3:=Lib.hid hr3
   have H4:=Lib.hid h4
   clear h3 hr3 h4
   have z0:w3.cell? ⟨W.heap.size,0,none⟩=some (.int .i64 0):=HR3.out.cell 0
   have z1:w3.cell? ⟨W.heap.size,1,none⟩=some (.int .i64 0):=HR3.out.cell 1
   have z2:w3.cell? ⟨W.heap.size,2,none⟩=some (.int .i64 0):=HR3.out.cell 2
   have z3:w3.cell? ⟨W.heap.size,3,none⟩=some (.int .i64 0):=HR3.out.cell 3
   have f0:=HR3.out.free 0
   have f1:=HR3.out.free 1
   have f2:=HR3.out.free 2
   have f3:=HR3.out.free 3
   go_wp2
   refine leaves_cons (f:=53) (args:=#[.pointer (some ⟨x,0,none⟩)]) (by simp) (by simp[go_sem]) ?_
   refine(HDC.out _ _ _ H4.out).mono ?_
   rintro e u' w'' ⟨rfl,rfl,rfl⟩
   have HR9:=Lib.hid (HRC.out _ _ H4.out)
   have r0:=HR9.out.cell 0
   have r1:=HR9.out.cell 1
   have r2:=HR9.out.cell 2
   have r3:=HR9.out.cell 3
   simp only[List.getElem?_cons_zero,List.getElem?_cons_succ]at r0 r1 r2 r3
   exact⟨.tuple #[.agg #[.int .i64 F,.int .i64 N,.int .i64 k,.int .i64 ol],.int .i64 0],by simp[results,Tryz.results47,go_sem,r0,r1,r2,r3],HC.out _ _ H4.out⟩
  ·obtain⟨hr3,h4⟩:=HSTN.out 6 w3 h3
   have HR3:=Lib.hid hr3
   have H4:=Lib.hid h4
   clear h3 hr3 h4
   have z0:w3.cell? ⟨W.heap.size,0,none⟩=some (.int .i64 0):=HR3.out.cell 0
   have z1:w3.cell? ⟨W.heap.size,1,none⟩=some (.int .i64 0):=HR3.out.cell 1
   have z2:w3.cell? ⟨W.heap.size,2,none⟩=some (.int .i64 0):=HR3.out.cell 2
   have z3:w3.cell? ⟨W.heap.size,3,none⟩=some (.int .i64 0):=HR3.out.cell 3
   have f0:=HR3.out.free 0
   have f1:=HR3.out.free 1
   have f2:=HR3.out.free 2
   have f3:=HR3.out.free 3
   go_wp2
   refine leaves_cons (f:=53) (args:=#[.pointer (some ⟨x,0,none⟩)]) (by simp) (by simp[go_sem]) ?_
   refine(HDN.out _ _ _ H4.out).mono ?_
   rintro e u' w'' ⟨rfl,rfl,rfl⟩
   have HR9:=Lib.hid (HRN.out _ _ _ H4.out)
   have r0:=HR9.out.cell 0
   have r1:=HR9.out.cell 1
   have r2:=HR9.out.cell 2
   have r3:=HR9.out.cell 3
   simp only[Z4,List.getElem?_cons_zero,List.getElem?_cons_succ]at r0 r1 r2 r3
   exact⟨.tuple #[.agg #[.int .i64 0,.int .i64 0,.int .i64 0,.int .i64 0],.int .i64 6],by simp[results,Tryz.results47,go_sem,r0,r1,r2,r3],HN.out _ 6 _ (by omega) H4.out⟩
 ·obtain⟨hr3,h4⟩:=HSTE.out er w2 h2
  have HR3:=Lib.hid hr3
  have H4:=Lib.hid h4
  have hne:¬(er:Int)=0:=by omega
  have HPO:=Lib.hid hpos
  clear h2 hr3 h4 hpos
  have z0:w2.cell? ⟨W.heap.size,0,none⟩=some (.int .i64 0):=HR3.out.cell 0
  have z1:w2.cell? ⟨W.heap.size,1,none⟩=some (.int .i64 0):=HR3.out.cell 1
  have z2:w2.cell? ⟨W.heap.size,2,none⟩=some (.int .i64 0):=HR3.out.cell 2
  have z3:w2.cell? ⟨W.heap.size,3,none⟩=some (.int .i64 0):=HR3.out.cell 3
  have f0:=HR3.out.free 0
  have f1:=HR3.out.free 1
  have f2:=HR3.out.free 2
  have f3:=HR3.out.free 3
  go_wp2
  refine leaves_cons (f:=53) (args:=#[.pointer (some ⟨x,0,none⟩)]) (by simp) (by simp[go_sem]) ?_
  refine(HDE.out _ _ _ H4.out).mono ?_
  rintro e u' w'' ⟨rfl,rfl,h5⟩
  have HR9:=Lib.hid (HRN.out _ _ _ h5)
  have r0:=HR9.out.cell 0
  have r1:=HR9.out.cell 1
  have r2:=HR9.out.cell 2
  have r3:=HR9.out.cell 3
  simp only[Z4,List.getElem?_cons_zero,List.getElem?_cons_succ]at r0 r1 r2 r3
  exact⟨.tuple #[.agg #[.int .i64 0,.int .i64 0,.int .i64 0,.int .i64 0],.int .i64 er],by simp[results,Tryz.results47,go_sem,r0,r1,r2,r3],HN.out _ er _ HPO.out h5⟩
end
def CP.Ze(P:CP)(z:List Asn):Prop:=∃i a,z=P.Z i a∧RdE P.X P.x P.r P.l a
theorem CP.src_{P:CP}{k:Nat}(hP:P.Ok)(hout:∀j t u,P.l[j]?=some t→P.chg j t=some u→TupOk u∧fitsT k u=true):
  SrcC P.X 58 (.agg P.vF.toArray) (fun i=>i≤P.l.length) (fun i=>P.Z i (P.rd i)) (outL P.chg P.l) (fun i=>P.l.length-i) (fun i=>blocksN P.r.h i) (P.np+1) P.Ze (outL P.chg P.l P.l.length) True (fun _=>False) P.l.length (blocksN P.r.h P.l.length) k where
 ent:=fun args w=>by kernel_rfl
 len:=fun s=>CP.zlen hP _
 out:=fun s hs=>⟨Nat.le_trans (outL_len _ _ s) hs,fun u hu=>by
  obtain⟨j,t,h1,h2⟩:=outL_mem hu
  exact hout j t u h1 h2⟩
 cost:=fun s hs=>blocks_mono hP.rd.ok.h.1 hs
 zok:=fun s _=>⟨s,_,rfl,s,.inl rfl⟩
 next:=fun s zz m W hs hw hn=>by
  refine(cnext_any hP hw hs hn).mono ?_
  rintro e w' (⟨t,i',he,h1,h2,h3,h4⟩|⟨he,h1,h2⟩|⟨i',he,h1,h2⟩)
  ·exact .inl ⟨t,i',he,h2,by omega,h3,h4⟩
  ·exact .inr (.inl ⟨_,he,h1,trivial,CP.zlen hP _,⟨_,_,rfl,_,.inl rfl⟩,h2⟩)
  ·exact .inr (.inr ⟨6,_,he,by omega,.inr ⟨rfl,h1⟩,CP.zlen hP _,⟨_,_,rfl,_,.inr rfl⟩,h2⟩)
def ChgRes(X:Cx)(pre post:List Asn)(H:Nat→List Asn)(Out:List Tup)(m nb bd k:Nat)(e:Ending)(w':World):Prop:=
 (∃F N i:Nat,e=.returned (.tuple #[.agg #[.int .i64 F,.int .i64 N,.int .i64 k,.int .i64 (Out.length:Nat)],.int .i64 0])∧FOk F N k (holdsI X.sz k) Out X.sz∧Wd X (pre++H i++post++[fiO F N k (holdsI X.sz k) Out X.sz]) (m+N+nb) w')∨
 (∃er i:Nat,e=.returned (.tuple #[.agg #[.int .i64 0,.int .i64 0,.int .i64 0,.int .i64 0],.int .i64 er])∧0<er∧(er=6∧¬X.cm∨er=5∧∀q,¬Rm X (pre++H 0++post) q (blocksN (holdsI X.sz k) bd))∧Wd X (pre++H i++post) (m+nb+bd+2) w')
def chZ(Y:List Asn)(fb R:Nat)(fc cs:List Value)(a:Asn)(tail:List Asn):List Asn:=Y++[rowO fb 31 fc,rowO R 31 cs,a]++tail
section
variable {X : Cx} {Y tail : List Asn} {fb R M : Nat} {fc cs cs' : List Value} {a b : Asn} {W : World}
theorem chZ_R:(chZ Y fb R fc cs a tail)[Y.length+1]?=some (rowO R 31 cs):=by simp[chZ]
theorem chZ_F:(chZ Y fb R fc cs a tail)[Y.length]?=some (rowO fb 31 fc):=by simp[chZ]
theorem chZ_rd:(chZ Y fb R fc cs a tail)[Y.length+2]?=some a:=by simp[chZ]
theorem chZ_setR:(chZ Y fb R fc cs a tail).set (Y.length+1) (rowO R 31 cs')=chZ Y fb R fc cs' a tail:=by simp[chZ]
theorem chZ_setrd:(chZ Y fb R fc cs a tail).set (Y.length+2) b=chZ Y fb R fc cs b tail:=by simp[chZ]
theorem chZ_store(hcs:cs.length=4)(h:Wd X (chZ Y fb R fc cs a tail) M W)(x1 x2 x3 x4:Value):Wd X (chZ Y fb R fc [x1,x2,x3,x4] a tail) M ((((W.setCell ⟨R,0,none⟩ x1).setCell ⟨R,1,none⟩ x2).setCell ⟨R,2,none⟩ x3).setCell ⟨R,3,none⟩ x4):=by
 have h1:=Wd.store h chZ_R (by decide) 0 x1
 rw[chZ_setR]at h1
 have h2:=h1.store chZ_R (by decide) 1 x2
 rw[chZ_setR]at h2
 have h3:=h2.store chZ_R (by decide) 2 x3
 rw[chZ_setR]at h3
 have h4:=h3.store chZ_R (by decide) 3 x4
 rw[chZ_setR]at h4
 match cs,hcs with
 |[c1,c2,c3,c4],_=>exact h4
theorem chZ_cut(ha:a.gr=none∧a.ex.2=0)(h:Wd X (chZ Y fb R fc cs a tail) M W):Wd X (Y++tail) M W:=
 Wd.cuts _ (fun q hq=>by simp at hq;rcases hq with rfl|rfl|rfl<;>first|exact⟨rfl,rfl⟩|exact ha) h
end
section
variable {X : Cx} {m : Nat} {W : World}
theorem wd_change{pre post:List Asn}{H:Nat→List Asn}{nh fH first nb k hh count width:Nat}{caps:Array Value}{l:List Tup}{chg:Nat→Tup→Option Tup}
  (hH:HowC X pre fH caps l chg H nh) (h:Wd X (pre++H 0++post) m W) (hf:FOk first nb k hh l X.sz) (hmem:fiO first nb k hh l X.sz∈pre++post) (hc:l.length=count) (hwd:0<holdsI X.sz width)
  (hout:∀j t u,l[j]?=some t→chg j t=some u→TupOk u∧fitsT width u=true) (hroom:2*X.sz+sumN Asn.gw (pre++H 0++post)≤X.rm) (hn:X.N+m+nb+count+2≤1000000):
  Calls Tryz.prog 32 #[.pointer (some ⟨X.p.w,0,none⟩),.agg #[.int .i64 first,.int .i64 nb,.int .i64 k,.int .i64 count],.int .i64 width,.func (.func fH) #[] caps] W (ChgRes X pre post H (outL chg l count) m nb count width):=by
 obtain⟨W2,hW2⟩:∃W2,W2=(W.alloc (.cells #[.int .i64 first,.int .i64 nb,.int .i64 k,.int .i64 count] 31)).alloc (.cells #[.int .i64 0,.int .i64 0,.int .i64 0,.int .i64 0] 31):=⟨_,rfl⟩
 have hb1:Below W.heap.size W (W.alloc (.cells #[.int .i64 first,.int .i64 nb,.int .i64 k,.int .i64 count] 31)):=(Below.refl _ _).alloc (Nat.le_refl _) _
 have h1:=h.new hb1 (heap_alloc_new _ _:Row _ _ 31 [.int .i64 first,.int .i64 nb,.int .i64 k,.int .i64 count]) (Nat.le_refl _)
 have hb2:=(Below.refl (W.alloc (.cells #[.int .i64 first,.int .i64 nb,.int .i64 k,.int .i64 count] 31)).heap.size (W.alloc (.cells #[.int .i64 first,.int .i64 nb,.int .i64 k,.int .i64 count] 31))).alloc (Nat.le_refl _) (.cells #[.int .i64 0,.int .i64 0,.int .i64 0,.int .i64 0] 31)
 have h2:=h1.new hb2 (heap_alloc_new _ _:Row _ _ 31 Z4) (Nat.le_refl _)
 rw[←hW2]at h2
 rw[show (W.alloc (.cells #[.int .i64 first,.int .i64 nb,.int .i64 k,.int .i64 count] 31)).heap.size=W.heap.size+1 by simp]at h2
 obtain⟨fb,hfb⟩:∃fb,fb=W.heap.size:=⟨_,rfl⟩
 rw[←hfb]at h2
 obtain⟨fc,hfc⟩:∃fc:List Value,fc=[.int .i64 first,.int .i64 nb,.int .i64 k,.int .i64 count]:=⟨_,rfl⟩
 rw[←hfc]at h2
 have h2:Wd X (pre++H 0++(post++[rowO fb 31 fc,rowO (fb+1) 31 Z4])) m W2:=by simpa [List.append_assoc]using h2
 have hgw:sumN Asn.gw (pre++H 0++(post++[rowO fb 31 fc,rowO (fb+1) 31 Z4]))=sumN Asn.gw (pre++H 0++post):=by
  rw[←List.append_assoc,sumN_app,gw_bare [rowO fb 31 fc,rowO (fb+1) 31 Z4] (fun q hq=>by simp at hq;rcases hq with rfl|rfl<;>exact⟨rfl,rfl⟩)];omega
 have HRD:Hid (∀w,Below W2.heap.size W2 w→Calls Tryz.prog 39 #[.pointer (some ⟨X.p.w,0,none⟩),.agg #[.int .i64 first,.int .i64 nb,.int .i64 k,.int .i64 count]] w fun e w'=>∃x b g,e=.returned (.tuple #[.pointer (some ⟨x,0,none⟩),.int .i64 0])∧RtOk ⟨k,hh,first,nb,count,0,b,g⟩ X.sz∧Wd X (pre++H 0++(post++[rowO fb 31 fc,rowO (fb+1) 31 Z4])++[rdO X.p x ⟨k,hh,first,nb,count,0,b,g⟩ X.sz l]) m w'):=fun w hb=>
  wd_read (h2.below hb) first nb k hh count l hf.hol hf.hh.1 (by rw[hf.bn,hc]) (by rw[←hc];exact hf.len) hf.fst (by rw[hgw];omega)
 have HF2:Hid (Row W2 fb 31 fc):=h2.row (i:=(pre++H 0++post).length) (by rw[←List.append_assoc,List.getElem?_append_right (Nat.le_refl _),Nat.sub_self];rfl)
 have HINIT:Hid (∀x b g w0,RtOk ⟨k,hh,first,nb,count,0,b,g⟩ X.sz→Wd X (pre++H 0++(post++[rowO fb 31 fc,rowO (fb+1) 31 Z4])++[rdO X.p x ⟨k,hh,first,nb,count,0,b,g⟩ X.sz l]) m w0→
   ∃(A:World→Prop) (C:Nat→Nat→List Value→World→Prop) (N:Nat→List Value→World→Prop),A w0∧(∀w w',A w→Below w.heap.size w w'→A w')∧(∀w,A w→Row w fb 31 fc)∧
    (∀w rb,A w→Row w rb 31 fc→Calls Tryz.prog 47 #[.pointer (some ⟨X.p.w,0,none⟩),.int .i64 width,.func (.func 58) #[.agg #[.func (.func 41) #[.pointer (some ⟨x,0,none⟩)] #[],.func (.func fH) #[] caps]] #[],.slice (some ⟨rb,0,none⟩) 1 1] w fun e w'=>
     (∃F M:Nat,e=.returned (.tuple #[.agg #[.int .i64 F,.int .i64 M,.int .i64 width,.int .i64 ((outL chg l count).length:Nat)],.int .i64 0])∧C F M Z4 w')∨
     (∃er:Nat,e=.returned (.tuple #[.agg #[.int .i64 0,.int .i64 0,.int .i64 0,.int .i64 0],.int .i64 er])∧0<er∧N er Z4 w'))∧
    (∀F M cs w x1 x2 x3 x4,cs.length=4→C F M cs w→C F M [x1,x2,x3,x4] ((((w.setCell ⟨fb+1,0,none⟩ x1).setCell ⟨fb+1,1,none⟩ x2).setCell ⟨fb+1,2,none⟩ x3).setCell ⟨fb+1,3,none⟩ x4))∧
    (∀er cs w x1 x2 x3 x4,cs.length=4→N er cs w→N er [x1,x2,x3,x4] ((((w.setCell ⟨fb+1,0,none⟩ x1).setCell ⟨fb+1,1,none⟩ x2).setCell ⟨fb+1,2,none⟩ x3).setCell ⟨fb+1,3,none⟩ x4))∧
    (∀F M cs w,C F M cs w→Row w (fb+1) 31 cs)∧(∀er cs w,N er cs w→Row w (fb+1) 31 cs)∧
    (∀F M cs w u,C F M cs w→CallsD Tryz.prog 40 #[.pointer (some ⟨x,0,none⟩)] u w fun e u' w'=>u'=u∧(e=.returned (.tuple #[])∧Row w' (fb+1) 31 cs∧ChgRes X pre post H (outL chg l count) m nb count width (.returned (.tuple #[.agg #[.int .i64 F,.int .i64 M,.int .i64 width,.int .i64 ((outL chg l count).length:Nat)],.int .i64 0])) w'))∧
    (∀er cs w u,0<er→N er cs w→CallsD Tryz.prog 40 #[.pointer (some ⟨x,0,none⟩)] u w fun e u' w'=>u'=u∧(e=.returned (.tuple #[])∧Row w' (fb+1) 31 cs∧ChgRes X pre post H (outL chg l count) m nb count width (.returned (.tuple #[.agg #[.int .i64 0,.int .i64 0,.int .i64 0,.int .i64 0],.int .i64 er])) w'))):=fun x b g w0 hrt hw0=>by
  obtain⟨P,hPd⟩:∃P:CP,P=⟨X,pre,H,nh,post++[rowO fb 31 fc,rowO (fb+1) 31 Z4],l,chg,⟨k,hh,first,nb,count,0,b,g⟩,x,fH,caps⟩:=⟨_,rfl⟩
  have hP:P.Ok:=by
   rw[hPd]
   refine⟨hH,⟨hrt,hc,fun u hu=>hf.fit u hu,hf.bn⟩,fun j a zz=>src_mem (nb:=nb) ?_ hf.bn⟩
   show fiO first nb k hh l X.sz∈pre++H j++(post++[rowO fb 31 fc,rowO (fb+1) 31 Z4])++[a]++zz
   rcases List.mem_append.1 hmem with hm|hm<;>simp[hm]
  have hS:=CP.src_ (k:=width) hP (by rw[hPd];exact hout)
  have hZ:∀(i:Nat) (a:Asn) (tail:List Asn),P.Z i a++tail=chZ (pre++H i++post) fb (fb+1) fc Z4 a tail:=fun i a tail=>by rw[hPd];simp[CP.Z,chZ,List.append_assoc]
  have hll:P.l.length=count:=by rw[hPd];exact hc
  have hol:outL P.chg P.l P.l.length=outL chg l count:=by rw[hPd,←hc]
  have hbn:blocksN P.r.h P.l.length=nb:=by rw[hPd];exact hf.bn.symm
  have hPX:P.X=X:=by rw[hPd]
  have hZe:∀z,P.Ze z→∃i a,z=P.Z i a∧RdE X x ⟨k,hh,first,nb,count,0,b,g⟩ l a:=fun z hz=>by rw[hPd]at hz⊢;exact hz
  have hvF:P.vF.toArray=#[.func (.func 41) #[.pointer (some ⟨x,0,none⟩)] #[],.func (.func fH) #[] caps]:=by rw[hPd];rfl
  have hZ0:P.Z 0 (P.rd 0)=pre++H 0++(post++[rowO fb 31 fc,rowO (fb+1) 31 Z4])++[rdO X.p x ⟨k,hh,first,nb,count,0,b,g⟩ X.sz l]:=by rw[hPd];rfl
  rw[hvF,hol,hbn,hll,hPX]at hS
  refine⟨fun w=>Wd X (P.Z 0 (P.rd 0)) m w,
   fun F M cs w=>FOk F M width (holdsI X.sz width) (outL chg l count) X.sz∧∃i a,RdE X x ⟨k,hh,first,nb,count,0,b,g⟩ l a∧Wd X (chZ (pre++H i++post) fb (fb+1) fc cs a [fiO F M width (holdsI X.sz width) (outL chg l count) X.sz]) (m+M+nb) w,
   fun er cs w=>(er=6∧¬X.cm∨er=5∧∀q,¬Rm X (pre++H 0++post) q (blocksN (holdsI X.sz width) count))∧∃i a,RdE X x ⟨k,hh,first,nb,count,0,b,g⟩ l a∧Wd X (chZ (pre++H i++post) fb (fb+1) fc cs a []) (m+nb+count+2) w,
   by rw[hZ0];exact hw0,fun w w' q hb=>q.below hb,fun w q=>?_,fun w rb q hr=>?_,?_,?_,?_,?_,?_,?_⟩
  ·have q2:Wd X (chZ (pre++H 0++post) fb (fb+1) fc Z4 (P.rd 0) []) m w:=by rw[←hZ,List.append_nil];exact q
   exact q2.row chZ_F
  ·have hcf:=hc
   have hrc:Row w rb 31 [.int .i64 first,.int .i64 nb,.int .i64 k,.int .i64 count]:=by rw[←hfc];exact hr
   refine(wd_jlay (nr:=1) (rb:=rb) (cr:=1) hS (Nat.zero_le _) rfl (blocks_zero _) q hwd (by rw[←hc];exact hf.len) ?_ (by omega) ⟨by omega,by omega⟩ hrc.lt (hrc.cell 3) ?_).mono ?_
   ·rw[hZ0,sumN_snoc,hgw]
    show X.sz+(sumN Asn.gw (pre++H 0++post)+X.sz)≤X.rm
    omega
   ·intro i hi
    obtain rfl:i=0:=by omega
    refine⟨first,nb,k,count,⟨hrc.cell 0,hrc.cell 1,hrc.cell 2,hrc.cell 3⟩,by have:=hf.fst;omega,?_,.inr ?_⟩
    ·have h7:=hf.len
     have h8:=blocks_le hh l.length
     have h9:=hf.bn
     omega
    ·have hm2:fiO first nb k hh l X.sz∈P.Z 0 (P.rd 0):=by
      rw[hZ0]
      rcases List.mem_append.1 hmem with hm|hm<;>simp[hm]
     obtain⟨j,hj⟩:=List.mem_iff_getElem?.1 hm2
     exact⟨j,_,hj,rfl⟩
   ·rintro e w' (⟨F,M,z,he,q1,-,q2,q3,q4⟩|⟨er,z,he,q0,q1,q2,q3,q4⟩)
    ·obtain⟨i,a,rfl,ha⟩:=hZe z q3
     rw[hZ]at q4
     exact .inl ⟨F,M,he,q1,i,a,ha,q4⟩
    ·obtain⟨i,a,rfl,ha⟩:=hZe z q3
     have q5:Wd X (chZ (pre++H i++post) fb (fb+1) fc Z4 a []) (m+nb+count+2) w':=by rw[←hZ,List.append_nil];exact q4
     refine .inr ⟨er,he,q0,?_,i,a,ha,q5⟩
     rcases q1 with(q1|q1)|⟨q1,q6⟩
     ·exact q1.elim
     ·exact .inl q1
     ·refine .inr ⟨q1,fun qq hq=>q6 qq ?_⟩
      rw[hZ0,←List.append_assoc,List.append_assoc _ [rowO fb 31 fc,rowO (fb+1) 31 Z4]]
      exact rm_none hq fun y hy=>by
       simp at hy
       rcases hy with rfl|rfl|rfl<;>rfl
  ·rintro F M cs w x1 x2 x3 x4 hcs ⟨q1,i,a,ha,q2⟩
   exact⟨q1,i,a,ha,chZ_store hcs q2 x1 x2 x3 x4⟩
  ·rintro er cs w x1 x2 x3 x4 hcs ⟨q1,i,a,ha,q2⟩
   exact⟨q1,i,a,ha,chZ_store hcs q2 x1 x2 x3 x4⟩
  ·rintro F M cs w ⟨q1,i,a,ha,q2⟩
   exact q2.row chZ_R
  ·rintro er cs w ⟨q1,i,a,ha,q2⟩
   exact q2.row chZ_R
  ·rintro F M cs w u ⟨q1,i,a,ha,q2⟩
   refine(rd_close u q2 chZ_rd ha).mono ?_
   rintro e u' w' ⟨k1,k2,j,k3⟩
   rw[chZ_setrd]at k3
   exact⟨k1,k2,k3.row chZ_R,.inl ⟨F,M,i,rfl,q1,chZ_cut ⟨rfl,rfl⟩ k3⟩⟩
  ·rintro er cs w u her ⟨q1,i,a,ha,q2⟩
   refine(rd_close u q2 chZ_rd ha).mono ?_
   rintro e u' w' ⟨k1,k2,j,k3⟩
   rw[chZ_setrd]at k3
   have k4:=chZ_cut ⟨rfl,rfl⟩ k3
   rw[List.append_nil]at k4
   exact⟨k1,k2,k3.row chZ_R,.inr ⟨er,i,rfl,her,q1,k4⟩⟩
 have HW2:=Lib.hid hW2
 have HFC:=Lib.hid hfc
 generalize hPO:ChgRes X pre post H (outL chg l count) m nb count width=POST at*
 generalize(outL chg l count).length=ol at*
 clear hH h hf hmem hc hwd hout hroom hn hb1 h1 hb2 h2 hgw hW2 hPO
 subst hfb
 go_enter_defers Tryz.func32,Tryz.ntmps32
 go_upto_region 1 with(fail)
 rw[←HW2.out]
 clear HW2
 generalize hs0:W.heap.size=s0 at*
 have hF2:=HF2.out
 rw[HFC.out]at hF2
 have a0:W2.cell? ⟨s0,0,none⟩=some (.int .i64 first):=hF2.cell 0
 have a1:W2.cell? ⟨s0,1,none⟩=some (.int .i64 nb):=hF2.cell 1
 have a2:W2.cell? ⟨s0,2,none⟩=some (.int .i64 k):=hF2.cell 2
 have a3:W2.cell? ⟨s0,3,none⟩=some (.int .i64 count):=hF2.cell 3
 have HR2:=Lib.hid (HRD.out W2 (Below.refl _ _))
 clear hF2
 go_wp2_with fail
 refine HR2.out.mono ?_
 rintro e w3 ⟨x,b,g,rfl,hrt,hw3⟩
 obtain⟨A,C,N,hA,hAb,hAr,hlay,hCs,hNs,hCr,hNr,hCc,hNc⟩:=HINIT.out x b g w3 hrt hw3
 have HA:=Lib.hid hA
 have HAB:=Lib.hid hAb
 have HAR:=Lib.hid hAr
 have HLAY:=Lib.hid hlay
 have HCS:=Lib.hid hCs
 have HNS:=Lib.hid hNs
 have HCR:=Lib.hid hCr
 have HNR:=Lib.hid hNr
 have HCC:=Lib.hid hCc
 have HNC:=Lib.hid hNc
 clear hA hAb hAr hlay hCs hNs hCr hNr hCc hNc hrt hw3 HINIT HRD HR2 HF2 a0 a1 a2 a3
 have HA4:=Lib.hid (HAB.out w3 _ HA.out ((Below.refl w3.heap.size w3).alloc (Nat.le_refl _) (.cells #[.func (.func 41) #[.pointer (some ⟨x,0,none⟩)] #[],.func (.func fH) #[] caps] 118)))
 have hch:Row (w3.alloc (.cells #[.func (.func 41) #[.pointer (some ⟨x,0,none⟩)] #[],.func (.func fH) #[] caps] 118)) w3.heap.size 118 [.func (.func 41) #[.pointer (some ⟨x,0,none⟩)] #[],.func (.func fH) #[] caps]:=heap_alloc_new _ _
 have HCH:=Lib.hid hch
 clear hch
 go_upto_region 6 with(fail)
 generalize w3.alloc (.cells #[.func (.func 41) #[.pointer (some ⟨x,0,none⟩)] #[],.func (.func fH) #[] caps] 118)=w4 at*
 generalize w3.heap.size=cb at*
 have hr4:=HAR.out _ HA4.out
 rw[HFC.out]at hr4
 have a0:w4.cell? ⟨s0,0,none⟩=some (.int .i64 first):=hr4.cell 0
 have a1:w4.cell? ⟨s0,1,none⟩=some (.int .i64 nb):=hr4.cell 1
 have a2:w4.cell? ⟨s0,2,none⟩=some (.int .i64 k):=hr4.cell 2
 have a3:w4.cell? ⟨s0,3,none⟩=some (.int .i64 count):=hr4.cell 3
 have b0:w4.cell? ⟨cb,0,none⟩=some (.func (.func 41) #[.pointer (some ⟨x,0,none⟩)] #[]):=HCH.out.cell 0
 have b1:w4.cell? ⟨cb,1,none⟩=some (.func (.func fH) #[] caps):=HCH.out.cell 1
 have HA5:=Lib.hid (HAB.out w4 _ HA4.out ((Below.refl w4.heap.size w4).alloc (Nat.le_refl _) (.cells #[.int .i64 first,.int .i64 nb,.int .i64 k,.int .i64 count] 31)))
 have hr5:Row (w4.alloc (.cells #[.int .i64 first,.int .i64 nb,.int .i64 k,.int .i64 count] 31)) w4.heap.size 31 fc:=by rw[HFC.out];exact heap_alloc_new _ _
 have HL:=Lib.hid (HLAY.out _ _ HA5.out hr5)
 clear hr4 hr5
 go_wp2_with fail
 refine HL.out.mono ?_
 rintro e w6 (⟨F,M,rfl,hc⟩|⟨er,rfl,hpos,hn⟩)
 ·have HR6:=Lib.hid (HCR.out _ _ _ _ hc)
  have H9:=Lib.hid (HCS.out F M Z4 w6 (.int .i64 F) (.int .i64 M) (.int .i64 width) (.int .i64 ol) rfl hc)
  clear hc a0 a1 a2 a3 b0 b1 HL HA5
  have z0:w6.cell? ⟨s0+1,0,none⟩=some (.int .i64 0):=HR6.out.cell 0
  have z1:w6.cell? ⟨s0+1,1,none⟩=some (.int .i64 0):=HR6.out.cell 1
  have z2:w6.cell? ⟨s0+1,2,none⟩=some (.int .i64 0):=HR6.out.cell 2
  have z3:w6.cell? ⟨s0+1,3,none⟩=some (.int .i64 0):=HR6.out.cell 3
  have f0:=HR6.out.free 0
  have f1:=HR6.out.free 1
  have f2:=HR6.out.free 2
  have f3:=HR6.out.free 3
  go_wp2
  refine leaves_cons (f:=40) (args:=#[.pointer (some ⟨x,0,none⟩)]) (by simp) (by simp[go_sem]) ?_
  refine(HCC.out _ _ _ _ _ H9.out).mono ?_
  rintro e u' w'' ⟨rfl,rfl,hr9,hpost⟩
  have r0:=hr9.cell 0
  have r1:=hr9.cell 1
  have r2:=hr9.cell 2
  have r3:=hr9.cell 3
  simp only[List.getElem?_cons_zero,List.getElem?_cons_succ]at r0 r1 r2 r3
  exact⟨.tuple #[.agg #[.int .i64 F,.int .i64 M,.int .i64 width,.int .i64 ol],.int .i64 0],by simp[results,Tryz.results32,go_sem,r0,r1,r2,r3],hpost⟩
 ·have HPO:=Lib.hid hpos
  have HR6:=Lib.hid (HNR.out _ _ _ hn)
  have H9:=Lib.hid (HNS.out er Z4 w6 (.int .i64 0) (.int .i64 0) (.int .i64 0) (.int .i64 0) rfl hn)
  clear hn hpos a0 a1 a2 a3 b0 b1 HL HA5
  have z0:w6.cell? ⟨s0+1,0,none⟩=some (.int .i64 0):=HR6.out.cell 0
  have z1:w6.cell? ⟨s0+1,1,none⟩=some (.int .i64 0):=HR6.out.cell 1
  have z2:w6.cell? ⟨s0+1,2,none⟩=some (.int .i64 0):=HR6.out.cell 2
  have z3:w6.cell? ⟨s0+1,3,none⟩=some (.int .i64 0):=HR6.out.cell 3
  have f0:=HR6.out.free 0
  have f1:=HR6.out.free 1
  have f2:=HR6.out.free 2
  have f3:=HR6.out.free 3
  go_wp2
  refine leaves_cons (f:=40) (args:=#[.pointer (some ⟨x,0,none⟩)]) (by simp) (by simp[go_sem]) ?_
  refine(HNC.out _ _ _ _ HPO.out H9.out).mono ?_
  rintro e u' w'' ⟨rfl,rfl,hr9,hpost⟩
  have r0:=hr9.cell 0
  have r1:=hr9.cell 1
  have r2:=hr9.cell 2
  have r3:=hr9.cell 3
  simp only[List.getElem?_cons_zero,List.getElem?_cons_succ]at r0 r1 r2 r3
  exact⟨.tuple #[.agg #[.int .i64 0,.int .i64 0,.int .i64 0,.int .i64 0],.int .i64 er],by simp[results,Tryz.results32,go_sem,r0,r1,r2,r3],hpost⟩
end
def colT(t:Tup)(i:Nat):Int:=t.cols.getD i 0
def kol(k:Int):Nat:=k.natAbs-1
theorem kol_pos{k:Int}(h:0<k):((kol k:Nat):Int)=k-1:=by unfold kol;omega
theorem kol_min{k:Int}(h:k<0):((kol k:Nat):Int)=-k-1:=by unfold kol;omega
def Fm(o:Tup):Prop:=∀i,i<5→(-5≤colT o i∧colT o i≤5)∧∀k,k<i→colT o i≠0→colT o k≠0∧kol (colT o k)≠kol (colT o i)
instance fmDec (o : Tup) : Decidable (Fm o) := by unfold Fm; exact inferInstance
def cutO(ks:List Int)(t:Tup):List Int:=(ks.takeWhile fun k=>k≠0).map fun k=>colT t (kol k)
def tupL(l:List Int):Tup:=⟨l.getD 0 0,l.getD 1 0,l.getD 2 0,l.getD 3 0,l.getD 4 0⟩
def cutT(o t:Tup):Tup:=if Fm o then tupL (cutO o.cols t)else tup0
theorem cutO_len(ks:List Int)(t:Tup):(cutO ks t).length=(ks.takeWhile fun k=>k≠0).length:=by unfold cutO;rw[List.length_map]
def setT(t:Tup)(k:Nat)(v:Int):Tup:=match k with
 |0=>{t with a:=v}
 |1=>{t with b:=v}
 |2=>{t with c:=v}
 |3=>{t with d:=v}
 |4=>{t with e:=v}
 | _=>t
theorem lt5{k:Nat}(h:k<5):k=0∨k=1∨k=2∨k=3∨k=4:=by omega
theorem setT_cells{t:Tup}{k:Nat}(hk:k<5)(v:Int):(tupC t).set k (.int .i64 v)=tupC (setT t k v):=by
 rcases lt5 hk with rfl|rfl|rfl|rfl|rfl<;>rfl
theorem tupC_at(t:Tup){k:Nat}(hk:k<5):(tupC t)[k]?=some (.int .i64 (colT t k)):=by
 rcases lt5 hk with rfl|rfl|rfl|rfl|rfl<;>rfl
theorem setT_ok{t:Tup}{k:Nat}(hk:k<5){v:Int}(h:TupOk t)(hv:I64 v):TupOk (setT t k v):=by
 have h0:=h t.a (by simp[Tup.cols])
 have h1:=h t.b (by simp[Tup.cols])
 have h2:=h t.c (by simp[Tup.cols])
 have h3:=h t.d (by simp[Tup.cols])
 have h4:=h t.e (by simp[Tup.cols])
 intro x hx
 rcases lt5 hk with rfl|rfl|rfl|rfl|rfl<;>
  (simp[setT,Tup.cols]at hx;rcases hx with rfl|rfl|rfl|rfl|rfl<;>assumption)
theorem setT_fits{t:Tup}{k:Nat}(hk:k<5){v:Int}(h:fitsT k t=true):fitsT (k+1) (setT t k v)=true:=by
 unfold fitsT at*
 rcases lt5 hk with rfl|rfl|rfl|rfl|rfl<;>simp[setT,Tup.cols]at h⊢<;>simp[h]
section
variable {X : Cx} {m : Nat} {W : World}
def numH(gF gI:Nat)(fc:List Value)(fr:Int)(j:Nat):List Asn:=[rowO gF 31 fc,rowO gI 2 [.int .i64 (fr+j)]]
def numC(k:Nat)(fr:Int)(j:Nat)(t:Tup):Option Tup:=some (setT t k (fr+j))
theorem ix_len(Y zz:List Asn)(n:Nat)(h:Y.length=n):n+zz.length=(Y++zz).length:=by subst h;simp
theorem ix_at1{Y zz:List Asn}{c d:Asn}{n:Nat}(h:Y.length=n):(Y++(zz++[c,d]))[n+zz.length]?=some c:=by
 rw[ix_len Y zz n h,←List.append_assoc];simp
theorem ix_at2{Y zz:List Asn}{c d:Asn}{n:Nat}(h:Y.length=n):(Y++(zz++[c,d]))[n+zz.length+1]?=some d:=by
 rw[ix_len Y zz n h,←List.append_assoc,List.getElem?_append_right (by omega),show (Y++zz).length+1-(Y++zz).length=1 by omega];rfl
theorem ix_set1{Y zz:List Asn}{c d x:Asn}{n:Nat}(h:Y.length=n):(Y++(zz++[c,d])).set (n+zz.length) x=Y++(zz++[x,d]):=by
 rw[ix_len Y zz n h,←List.append_assoc,List.set_append_right _ _ (Nat.le_refl _),Nat.sub_self,List.append_assoc];rfl
theorem ix_set2{Y zz:List Asn}{c d x:Asn}{n:Nat}(h:Y.length=n):(Y++(zz++[c,d])).set (n+zz.length+1) x=Y++(zz++[c,x]):=by
 rw[ix_len Y zz n h,←List.append_assoc,List.set_append_right _ _ (by omega),show (Y++zz).length+1-(Y++zz).length=1 by omega,List.append_assoc];rfl
theorem snd_store{Y Z:List Asn}{a b:Asn}:(Y++[a,b]++Z)[Y.length+1]?=some b:=by simp
theorem fst_store{Y Z:List Asn}{a b:Asn}:(Y++[a,b]++Z)[Y.length]?=some a:=by simp
theorem num_how{pre:List Asn}{gF gI k:Nat}{f0 f1 f3:Value}{fr:Int}{l:List Tup}(hk:k<5)(hfr:-9223372036854775808≤fr∧fr+l.length≤9223372036854775807):
  HowC X pre 50 #[.pointer (some ⟨gI,0,none⟩),.pointer (some ⟨gF,0,none⟩)] l (numC k fr) (numH gF gI [f0,f1,.int .i64 k,f3] fr) 2 where
 ent:=fun args w=>by kernel_rfl
 len:=fun _=>rfl
 how:=fun j zz m W t ht h=>by
  have hj:j<l.length:=by
   rcases Nat.lt_or_ge j l.length with hl|hl
   ·exact hl
   ·rw[List.getElem?_eq_none hl]at ht;cases ht
  obtain⟨v,hv⟩:∃v:Int,v=fr+j:=⟨_,rfl⟩
  obtain⟨W2,hW2⟩:∃W2,W2=(W.alloc (.cells #[.int .i64 t.a,.int .i64 t.b,.int .i64 t.c,.int .i64 t.d,.int .i64 t.e] 56)).alloc (.cells #[.int .i64 0,.int .i64 0,.int .i64 0,.int .i64 0,.int .i64 0] 56):=⟨_,rfl⟩
  have h1:=h.new ((Below.refl W.heap.size W).alloc (Nat.le_refl _) (.cells #[.int .i64 t.a,.int .i64 t.b,.int .i64 t.c,.int .i64 t.d,.int .i64 t.e] 56)) (heap_alloc_new _ _:Row _ _ 56 (tupC t)) (Nat.le_refl _)
  have h2:=h1.new ((Below.refl _ _).alloc (Nat.le_refl _) (.cells #[.int .i64 0,.int .i64 0,.int .i64 0,.int .i64 0,.int .i64 0] 56)) (heap_alloc_new _ _:Row _ _ 56 Z5) (Nat.le_refl _)
  rw[←hW2,show (W.alloc (.cells #[.int .i64 t.a,.int .i64 t.b,.int .i64 t.c,.int .i64 t.d,.int .i64 t.e] 56)).heap.size=W.heap.size+1 by simp]at h2
  obtain⟨s0,hs0⟩:∃s0,s0=W.heap.size:=⟨_,rfl⟩
  rw[←hs0]at h2
  obtain⟨A,hA⟩:∃A:Int→List Value→List Value→World→Prop,∀v c1 c2 w,A v c1 c2 w↔Wd X (pre++[rowO gF 31 [f0,f1,.int .i64 k,f3],rowO gI 2 [.int .i64 v]]++(zz++[rowO s0 56 c1,rowO (s0+1) 56 c2])) m w:=⟨_,fun _ _ _ _=>Iff.rfl⟩
  have hpl:∀v,(pre++[rowO gF 31 [f0,f1,.int .i64 k,f3],rowO gI 2 [.int .i64 v]]).length=pre.length+2:=fun v=>by simp
  have HA0:Hid (A v (tupC t) Z5 W2):=(hA _ _ _ _).2 (by rw[hv];simpa [List.append_assoc,numH]using h2)
  have HROW:Hid (∀v c1 c2 w,A v c1 c2 w→Row w gF 31 [f0,f1,.int .i64 k,f3]∧Row w gI 2 [.int .i64 v]∧Row w s0 56 c1∧Row w (s0+1) 56 c2):=fun v c1 c2 w q=>by
   have q:=(hA _ _ _ _).1 q
   exact⟨q.row fst_store,q.row snd_store,q.row (ix_at1 (hpl _)),q.row (ix_at2 (hpl _))⟩
  have HS1:Hid (∀v c1 c2 w j x,A v c1 c2 w→A v (c1.set j x) c2 (w.setCell ⟨s0,j,none⟩ x)):=fun v c1 c2 w j x q=>by
   have q1:=((hA _ _ _ _).1 q).store (ix_at1 (hpl _)) (by decide) j x
   rw[ix_set1 (hpl _)]at q1
   exact(hA _ _ _ _).2 q1
  have HS2:Hid (∀v c1 c2 w j x,A v c1 c2 w→A v c1 (c2.set j x) (w.setCell ⟨s0+1,j,none⟩ x)):=fun v c1 c2 w j x q=>by
   have q1:=((hA _ _ _ _).1 q).store (ix_at2 (hpl _)) (by decide) j x
   rw[ix_set2 (hpl _)]at q1
   exact(hA _ _ _ _).2 q1
  have HS3:Hid (∀v c1 c2 w x,A v c1 c2 w→A x c1 c2 (w.setCell ⟨gI,0,none⟩ (.int .i64 x))):=fun v c1 c2 w x q=>by
   have q1:=((hA _ _ _ _).1 q).store snd_store (by decide) 0 (.int .i64 x)
   refine(hA _ _ _ _).2 ?_
   have e:∀(Q:List Asn) (a b c:Asn),(pre++[a,b]++Q).set (pre.length+1) c=pre++[a,c]++Q:=fun Q a b c=>by simp
   rw[e]at q1
   exact q1
  have HEND:Hid (∀c1 c2 w,A (v+1) c1 c2 w→Wd X (pre++numH gF gI [f0,f1,.int .i64 k,f3] fr (j+1)++zz) m w):=fun c1 c2 w q=>by
   have q:=(hA _ _ _ _).1 q
   rw[←List.append_assoc]at q
   have q2:=Wd.cuts (b:=[]) [rowO s0 56 c1,rowO (s0+1) 56 c2] (fun y hy=>by simp at hy;rcases hy with rfl|rfl<;>exact⟨rfl,rfl⟩) (by rw[List.append_nil];exact q)
   rw[List.append_nil]at q2
   have e:fr+((j+1:Nat):Int)=v+1:=by rw[hv];omega
   unfold numH
   rw[e]
   exact q2
  have hc:numC k fr j t=some (setT t k v):=by unfold numC;rw[hv]
  have hvb:-9223372036854775808≤v∧v+1≤9223372036854775807:=by omega
  obtain⟨v1,hv1⟩:∃v1:Int,v1=v+1:=⟨_,rfl⟩
  have hv2:v+1=v1:=hv1.symm
  rw[hv2]at HEND
  have hvb1:-9223372036854775808≤v1∧v1≤9223372036854775807:=by omega
  have HC:=Lib.hid hc
  have HW2:=Lib.hid hW2
  have HT:=Lib.hid (setT_cells (t:=t) hk v)
  have HU:Hid (∃u,u=setT t k v):=⟨_,rfl⟩
  obtain⟨u,hu⟩:=HU.out
  have HT2:Hid (∀v,(tupC t).set k (.int .i64 v)=tupC (setT t k v)):=fun v=>setT_cells hk v
  have HT3:=Lib.hid (tupC_at t hk)
  rw[←hu]at HC HT
  have hki:(k:Int)<5:=by omega
  have hk0:(0:Int)≤(k:Int):=by omega
  clear h1 h2 h hpl hA hW2 hc hv hv1 hu HU hfr ht hj
  replace hs0:=Lib.hid hs0
  unfold tupV
  go_enter Tryz.func50,Tryz.ntmps50
  go_upto_region 1 with(fail)
  rw[←HW2.out,←hs0.out]
  clear HW2
  obtain⟨p1,p2,p3,p4⟩:=HROW.out _ _ _ _ HA0.out
  have q2:W2.cell? ⟨gF,2,none⟩=some (.int .i64 k):=p1.cell 2
  have q1:W2.cell? ⟨gI,0,none⟩=some (.int .i64 v):=p2.cell 0
  have qk:W2.cell? ⟨s0,k,none⟩=some (.int .i64 (colT t k)):=(p3.cell k).trans HT3.out
  have fk:=p3.free k
  have ha1:=HS1.out v (tupC t) Z5 W2 k (.int .i64 v) HA0.out
  rw[HT.out]at ha1
  have HA1:=Lib.hid ha1
  clear ha1 p1 p2 p3 p4
  go_upto_region 2 with(fail)
  generalize W2.setCell ⟨s0,k,none⟩ (.int .i64 v)=W3 at*
  clear q1 q2 qk fk
  obtain⟨p1,p2,p3,p4⟩:=HROW.out _ _ _ _ HA1.out
  have q1:W3.cell? ⟨gI,0,none⟩=some (.int .i64 v):=p2.cell 0
  have f1:=p2.free 0
  have HA2:=Lib.hid (HS3.out v _ _ W3 v1 HA1.out)
  clear p1 p2 p3 p4
  go_upto_region 3 with(fail)
  generalize W3.setCell ⟨gI,0,none⟩ (.int .i64 v1)=W4 at*
  clear q1 f1
  obtain⟨p1,p2,p3,p4⟩:=HROW.out _ _ _ _ HA2.out
  have d0:W4.cell? ⟨s0,0,none⟩=some (.int .i64 u.a):=p3.cell 0
  have d1:W4.cell? ⟨s0,1,none⟩=some (.int .i64 u.b):=p3.cell 1
  have d2:W4.cell? ⟨s0,2,none⟩=some (.int .i64 u.c):=p3.cell 2
  have d3:W4.cell? ⟨s0,3,none⟩=some (.int .i64 u.d):=p3.cell 3
  have d4:W4.cell? ⟨s0,4,none⟩=some (.int .i64 u.e):=p3.cell 4
  have z0:W4.cell? ⟨s0+1,0,none⟩=some (.int .i64 0):=p4.cell 0
  have z1:W4.cell? ⟨s0+1,1,none⟩=some (.int .i64 0):=p4.cell 1
  have z2:W4.cell? ⟨s0+1,2,none⟩=some (.int .i64 0):=p4.cell 2
  have z3:W4.cell? ⟨s0+1,3,none⟩=some (.int .i64 0):=p4.cell 3
  have z4:W4.cell? ⟨s0+1,4,none⟩=some (.int .i64 0):=p4.cell 4
  have f0:=p4.free 0
  have f1:=p4.free 1
  have f2:=p4.free 2
  have f3:=p4.free 3
  have f4:=p4.free 4
  have HA3:=Lib.hid (HS2.out _ _ _ _ 4 (.int .i64 u.e) (HS2.out _ _ _ _ 3 (.int .i64 u.d) (HS2.out _ _ _ _ 2 (.int .i64 u.c) (HS2.out _ _ _ _ 1 (.int .i64 u.b) (HS2.out v1 _ _ W4 0 (.int .i64 u.a) HA2.out)))))
  have HR9:=Lib.hid (HROW.out _ _ _ _ HA3.out).2.2.2
  clear p1 p2 p3 p4
  go_wp2
  have r0:=HR9.out.cell 0
  have r1:=HR9.out.cell 1
  have r2:=HR9.out.cell 2
  have r3:=HR9.out.cell 3
  have r4:=HR9.out.cell 4
  simp only[Z5,List.set_cons_zero,List.set_cons_succ,List.getElem?_cons_zero,List.getElem?_cons_succ]at r0 r1 r2 r3 r4
  refine bodyPost_ret (v:=.tuple #[tupV u,.bool true]) (by unfold tupV;simp[results,Tryz.results50,go_sem,r0,r1,r2,r3,r4]) rfl ?_
  exact⟨u,true,rfl,HC.out,HEND.out _ _ _ HA3.out⟩
def OpRes(X:Cx)(os:List Asn)(Out:List Tup)(m nb bd k:Nat)(e:Ending)(w':World):Prop:=
 (∃F N:Nat,e=.returned (.tuple #[.agg #[.int .i64 F,.int .i64 N,.int .i64 k,.int .i64 (Out.length:Nat)],.int .i64 0])∧FOk F N k (holdsI X.sz k) Out X.sz∧Wd X (os++[fiO F N k (holdsI X.sz k) Out X.sz]) (m+N+nb) w')∨
 (∃er:Nat,e=.returned (.tuple #[.agg #[.int .i64 0,.int .i64 0,.int .i64 0,.int .i64 0],.int .i64 er])∧0<er∧(er=6∧¬X.cm∨er=5∧∀q,¬Rm X os q (blocksN (holdsI X.sz k) bd))∧Wd X os (m+nb+bd+2) w')
theorem op_states{os:List Asn}{H:Nat→List Asn}{R nb bd k:Nat}{Out:List Tup}{e:Ending}{w':World}(hH:∀i,Bare (H i))(h:ChgRes X os [rowO R 31 Z4] H Out m nb bd k e w'):
  ∃C:List Value→World→Prop,∃F N K L er:Nat,e=.returned (.tuple #[.agg #[.int .i64 F,.int .i64 N,.int .i64 K,.int .i64 L],.int .i64 er])∧C Z4 w'∧(∀cs w,C cs w→Row w R 31 cs)∧
   (∀cs w x1 x2 x3 x4,cs.length=4→C cs w→C [x1,x2,x3,x4] ((((w.setCell ⟨R,0,none⟩ x1).setCell ⟨R,1,none⟩ x2).setCell ⟨R,2,none⟩ x3).setCell ⟨R,3,none⟩ x4))∧
   (∀cs w,C cs w→OpRes X os Out m nb bd k (.returned (.tuple #[.agg #[.int .i64 F,.int .i64 N,.int .i64 K,.int .i64 L],.int .i64 er])) w):=by
 rcases h with⟨F,N,i,he,hfo,hw⟩|⟨er,i,he,hpos,hwhy,hw⟩
 ·refine⟨fun cs w=>Wd X (os++H i++[rowO R 31 cs]++[fiO F N k (holdsI X.sz k) Out X.sz]) (m+N+nb) w,F,N,k,Out.length,0,he,hw,fun cs w q=>opn_row q,fun cs w x1 x2 x3 x4 hcs q=>opn_store hcs q x1 x2 x3 x4,fun cs w q=>.inl ⟨F,N,rfl,hfo,opn_cut (hH i) q⟩⟩
 ·refine⟨fun cs w=>Wd X (os++H i++[rowO R 31 cs]++[]) (m+nb+bd+2) w,0,0,0,0,er,he,by show Wd X (os++H i++[rowO R 31 Z4]++[]) (m+nb+bd+2) w';rw[List.append_nil];exact hw,fun cs w q=>opn_row q,fun cs w x1 x2 x3 x4 hcs q=>opn_store hcs q x1 x2 x3 x4,fun cs w q=>.inr ⟨er,rfl,hpos,?_,by have q2:=opn_cut (hH i) q;rwa [List.append_nil]at q2⟩⟩
  refine hwhy.imp_right fun⟨q1,q2⟩=>⟨q1,fun z hz=>q2 z ?_⟩
  rw[List.append_assoc]
  refine rm_none hz fun a ha=>?_
  rcases List.mem_append.1 ha with ha|ha
  ·exact(hH 0 a ha).2
  ·simp at ha;subst ha;rfl
theorem wd_number{os:List Asn}{first nb k hh count:Nat}{l:List Tup}{fr:Int}(h:Wd X os m W)(hf:FOk first nb k hh l X.sz)(hmem:fiO first nb k hh l X.sz∈os)(hc:l.length=count)(hk:k<5)(hfr:-9223372036854775808≤fr∧fr+count≤9223372036854775807)
  (hroom:2*X.sz+sumN Asn.gw os≤X.rm) (hn:X.N+m+nb+count+2≤1000000) (hwd:0<holdsI X.sz ((k+1:Nat):Int)):
  Calls Tryz.prog 21 #[.pointer (some ⟨X.p.w,0,none⟩),.agg #[.int .i64 first,.int .i64 nb,.int .i64 k,.int .i64 count],.int .i64 fr] W (OpRes X os (outL (numC k fr) l count) m nb count (k+1)):=by
 obtain⟨W3,hW3⟩:∃W3,W3=((W.alloc (.cells #[.int .i64 first,.int .i64 nb,.int .i64 k,.int .i64 count] 31)).alloc (.cells #[.int .i64 fr] 2)).alloc (.cells #[.int .i64 0,.int .i64 0,.int .i64 0,.int .i64 0] 31):=⟨_,rfl⟩
 have h1:=h.new ((Below.refl W.heap.size W).alloc (Nat.le_refl _) (.cells #[.int .i64 first,.int .i64 nb,.int .i64 k,.int .i64 count] 31)) (heap_alloc_new _ _:Row _ _ 31 [.int .i64 first,.int .i64 nb,.int .i64 k,.int .i64 count]) (Nat.le_refl _)
 have h2:=h1.new ((Below.refl _ _).alloc (Nat.le_refl _) (.cells #[.int .i64 fr] 2)) (heap_alloc_new _ _:Row _ _ 2 [.int .i64 fr]) (Nat.le_refl _)
 have h3:=h2.new ((Below.refl _ _).alloc (Nat.le_refl _) (.cells #[.int .i64 0,.int .i64 0,.int .i64 0,.int .i64 0] 31)) (heap_alloc_new _ _:Row _ _ 31 Z4) (Nat.le_refl _)
 rw[←hW3]at h3
 have hsz:∀(w:World) (o:Obj),(w.alloc o).heap.size=w.heap.size+1:=fun w o=>by simp
 simp only[hsz]at h3
 obtain⟨s0,hs0⟩:∃s0,s0=W.heap.size:=⟨_,rfl⟩
 rw[←hs0]at h3
 have h3:Wd X (os++numH s0 (s0+1) [.int .i64 first,.int .i64 nb,.int .i64 k,.int .i64 count] fr 0++[rowO (s0+1+1) 31 Z4]) m W3:=by
  unfold numH;simpa [List.append_assoc]using h3
 have hrow:Row W3 s0 31 [.int .i64 first,.int .i64 nb,.int .i64 k,.int .i64 count]:=h3.row (i:=os.length) (by unfold numH;simp)
 have hcg:=wd_change (width:=k+1) (num_how (X:=X) (pre:=os) (gF:=s0) (gI:=s0+1) (k:=k) (f0:=.int .i64 first) (f1:=.int .i64 nb) (f3:=.int .i64 count) (fr:=fr) (l:=l) hk (by rw[hc];exact hfr)) h3 hf (by simp[hmem]) hc hwd (fun j t u ht hu=>by
   have hj:j<l.length:=by
    rcases Nat.lt_or_ge j l.length with hl|hl
    ·exact hl
    ·rw[List.getElem?_eq_none hl]at ht;cases ht
   have hft:=hf.fit t (List.mem_of_getElem? ht)
   unfold numC at hu
   injection hu with hu
   subst hu
   refine⟨setT_ok hk hft.1 ?_,setT_fits hk hft.2⟩
   rw[hc]at hj
   exact I64.of (by omega) (by omega)) (by rw[sumN_app,sumN_app,gw_bare (numH s0 (s0+1) [.int .i64 first,.int .i64 nb,.int .i64 k,.int .i64 count] fr 0) (fun q hq=>by simp[numH]at hq;rcases hq with rfl|rfl<;>exact⟨rfl,rfl⟩),gw_bare [rowO (s0+1+1) 31 Z4] (fun q hq=>by simp at hq;subst hq;exact⟨rfl,rfl⟩)];omega) hn
 have HCG:=Lib.hid hcg
 have HST:Hid (∀e w',ChgRes X os [rowO (s0+1+1) 31 Z4] (numH s0 (s0+1) [.int .i64 first,.int .i64 nb,.int .i64 k,.int .i64 count] fr) (outL (numC k fr) l count) m nb count (k+1) e w'→ _):=fun e w' q=>op_states (fun i q hq=>by simp[numH]at hq;rcases hq with rfl|rfl<;>exact⟨rfl,rfl⟩) q
 obtain⟨k1,hk1⟩:∃k1,k1=k+1:=⟨_,rfl⟩
 have hk2:(k:Int)+1=(k1:Int):=by omega
 have hk5:¬(k:Int)=5:=by omega
 have hkb:k1≤5:=by omega
 rw[←hk1]at HCG HST⊢
 generalize ChgRes X os [rowO (s0+1+1) 31 Z4] (numH s0 (s0+1) [.int .i64 first,.int .i64 nb,.int .i64 k,.int .i64 count] fr) (outL (numC k fr) l count) m nb count k1=CRES at*
 generalize OpRes X os (outL (numC k fr) l count) m nb count k1=POST at*
 have HW3:=Lib.hid hW3
 have a0:W3.cell? ⟨s0,0,none⟩=some (.int .i64 first):=hrow.cell 0
 have a1:W3.cell? ⟨s0,1,none⟩=some (.int .i64 nb):=hrow.cell 1
 have a2:W3.cell? ⟨s0,2,none⟩=some (.int .i64 k):=hrow.cell 2
 have a3:W3.cell? ⟨s0,3,none⟩=some (.int .i64 count):=hrow.cell 3
 replace hs0:=Lib.hid hs0
 clear h1 h2 h3 h hW3 hsz hrow hcg hf hmem hc hk hfr hroom hn hwd hk1
 go_enter Tryz.func21,Tryz.ntmps21
 go_upto_region 1 with(fail)
 rw[←HW3.out,←hs0.out]
 clear HW3
 go_wp2_with fail
 refine HCG.out.mono ?_
 rintro e w6 h6
 obtain⟨C,F,N,K,L,er,rfl,hC,hCr,hCs,hCe⟩:=HST.out e w6 h6
 have HR6:=Lib.hid (hCr _ _ hC)
 have H9:=Lib.hid (hCs Z4 w6 (.int .i64 F) (.int .i64 N) (.int .i64 K) (.int .i64 L) rfl hC)
 have HR9:=Lib.hid (hCr _ _ H9.out)
 have HE:=Lib.hid (hCe _ _ H9.out)
 clear h6 hC hCr hCs hCe a0 a1 a2 a3
 have z0:w6.cell? ⟨s0+1+1,0,none⟩=some (.int .i64 0):=HR6.out.cell 0
 have z1:w6.cell? ⟨s0+1+1,1,none⟩=some (.int .i64 0):=HR6.out.cell 1
 have z2:w6.cell? ⟨s0+1+1,2,none⟩=some (.int .i64 0):=HR6.out.cell 2
 have z3:w6.cell? ⟨s0+1+1,3,none⟩=some (.int .i64 0):=HR6.out.cell 3
 have f0:=HR6.out.free 0
 have f1:=HR6.out.free 1
 have f2:=HR6.out.free 2
 have f3:=HR6.out.free 3
 go_wp2
 have r0:=HR9.out.cell 0
 have r1:=HR9.out.cell 1
 have r2:=HR9.out.cell 2
 have r3:=HR9.out.cell 3
 simp only[List.getElem?_cons_zero,List.getElem?_cons_succ]at r0 r1 r2 r3
 refine bodyPost_ret (v:=.tuple #[.agg #[.int .i64 F,.int .i64 N,.int .i64 K,.int .i64 L],.int .i64 er]) (by simp[results,Tryz.results21,go_sem,r0,r1,r2,r3]) rfl ?_
 exact HE.out
end
section
variable {X : Cx} {os : List Asn} {m : Nat} {W : World}
theorem rm_law(hS:X.S0=newSp 0 5000)(hl:os.length≤11)(hos:∀a∈os,a.ex.2≤200){n:Nat}(hn:n≤200):∃z,Rm X os z n:=
 rm_many (b:=5000) hS (q:=200) (c:=os.length) (os.map Asn.ex) (fun e he=>by
  obtain⟨a,ha,rfl⟩:=List.mem_map.1 he
  exact hos a ha) (by simp) (fun a ha=>.inr (List.mem_map_of_mem ha)) (by
  have:os.length*(n+200)≤11*400:=Nat.mul_le_mul hl (by omega)
  omega)
theorem op_good{Out:List Tup}{nb bd k:Nat}{e:Ending}{w':World}(h:OpRes X os Out m nb bd k e w')(hcm:X.cm)(hz:∃z,Rm X os z (blocksN (holdsI X.sz k) bd)):
  ∃F N:Nat,e=.returned (.tuple #[.agg #[.int .i64 F,.int .i64 N,.int .i64 k,.int .i64 (Out.length:Nat)],.int .i64 0])∧FOk F N k (holdsI X.sz k) Out X.sz∧Wd X (os++[fiO F N k (holdsI X.sz k) Out X.sz]) (m+N+nb) w':=by
 rcases h with h|⟨er,_,_,⟨_,hno⟩|⟨_,hno⟩,_⟩
 ·exact h
 ·exact absurd hcm hno
 ·obtain⟨z,hz⟩:=hz
  exact absurd hz (hno z)
end
def l57:List Tup:=[⟨5,0,0,0,0⟩,⟨7,0,0,0,0⟩]
theorem readsT_57{W:World}{b:Nat}(h:Row W b 56 (flatV l57)):ReadsT W W.heap.size (some ⟨b,0,none⟩) 2 l57:=by
 have ho:W.ownsRow 0 56 5 (.slice (some ⟨b,0,none⟩) 2 2) 2 (flatV l57):=⟨rfl,.inr ⟨b,2,(flatV l57).toArray,rfl,Nat.zero_le _,h,Nat.le_refl _,by decide,rfl,rfl⟩⟩
 obtain⟨A,c,he,hr,_⟩:=ownT_reads ho (fun u hu=>small_ok (by
  simp[l57]at hu
  rcases hu with rfl|rfl<;>simp[Tup.cols]))
 injection he with e1 e2 e3
 subst e1
 exact hr
theorem awake13_any(w:World):Calls Tryz.prog 8 #[] w fun e w'=>e=.returned (.bool true)∧Below w.heap.size w w':=by
 have HW:=Lib.hid (work13_any w)
 go_enter Tryz.func8,Tryz.ntmps8
 go_wp2_with fail
 refine HW.out.mono ?_
 rintro e w1 ⟨p,G,rfl,hs,hG,hb⟩
 have h1:Wd (cxL w p 60 12 5000 True 0) [] 0 w1:=cx_start hs hG hb (by omega) (by omega)
 have h2:=h1.new ((Below.refl w1.heap.size w1).alloc (Nat.le_refl _) (.cells #[.int .i64 5,.int .i64 0,.int .i64 0,.int .i64 0,.int .i64 0,.int .i64 7,.int .i64 0,.int .i64 0,.int .i64 0,.int .i64 0] 56)) (heap_alloc_new _ _:Row _ _ 56 (flatV l57)) (Nat.le_refl _)
 have h2:Wd (cxL w p 60 12 5000 True 0) [rowO w1.heap.size 56 (flatV l57)] 0 (w1.alloc (.cells #[.int .i64 5,.int .i64 0,.int .i64 0,.int .i64 0,.int .i64 0,.int .i64 7,.int .i64 0,.int .i64 0,.int .i64 0,.int .i64 0] 56)):=h2
 have HL:Hid (Calls Tryz.prog 26 #[.pointer (some ⟨p.w,0,none⟩),.int .i64 1,.slice (some ⟨w1.heap.size,0,none⟩) 2 2] (w1.alloc (.cells #[.int .i64 5,.int .i64 0,.int .i64 0,.int .i64 0,.int .i64 0,.int .i64 7,.int .i64 0,.int .i64 0,.int .i64 0,.int .i64 0] 56)) fun e w'=>
   ∃F N:Nat,e=.returned (.tuple #[.agg #[.int .i64 F,.int .i64 N,.int .i64 1,.int .i64 2],.int .i64 0])∧FOk F N 1 (holdsI 12 ((1:Nat):Int)) l57 12∧Wd (cxL w p 60 12 5000 True 0) [rowO w1.heap.size 56 (flatV l57),fiO F N 1 (holdsI 12 ((1:Nat):Int)) l57 12] (0+N) w'):=
  wd_lay (k:=1) (n:=2) (c:=2) h2 trivial (by omega) (fun z m' W' q=>readsT_57 (q.row (i:=0) (by simp))) (by decide) (by decide) (by show 12+0≤60;omega) (by show 0+0+2+1≤1000000;omega) (rm_law rfl (by simp) (fun a ha=>by simp at ha;subst ha;exact Nat.zero_le _) (Nat.le_trans (blocks_le _ _) (by decide)))
 clear hs hG hb HW h1 h2
 go_wp2_with fail
 refine HL.out.mono ?_
 rintro e w2 ⟨F,N,rfl,hfo,hw2⟩
 have hN:N≤2:=by rw[hfo.bn];exact blocks_le _ _
 have HNU:Hid (∀W,Below w2.heap.size w2 W→Calls Tryz.prog 21 #[.pointer (some ⟨p.w,0,none⟩),.agg #[.int .i64 F,.int .i64 N,.int .i64 1,.int .i64 2],.int .i64 3] W fun e w'=>
   ∃F' N':Nat,e=.returned (.tuple #[.agg #[.int .i64 F',.int .i64 N',.int .i64 2,.int .i64 2],.int .i64 0])∧Below w.heap.size w w'):=fun W hb=>by
  refine(wd_number (X:=cxL w p 60 12 5000 True 0) (fr:=3) (hw2.below hb) hfo (List.mem_cons_of_mem _ List.mem_cons_self) (count:=2) rfl (by omega) (by omega) (by show 2*12+0≤60;omega) (by show 0+(0+N)+N+2+2≤1000000;omega) (hol_pos (by omega) (by show 8≤12∧12≤256;omega)).1).mono ?_
  rintro e w' h9
  obtain⟨F',N',he,_,hw⟩:=op_good h9 trivial (rm_law rfl (by simp) (fun a ha=>by
   simp at ha
   rcases ha with rfl|rfl
   ·exact Nat.zero_le _
   ·exact(show N≤200 by omega)) (Nat.le_trans (blocks_le _ _) (by omega)))
  exact⟨F',N',he,hw.bel⟩
 have HB2:=Lib.hid hw2.size
 clear HL hfo hw2 hN
 go_wp2_with fail
 refine(HNU.out _ ((Below.refl _ _).alloc (Nat.le_refl _) _)).mono ?_
 rintro e w4 ⟨F',N',rfl,hb4⟩
 have HB4:=Lib.hid (hb4.alloc hb4.size (.cells #[.int .i64 F',.int .i64 N',.int .i64 2,.int .i64 2] 31))
 clear hb4 HNU
 go_wp2
 go_ret
 exact⟨rfl,HB4.out⟩
section
variable {X : Cx} {os : List Asn} {m : Nat} {W : World}
def sumTo(bs:Nat→Nat):Nat→Nat
 |0=>0
 |i+1=>sumTo bs i+bs i
theorem clean13_any{rb n c:Nat}{bs:Nat→Nat}(h:Wd X os m W)(hS:X.S0=newSp 0 5000)(hgw:sumN Asn.gw os=0)(hxw:sumN Asn.xw os=sumTo bs n)(hn:n≤10)(hbs:∀i,i<n→bs i≤5000∧W.cell? ⟨rb,i*4+1,none⟩=some (.int .i64 (bs i:Nat)))(hrb:0<n→rb<W.heap.size):
  Calls Tryz.prog 13 #[.pointer (some ⟨X.p.w,0,none⟩),.slice (some ⟨rb,0,none⟩) n c] W fun e w'=>e=.returned (.bool true)∧Wd X os m w':=by
 have hle:sumTo bs n≤5000:=by
  obtain⟨G,D,A,S,hF⟩:=id h
  have h1:=hF.sum
  rw[hS,newsp_sum]at h1
  omega
 have hmono:∀i j,i≤j→sumTo bs i≤sumTo bs j:=fun i j hij=>by
  induction j with
  |zero=>rw[show i=0 by omega];exact Nat.le_refl _
  |succ j ih=>
   rcases Nat.lt_or_ge i (j+1)with h1|h1
   ·exact Nat.le_trans (ih (by omega)) (Nat.le_add_right _ _)
   ·rw[show i=j+1 by omega];exact Nat.le_refl _
 have HAR:=Lib.hid (wd_arn h)
 have HUS:Hid (Calls Tryz.prog 36 #[.pointer (some ⟨X.p.a,0,none⟩)] W fun e w'=>e=.returned (.int .i64 0)∧w'=W):=by
  have:=wd_used h;rw[hgw]at this;exact this
 have HSP:=Lib.hid (wd_spc h)
 have HFR:Hid (Calls Tryz.prog 38 #[.pointer (some ⟨X.p.s,0,none⟩)] W fun e w'=>e=.returned (.int .i64 ((5000-sumTo bs n:Nat):Int))∧Wd X os m w'):=by
  have:=wd_nfree h;rw[hS,newsp_sum,hxw]at this;exact this
 have HBS:=Lib.hid hbs
 have HRB:=Lib.hid hrb
 have HMO:=Lib.hid hmono
 have HLE:=Lib.hid hle
 clear h hS hgw hxw hbs hmono hle hrb
 go_enter Tryz.func13,Tryz.ntmps13
 go_wp2_with fail
 go_loopw [5,6] (fun sv iv wr=>∃i:Nat,i≤n∧iv=.int .i64 (i:Int)∧sv=.int .i64 (sumTo bs i:Nat)∧wr=W) (fun _ iv _=>n-(intOf iv).toNat)
 case atStart=>exact⟨0,Nat.zero_le _,rfl,rfl,rfl⟩
 case round=>
  obtain⟨i,hi,rfl,rfl,rfl⟩:=hrel
  by_cases hlt:i<n
  ·have g0:decide ((i:Int)<(n:Int))=true:=by simpa using hlt
   have hi0:(0:Int)≤(i:Int):=by omega
   have hi1:(i:Int)<(n:Int):=by omega
   obtain⟨hb,q1⟩:=HBS.out i hlt
   have hrb:=HRB.out (by omega)
   have hs1:=HMO.out i n hi
   have hs2:=HLE.out
   obtain⟨s,hs⟩:∃s,s=sumTo bs i:=⟨_,rfl⟩
   obtain⟨b,hb'⟩:∃b,b=bs i:=⟨_,rfl⟩
   obtain⟨t,ht⟩:∃t,t=s+b:=⟨_,rfl⟩
   have HT:Hid (sumTo bs (i+1)=t):=by unfold Hid;rw[ht,hs,hb'];rfl
   rw[←hb']at q1 hb
   rw[←hs]at hs1⊢
   have s1:(s:Int)+(b:Int)=(t:Int):=by omega
   have htb:t≤20000:=by omega
   clear hs hb' ht hs1 hs2
   go_wp2
   go_roundw
   case rel=>exact⟨i+1,by omega,by go_num,by rw[HT.out],by trivial⟩
   case measure=>simp[intOf];omega
  ·obtain rfl:i=n:=by omega
   have g0:decide ((i:Int)<(i:Int))=false:=by simp
   have hs2:=HLE.out
   obtain⟨s,hs⟩:∃s,s=sumTo bs i:=⟨_,rfl⟩
   obtain⟨d,hd⟩:∃d,d=5000-s:=⟨_,rfl⟩
   rw[←hs]at HFR hs2⊢
   rw[←hd]at HFR
   have s1:(5000:Int)-(s:Int)=(d:Int):=by omega
   clear hs hd
   go_wp2_with fail
   refine HAR.out.mono ?_
   rintro e w1 ⟨rfl,rfl⟩
   go_wp2_with fail
   refine HUS.out.mono ?_
   rintro e w1 ⟨rfl,rfl⟩
   go_wp2_with fail
   refine HSP.out.mono ?_
   rintro e w1 ⟨rfl,rfl⟩
   go_wp2_with fail
   refine HFR.out.mono ?_
   rintro e w1 ⟨rfl,h1⟩
   have H1:=Lib.hid h1
   clear h1
   go_wp2
   go_ret
   exact⟨rfl,H1.out⟩
end
theorem hascol_any(f0 f1 f2 f3 c:Int)(w:World):Calls Tryz.prog 44 #[.agg #[.int .i64 f0,.int .i64 f1,.int .i64 f2,.int .i64 f3],.int .i64 c] w fun e w'=>e=.returned (.bool (decide (0≤c∧c<f2)))∧Below w.heap.size w w':=by
 by_cases h0:0≤c
 ·have g0:decide (c≥0)=true:=by simpa using h0
  have HE:Hid (decide (0≤c∧c<f2)=decide (c<f2)):=by unfold Hid;simp[h0]
  clear h0
  go_enter Tryz.func44,Tryz.ntmps44
  go_wp2
  go_ret
  rw[HE.out]
  exact⟨rfl,(Below.refl _ _).alloc (Nat.le_refl _) _⟩
 ·have g0:decide (c≥0)=false:=by simp;omega
  have HE:Hid (decide (0≤c∧c<f2)=false):=by unfold Hid;simp;omega
  clear h0
  go_enter Tryz.func44,Tryz.ntmps44
  go_wp2
  go_ret
  rw[HE.out]
  exact⟨rfl,(Below.refl _ _).alloc (Nat.le_refl _) _⟩
def RL(W:World)(v:Value)(out:List Tup)(w:World):Prop:=Below W.heap.size W w∧w.ownsRow W.heap.size 56 5 v out.length (flatV out)
section
variable {W w w' : World} {v v' : Value} {out : List Tup} {t : Tup}
theorem RL.nil(W:World):RL W (.slice none 0 0) [] W:=⟨Below.refl _ _,ownT_nil _ _ _⟩
theorem RL.below(h:RL W v out w)(hb:Below w.heap.size w w'):RL W v out w':=⟨h.1.trans (hb.mono h.1.size),ownT_keep h.2 hb⟩
theorem RL.far{F:Nat→Prop}(h:RL W v out w)(hf:Far F w w')(hF:∀k,F k→W.heap.size≤k∧v.ownBlock≠some k):RL W v out w':=
 ⟨h.1.trans (hf.below h.1.size fun k hk=>(hF k hk).1),ownsRow_same h.2 fun k hk=>hf.block k (h.2.lt k hk).2 fun hk2=>(hF k hk2).2 hk⟩
theorem RL.push(h:RL W v out w)(hf:Far (fun k=>v.ownBlock=some k) w w')(ho:w'.ownsRow W.heap.size 56 5 v' (out.length+1) (flatV (out++[t]))):RL W v' (out++[t]) w':=
 ⟨h.1.trans (hf.below h.1.size fun k hk=>(h.2.lt k hk).1),by rw[List.length_append];exact ho⟩
end
section
variable {H : Type} {enc : TypeId × Value → H} {P : Program} {w : World} {base b0 : Nat} {spare : Nat → Bool} {held : Bool} {r : Reach}
theorem nat_u8{z:Int}(h:(Lit.int .u8 z).wf=true):∃u:Nat,z=(u:Int)∧u≤255:=by
 have:=bounds_u8 h
 exact⟨z.toNat,by omega,by omega⟩
end
section
variable {H : Type} {enc : TypeId × Value → H} {P : Program} {w : World} {base b0 : Nat} {spare : Nat → Bool} {held : Bool} {r : Reach}
theorem open_table{g t e i u:TypeId}{g0 g1:Field}{v:Value}{d:DataW H}{p:List MemPlace}(hg:P.underlying g=some (.struct #[g0,g1]))(hgo:oneCellFields P #[g0,g1]=true)(hgC:P.cellsOf g=2)(hg0:g0.type=u)(hg1:g1.type=t)(hu:P.underlying u=some (.int .u8))
  (ht:P.underlying t=some (.slice e)) (he:P.underlying e=some (.array 5 i)) (hi:P.underlying i=some (.int .i64)) (hce:P.cellsOf i=1) (hC:P.cellsOf e=5)
  (hv:Value.okWide P w r b0 g v) (h:DataW.Trod enc P w base spare held g v d p):
  ∃(N:Nat) (a:Option Addr) (len cap:Nat) (l:List Tup),v=.agg #[.int .u8 N,.slice a len cap]∧N≤255∧ReadsT w w.heap.size a len l∧len≤maxLen:=by
 obtain⟨v0,v1,y0,y1,n,rfl,_,_,k0,k1⟩:=open_agg2 hg hgo hgC hv h
 obtain⟨N,hN,_,wN⟩:=DataW.trod_int (hg0▸hu) k0
 injection hN with hN;subst hN
 obtain⟨N,rfl,hN⟩:=nat_u8 wN
 obtain⟨a,len,cap,l,rfl,hr,hm⟩:=open_tups ht he hi hce hC (hg1▸k1)
 exact⟨N,a,len,cap,l,rfl,hN,hr,hm⟩
end
def clm(k:Int):Int:=if k<0 then -k-1 else k-1
theorem clm_kol{k:Int}(h:k≠0):clm k=((kol k:Nat):Int):=by
 unfold clm
 split
 ·rw[kol_min (by omega)]
 ·rw[kol_pos (by omega)]
theorem kol_lt{k:Int}(_h0:k≠0)(h:-5≤k∧k≤5):kol k<5:=by unfold kol;omega
def arrV(t:Tup):List Value:=[.int .i64 t.a,.int .i64 t.b,.int .i64 t.c,.int .i64 t.d,.int .i64 t.e]
theorem arr_cell{W:World}{g:Nat}{T:TypeId}{t:Tup}(h:Row W g T (arrV t)){i:Nat}(hi:i<5):W.cell? ⟨g,i,none⟩=some (.int .i64 (colT t i)):=by
 rw[h.cell i]
 match i,hi with
 |0,_=>rfl
 |1,_=>rfl
 |2,_=>rfl
 |3,_=>rfl
 |4,_=>rfl
def FmAt(o:Tup)(i:Nat):Prop:=(-5≤colT o i∧colT o i≤5)∧∀k,k<i→colT o i≠0→colT o k≠0∧kol (colT o k)≠kol (colT o i)
theorem col_any(k:Int)(hk:-5≤k∧k≤5)(w:World):Calls Tryz.prog 57 #[.int .i64 k] w fun e w'=>e=.returned (.int .i64 (clm k))∧w'=w:=by
 by_cases h:k<0
 ·have g:decide (k<0)=true:=by simpa using h
  have e:clm k=-k-1:=by unfold clm;rw[if_pos h]
  rw[e]
  go_enter Tryz.func57,Tryz.ntmps57
  go_wp2
  go_ret
  exact⟨rfl,rfl⟩
 ·have g:decide (k<0)=false:=by simpa using h
  have e:clm k=k-1:=by unfold clm;rw[if_neg h]
  rw[e]
  go_enter Tryz.func57,Tryz.ntmps57
  go_wp2
  go_ret
  exact⟨rfl,rfl⟩
theorem boxes2(w:World)(a b:List Value)(A B:TypeId):∃W1,W1=(w.alloc (.cells a.toArray A)).alloc (.cells b.toArray B)∧Below w.heap.size w W1∧W1.heap.size=w.heap.size+2∧Row W1 w.heap.size A a∧Row W1 (w.heap.size+1) B b:=by
 have b1:Below w.heap.size w (w.alloc (.cells a.toArray A)):=(Below.refl _ _).alloc (Nat.le_refl _) _
 have r1:Row (w.alloc (.cells a.toArray A)) w.heap.size A a:=heap_alloc_new _ _
 have s1:(w.alloc (.cells a.toArray A)).heap.size=w.heap.size+1:=by simp
 refine⟨_,rfl,b1.alloc (by omega) _,by simp,r1.alloc _,?_⟩
 rw[←s1];exact heap_alloc_new _ _
theorem boxes3(w:World)(a b c:List Value)(A B C:TypeId):∃W1,W1=((w.alloc (.cells a.toArray A)).alloc (.cells b.toArray B)).alloc (.cells c.toArray C)∧Below w.heap.size w W1∧W1.heap.size=w.heap.size+3∧Row W1 w.heap.size A a∧Row W1 (w.heap.size+1) B b∧Row W1 (w.heap.size+2) C c:=by
 obtain⟨W,e,b1,s1,r1,r2⟩:=boxes2 w a b A B
 refine⟨_,rfl,?_⟩
 rw[←e]
 refine⟨b1.alloc (by omega) _,by simp[s1],r1.alloc _,r2.alloc _,?_⟩
 rw[←s1];exact heap_alloc_new _ _
theorem boxes4(w:World)(a b c d:List Value)(A B C D:TypeId):∃W1,W1=(((w.alloc (.cells a.toArray A)).alloc (.cells b.toArray B)).alloc (.cells c.toArray C)).alloc (.cells d.toArray D)∧Below w.heap.size w W1∧W1.heap.size=w.heap.size+4∧Row W1 w.heap.size A a∧Row W1 (w.heap.size+1) B b∧Row W1 (w.heap.size+2) C c∧Row W1 (w.heap.size+3) D d:=by
 obtain⟨W,e,b1,s1,r1,r2,r3⟩:=boxes3 w a b c A B C
 refine⟨_,rfl,?_⟩
 rw[←e]
 refine⟨b1.alloc (by omega) _,by simp[s1],r1.alloc _,r2.alloc _,r3.alloc _,?_⟩
 rw[←s1];exact heap_alloc_new _ _
theorem index_any(T:TypeId)(hT:T=26)(o:Tup){i:Nat}(hi:i<5)(w:World):(Instr.index T (.agg #[.int .i64 o.a,.int .i64 o.b,.int .i64 o.c,.int .i64 o.d,.int .i64 o.e]) (.int .i64 (i:Int))).run Tryz.prog w=.ok (.int .i64 (colT o i)) w:=by
 subst hT
 match i,hi with
 |0,_=>exact(by kernel_rfl:(Instr.index 26 (.agg #[.int .i64 o.a,.int .i64 o.b,.int .i64 o.c,.int .i64 o.d,.int .i64 o.e]) (.int .i64 0)).run Tryz.prog w=.ok (.int .i64 o.a) w)
 |1,_=>exact(by kernel_rfl:(Instr.index 26 (.agg #[.int .i64 o.a,.int .i64 o.b,.int .i64 o.c,.int .i64 o.d,.int .i64 o.e]) (.int .i64 1)).run Tryz.prog w=.ok (.int .i64 o.b) w)
 |2,_=>exact(by kernel_rfl:(Instr.index 26 (.agg #[.int .i64 o.a,.int .i64 o.b,.int .i64 o.c,.int .i64 o.d,.int .i64 o.e]) (.int .i64 2)).run Tryz.prog w=.ok (.int .i64 o.c) w)
 |3,_=>exact(by kernel_rfl:(Instr.index 26 (.agg #[.int .i64 o.a,.int .i64 o.b,.int .i64 o.c,.int .i64 o.d,.int .i64 o.e]) (.int .i64 3)).run Tryz.prog w=.ok (.int .i64 o.d) w)
 |4,_=>exact(by kernel_rfl:(Instr.index 26 (.agg #[.int .i64 o.a,.int .i64 o.b,.int .i64 o.c,.int .i64 o.d,.int .i64 o.e]) (.int .i64 4)).run Tryz.prog w=.ok (.int .i64 o.e) w)
def boolV(s:List Bool):List Value:=s.map Value.bool
theorem boolV_at{s:List Bool}{c:Nat}(h:c<s.length):(boolV s)[c]?=some (.bool (s.getD c false)):=by
 unfold boolV
 rw[List.getElem?_map,List.getElem?_eq_getElem h,List.getD_eq_getElem?_getD,List.getElem?_eq_getElem h];rfl
theorem boolV_set(s:List Bool)(c:Nat)(b:Bool):(boolV s).set c (.bool b)=boolV (s.set c b):=by
 unfold boolV;rw[List.map_set]
theorem formed_any(o:Tup)(w:World):Calls Tryz.prog 30 #[.agg #[.int .i64 o.a,.int .i64 o.b,.int .i64 o.c,.int .i64 o.d,.int .i64 o.e]] w fun e w'=>e=.returned (.bool (decide (Fm o)))∧Below w.heap.size w w':=by
 obtain⟨W1,hW1,b1,s1,r1,r2⟩:=boxes2 w [.int .i64 o.a,.int .i64 o.b,.int .i64 o.c,.int .i64 o.d,.int .i64 o.e] [.bool false,.bool false,.bool false,.bool false,.bool false] 26 116
 have HW1:=Lib.hid hW1
 have HB:=Lib.hid b1
 have HSZ:=Lib.hid s1
 have HR2:Hid (Row W1 (w.heap.size+1) 116 (boolV [false,false,false,false,false])):=r2
 have d0:W1.cell? ⟨w.heap.size,0,none⟩=some (.int .i64 o.a):=r1.cell 0
 have d1:W1.cell? ⟨w.heap.size,1,none⟩=some (.int .i64 o.b):=r1.cell 1
 have d2:W1.cell? ⟨w.heap.size,2,none⟩=some (.int .i64 o.c):=r1.cell 2
 have d3:W1.cell? ⟨w.heap.size,3,none⟩=some (.int .i64 o.d):=r1.cell 3
 have d4:W1.cell? ⟨w.heap.size,4,none⟩=some (.int .i64 o.e):=r1.cell 4
 have HNO:Hid (∀i,i<5→¬FmAt o i→decide (Fm o)=false):=fun i hi h=>decide_eq_false fun hf=>h (hf i hi)
 have HYES:Hid ((∀i,i<5→FmAt o i)→decide (Fm o)=true):=fun h=>decide_eq_true h
 have HIX:Hid (∀i:Nat,i<5→∀W:World,(Instr.index 26 (.agg #[.int .i64 o.a,.int .i64 o.b,.int .i64 o.c,.int .i64 o.d,.int .i64 o.e]) (.int .i64 (i:Int))).run Tryz.prog W=.ok (.int .i64 (colT o i)) W):=fun i hi W=>index_any _ rfl o hi W
 generalize decide (Fm o)=res at*
 clear r1 r2 b1 s1 hW1
 go_enter Tryz.func30,Tryz.ntmps30
 go_upto_region 2 with(fail)
 rw[←HW1.out]
 clear HW1
 go_wp2_with fail
 go_loopw [4,8] (fun ev iv wr=>∃(i:Nat) (e:Bool) (s:List Bool),i≤5∧iv=.int .i64 (i:Int)∧ev=.bool e∧Hid (Below w.heap.size w wr)∧Hid (w.heap.size+2≤wr.heap.size)∧Hid (Row wr (w.heap.size+1) 116 (boolV s))∧Hid (s.length=5)∧Hid (∀j,j<i→FmAt o j)∧Hid (e=true↔∃j,j<i∧colT o j=0)∧Hid (∀c,c<5→(s.getD c false=true↔∃j,j<i∧colT o j≠0∧kol (colT o j)=c))) (fun _ iv _=>5-(intOf iv).toNat)
 case atStart=>
  refine⟨0,false,[false,false,false,false,false],by omega,rfl,rfl,HB.out,Nat.le_of_eq HSZ.out.symm,HR2.out,rfl,fun j hj=>by omega,⟨fun h=>(by cases h),fun⟨j,hj,_⟩=>(by omega)⟩,fun c hc=>⟨fun h=>?_,fun⟨j,hj,_⟩=>(by omega)⟩⟩
  match c,hc with
  |0,_=>cases h
  |1,_=>cases h
  |2,_=>cases h
  |3,_=>cases h
  |4,_=>cases h
 case round=>
  obtain⟨i,e,s,hi,rfl,rfl,HW,HZ,HR,HSL,HF,HE,HS⟩:=hrel
  clear HB HSZ HR2
  by_cases hlt:i<5
  ·have g1:decide ((i:Int)<5)=true:=by simp;omega
   have i0:(0:Int)≤(i:Int):=by omega
   have i1:(i:Int)<5:=by omega
   obtain⟨x,hx⟩:∃x,x=colT o i:=⟨_,rfl⟩
   have Hx:=Lib.hid hx
   have hix:∀W:World,(Instr.index 26 (.agg #[.int .i64 o.a,.int .i64 o.b,.int .i64 o.c,.int .i64 o.d,.int .i64 o.e]) (.int .i64 (i:Int))).run Tryz.prog W=.ok (.int .i64 x) W:=fun W=>by rw[hx];exact HIX.out i hlt W
   clear hx
   by_cases hx0:x=0
   ·have gx:(x==0)=true:=by simpa using hx0
    have gx':decide (x=0)=true:=by simpa using hx0
    have HF2:Hid (∀j,j<i+1→FmAt o j):=fun j hj=>by
     by_cases e:j=i
     ·rw[e];unfold FmAt;rw[←Hx.out,hx0];exact⟨by omega,fun k _ h=>absurd rfl h⟩
     ·exact HF.out j (by omega)
    have HE2:Hid (true=true↔∃j,j<i+1∧colT o j=0):=⟨fun _=>⟨i,by omega,by rw[←Hx.out,hx0]⟩,fun _=>rfl⟩
    have HS2:Hid (∀c,c<5→(s.getD c false=true↔∃j,j<i+1∧colT o j≠0∧kol (colT o j)=c)):=fun c hc=>by
     rw[HS.out c hc]
     refine⟨fun⟨j,hj,h⟩=>⟨j,by omega,h⟩,fun⟨j,hj,h⟩=>⟨j,?_,h⟩⟩
     by_cases e:j=i
     ·rw[e,←Hx.out]at h;exact absurd hx0 h.1
     ·omega
    clear hx0 HF HE HS
    go_wp2
    go_roundw
    case rel=>exact⟨i+1,true,s,by omega,by go_num,rfl,HW.out,HZ.out,HR.out,HSL.out,HF2.out,HE2.out,HS2.out⟩
    case measure=>simp[intOf];omega
   ·have gx:(x==0)=false:=by simpa using hx0
    have gx':decide (x=0)=false:=by simpa using hx0
    cases e with
    |true=>
     have hres:res=false:=HNO.out i hlt fun h=>by
      obtain⟨j,hj,h0⟩:=HE.out.1 rfl
      exact(h.2 j hj (by rw[←Hx.out];exact hx0)).1 h0
     subst hres
     clear hx0
     go_wp2
     go_ret
     exact⟨rfl,HW.out⟩
    |false=>
     by_cases h1:x< -5
     ·have hres:res=false:=HNO.out i hlt fun h=>by have:=h.1;rw[←Hx.out]at this;omega
      have g2:decide (x< -5)=true:=by simpa using h1
      subst hres
      clear hx0
      go_wp2
      go_ret
      exact⟨rfl,HW.out⟩
     ·have g2:decide (x< -5)=false:=by simpa using h1
      by_cases h2:x>5
      ·have hres:res=false:=HNO.out i hlt fun h=>by have:=h.1;rw[←Hx.out]at this;omega
       have g3:decide (x>5)=true:=by simpa using h2
       subst hres
       clear hx0
       go_wp2
       go_ret
       exact⟨rfl,HW.out⟩
      ·have g3:decide (x>5)=false:=by simpa using h2
       have hrx:-5≤x∧x≤5:=⟨by omega,by omega⟩
       have Hrx:=Lib.hid hrx
       have hk5:=kol_lt hx0 hrx
       have HQ:=Lib.hid (col_any x hrx)
       rw[clm_kol hx0]at HQ
       obtain⟨b,hb⟩:∃b,b=s.getD (kol x) false:=⟨_,rfl⟩
       have cb:wr.cell? ⟨w.heap.size+1,kol x,none⟩=some (.bool b):=by rw[HR.out.cell,boolV_at (by rw[HSL.out];exact hk5),hb]
       have fz:=HR.out.free (kol x)
       have HSX:=HS.out (kol x) hk5
       rw[←hb]at HSX
       have k0:(0:Int)≤((kol x:Nat):Int):=by omega
       have k1:((kol x:Nat):Int)<5:=by omega
       cases b with
       |true=>
        have hres:res=false:=HNO.out i hlt fun h=>by
         obtain⟨j,hj,h0,hk⟩:=HSX.1 rfl
         exact(h.2 j hj (by rw[←Hx.out];exact hx0)).2 (by rw[hk,←Hx.out])
        subst hres
        clear hx0 h1 h2 HSX hrx hb
        generalize kol x=c at*
        go_wp2_with fail
        refine(HQ.out _).mono ?_;rintro e w2 ⟨rfl,rfl⟩
        go_wp2
        go_ret
        exact⟨rfl,HW.out⟩
       |false=>
        have hne:∀j,j<i→colT o j≠0:=fun j hj h=>by have:=HE.out.2 ⟨j,hj,h⟩;cases this
        have HF2:Hid (∀j,j<i+1→FmAt o j):=fun j hj=>by
         by_cases e:j=i
         ·rw[e];unfold FmAt;rw[←Hx.out]
          exact⟨hrx,fun k hk _=>⟨hne k hk,fun h=>by have:=HSX.2 ⟨k,hk,hne k hk,h⟩;cases this⟩⟩
         ·exact HF.out j (by omega)
        have HE2:Hid (false=true↔∃j,j<i+1∧colT o j=0):=⟨fun h=>(by cases h),fun⟨j,hj,h⟩=>by
         by_cases e:j=i
         ·rw[e,←Hx.out]at h;exact absurd h hx0
         ·exact absurd h (hne j (by omega))⟩
        have HS2:Hid (∀c,c<5→((s.set (kol x) true).getD c false=true↔∃j,j<i+1∧colT o j≠0∧kol (colT o j)=c)):=fun c hc=>by
         rw[List.getD_eq_getElem?_getD,List.getElem?_set]
         by_cases ec:kol x=c
         ·rw[if_pos ec,if_pos (by have:=HSL.out;omega)]
          exact⟨fun _=>⟨i,by omega,by rw[←Hx.out];exact hx0,by rw[←Hx.out];exact ec⟩,fun _=>rfl⟩
         ·rw[if_neg ec,←List.getD_eq_getElem?_getD,HS.out c hc]
          refine⟨fun⟨j,hj,h⟩=>⟨j,by omega,h⟩,fun⟨j,hj,h⟩=>⟨j,?_,h⟩⟩
          by_cases e:j=i
          ·rw[e,←Hx.out]at h;exact absurd h.2 ec
          ·omega
        have HL2:Hid ((s.set (kol x) true).length=5):=by unfold Hid;rw[List.length_set];exact HSL.out
        have HR3:Hid (Row (wr.setCell ⟨w.heap.size+1,kol x,none⟩ (.bool true)) (w.heap.size+1) 116 (boolV (s.set (kol x) true))):=by
         have:=HR.out.set (kol x) (.bool true)
         rw[boolV_set]at this
         exact this
        have HW3:Hid (Below w.heap.size w (wr.setCell ⟨w.heap.size+1,kol x,none⟩ (.bool true))):=HW.out.setCell (p:=⟨w.heap.size+1,kol x,none⟩) (by simp) _
        have HZ3:Hid (w.heap.size+2≤(wr.setCell ⟨w.heap.size+1,kol x,none⟩ (.bool true)).heap.size):=by unfold Hid;simp;exact HZ.out
        clear hx0 h1 h2 HSX hrx hb hne HF HE HS HSL HR HW HZ
        generalize s.set (kol x) true=s2 at*
        generalize kol x=c at*
        go_wp2_with fail
        refine(HQ.out _).mono ?_;rintro e w2 ⟨rfl,rfl⟩
        go_wp2_with fail
        refine(HQ.out _).mono ?_;rintro e w2 ⟨rfl,rfl⟩
        go_wp2
        go_roundw
        case rel=>exact⟨i+1,false,s2,by omega,by go_num,rfl,HW3.out,HZ3.out,HR3.out,HL2.out,HF2.out,HE2.out,HS2.out⟩
        case measure=>simp[intOf];omega
  ·have g1:decide ((i:Int)<5)=false:=by simp;omega
   have hres:res=true:=HYES.out fun j hj=>HF.out j (by omega)
   subst hres
   go_wp2
   go_ret
   exact⟨rfl,HW.out⟩
theorem cut_stop(o t:Tup):∀i,i≤5→(∀j,j<i→colT o j≠0)→(i=5∨colT o i=0)→cutO o.cols t=(o.cols.take i).map fun k=>colT t (kol k):=by
  obtain⟨a,b,c,d,e⟩:=o
  intro i hi h1 h2
  have e0:colT ⟨a,b,c,d,e⟩ 0=a:=rfl
  have e1:colT ⟨a,b,c,d,e⟩ 1=b:=rfl
  have e2:colT ⟨a,b,c,d,e⟩ 2=c:=rfl
  have e3:colT ⟨a,b,c,d,e⟩ 3=d:=rfl
  have e4:colT ⟨a,b,c,d,e⟩ 4=e:=rfl
  unfold cutO Tup.cols
  match i,hi with
  | 0,_=>
    have:a=0:=by
     rcases h2 with h|h
     ·omega
     · rw[e0]at h;exact h
    simp[this]
  | 1,_=>
    have f0:a≠0:=by have:=h1 0 (by omega);rwa [e0]at this
    have:b=0:=by
     rcases h2 with h|h
     ·omega
     · rw[e1]at h;exact h
    simp[f0,this]
  | 2,_=>
    have f0:a≠0:=by have:=h1 0 (by omega);rwa [e0]at this
    have f1:b≠0:=by have:=h1 1 (by omega);rwa [e1]at this
    have:c=0:=by
     rcases h2 with h|h
     ·omega
     · rw[e2]at h;exact h
    simp[f0,f1,this]
  | 3,_=>
    have f0:a≠0:=by have:=h1 0 (by omega);rwa [e0]at this
    have f1:b≠0:=by have:=h1 1 (by omega);rwa [e1]at this
    have f2:c≠0:=by have:=h1 2 (by omega);rwa [e2]at this
    have:d=0:=by
     rcases h2 with h|h
     ·omega
     · rw[e3]at h;exact h
    simp[f0,f1,f2,this]
  | 4,_=>
    have f0:a≠0:=by have:=h1 0 (by omega);rwa [e0]at this
    have f1:b≠0:=by have:=h1 1 (by omega);rwa [e1]at this
    have f2:c≠0:=by have:=h1 2 (by omega);rwa [e2]at this
    have f3:d≠0:=by have:=h1 3 (by omega);rwa [e3]at this
    have:e=0:=by
     rcases h2 with h|h
     ·omega
     · rw[e4]at h;exact h
    simp[f0,f1,f2,f3,this]
  | 5,_=>
    have f0:a≠0:=by have:=h1 0 (by omega);rwa [e0]at this
    have f1:b≠0:=by have:=h1 1 (by omega);rwa [e1]at this
    have f2:c≠0:=by have:=h1 2 (by omega);rwa [e2]at this
    have f3:d≠0:=by have:=h1 3 (by omega);rwa [e3]at this
    have f4:e≠0:=by have:=h1 4 (by omega);rwa [e4]at this
    simp[f0,f1,f2,f3,f4]
theorem take_snoc{o:Tup}{i:Nat}(hi:i<5):o.cols.take (i+1)=o.cols.take i++[colT o i]:=by
 match i,hi with
 |0,_=>rfl
 |1,_=>rfl
 |2,_=>rfl
 |3,_=>rfl
 |4,_=>rfl
theorem arr_set{l:List Int}{i:Nat}(hl:l.length=i)(hi:i<5)(x:Int):(arrV (tupL l)).set i (.int .i64 x)=arrV (tupL (l++[x])):=by
 subst hl
 match l,hi with
 |[],_=>rfl
 |[_],_=>rfl
 |[_,_],_=>rfl
 |[_,_,_],_=>rfl
 |[_,_,_,_],_=>rfl
theorem set5c{w:World}{g:Nat}{T:TypeId}{a b c d e:Value}(h:Row w g T [a,b,c,d,e])(v0 v1 v2 v3 v4:Value):Row (((((w.setCell ⟨g,0,none⟩ v0).setCell ⟨g,1,none⟩ v1).setCell ⟨g,2,none⟩ v2).setCell ⟨g,3,none⟩ v3).setCell ⟨g,4,none⟩ v4) g T [v0,v1,v2,v3,v4]:=
 ((((h.set 0 v0).set 1 v1).set 2 v2).set 3 v3).set 4 v4
theorem tcut_any(o t:Tup)(w:World):Calls Tryz.prog 34 #[.agg #[.int .i64 t.a,.int .i64 t.b,.int .i64 t.c,.int .i64 t.d,.int .i64 t.e],.agg #[.int .i64 o.a,.int .i64 o.b,.int .i64 o.c,.int .i64 o.d,.int .i64 o.e]] w fun e w'=>e=.returned (.agg #[.int .i64 (cutT o t).a,.int .i64 (cutT o t).b,.int .i64 (cutT o t).c,.int .i64 (cutT o t).d,.int .i64 (cutT o t).e])∧Below w.heap.size w w':=by
 obtain⟨W1,hW1,hb1,s1,r1,r2,r3,r4⟩:=boxes4 w [.int .i64 t.a,.int .i64 t.b,.int .i64 t.c,.int .i64 t.d,.int .i64 t.e] [.int .i64 o.a,.int .i64 o.b,.int .i64 o.c,.int .i64 o.d,.int .i64 o.e] [.int .i64 0,.int .i64 0,.int .i64 0,.int .i64 0,.int .i64 0] [.int .i64 0,.int .i64 0,.int .i64 0,.int .i64 0,.int .i64 0] 56 26 56 56
 have HW1:=Lib.hid hW1
 have HSZ:=Lib.hid s1
 have HR3:=Lib.hid r3
 have HR0:Hid (Row W1 (w.heap.size+3) 56 (arrV (tupL []))):=r4
 have KC:Hid (∀W,Below (w.heap.size+3) W1 W→Below w.heap.size w W∧∀i,i<5→W.cell? ⟨w.heap.size,i,none⟩=some (.int .i64 (colT t i))):=fun W hb=>
  ⟨hb1.trans (hb.mono (by omega)),fun i hi=>arr_cell (r1.below hb (by omega)) hi⟩
 have d0:W1.cell? ⟨w.heap.size+1,0,none⟩=some (.int .i64 o.a):=r2.cell 0
 have d1:W1.cell? ⟨w.heap.size+1,1,none⟩=some (.int .i64 o.b):=r2.cell 1
 have d2:W1.cell? ⟨w.heap.size+1,2,none⟩=some (.int .i64 o.c):=r2.cell 2
 have d3:W1.cell? ⟨w.heap.size+1,3,none⟩=some (.int .i64 o.d):=r2.cell 3
 have d4:W1.cell? ⟨w.heap.size+1,4,none⟩=some (.int .i64 o.e):=r2.cell 4
 have HRO:=Lib.hid r2
 have HFO:=Lib.hid (formed_any o)
 have HIX:Hid (∀i:Nat,i<5→∀W:World,(Instr.index 26 (.agg #[.int .i64 o.a,.int .i64 o.b,.int .i64 o.c,.int .i64 o.d,.int .i64 o.e]) (.int .i64 (i:Int))).run Tryz.prog W=.ok (.int .i64 (colT o i)) W):=fun i hi W=>index_any _ rfl o hi W
 have HEND:Hid (∀(W:World) (u:Tup),Below (w.heap.size+3) W1 W→Row W (w.heap.size+2) 56 (arrV tup0)→Row (((((W.setCell ⟨w.heap.size+2,0,none⟩ (.int .i64 u.a)).setCell ⟨w.heap.size+2,1,none⟩ (.int .i64 u.b)).setCell ⟨w.heap.size+2,2,none⟩ (.int .i64 u.c)).setCell ⟨w.heap.size+2,3,none⟩ (.int .i64 u.d)).setCell ⟨w.heap.size+2,4,none⟩ (.int .i64 u.e)) (w.heap.size+2) 56 (arrV u)∧Below w.heap.size w (((((W.setCell ⟨w.heap.size+2,0,none⟩ (.int .i64 u.a)).setCell ⟨w.heap.size+2,1,none⟩ (.int .i64 u.b)).setCell ⟨w.heap.size+2,2,none⟩ (.int .i64 u.c)).setCell ⟨w.heap.size+2,3,none⟩ (.int .i64 u.d)).setCell ⟨w.heap.size+2,4,none⟩ (.int .i64 u.e))):=fun W u hb hr=>by
  refine⟨set5c hr (.int .i64 u.a) (.int .i64 u.b) (.int .i64 u.c) (.int .i64 u.d) (.int .i64 u.e),?_⟩
  exact(((((KC.out _ hb).1.setCell (p:=⟨w.heap.size+2,0,none⟩) (by simp) _).setCell (p:=⟨w.heap.size+2,1,none⟩) (by simp) _).setCell (p:=⟨w.heap.size+2,2,none⟩) (by simp) _).setCell (p:=⟨w.heap.size+2,3,none⟩) (by simp) _).setCell (p:=⟨w.heap.size+2,4,none⟩) (by simp) _
 by_cases hf:Fm o
 ·rw[decide_eq_true hf]at HFO
  have HRNG:Hid (∀i,i<5→-5≤colT o i∧colT o i≤5):=fun i hi=>(hf i hi).1
  have HF1:Hid (∀(i:Nat) (l:List Int),i≤5→l=(o.cols.take i).map (fun k=>colT t (kol k))→(∀j,j<i→colT o j≠0)→(i=5∨colT o i=0)→tupL l=cutT o t):=fun i l hi hl h1 h2=>by
   unfold cutT;rw[if_pos hf,cut_stop o t i hi h1 h2,hl]
  generalize cutT o t=u at*
  clear hf r1 r2 r3 r4 hb1 s1 hW1
  go_enter Tryz.func34,Tryz.ntmps34
  go_upto_region 2 with(fail)
  rw[←HW1.out]
  clear HW1
  go_wp2_with fail
  refine(HFO.out _).mono ?_;rintro e w1 ⟨rfl,hb⟩
  have HW2:Hid (Below (w.heap.size+4) W1 w1):=hb.mono (Nat.le_of_eq HSZ.out.symm)
  have hro:=HRO.out.below HW2.out (by omega)
  have e0:w1.cell? ⟨w.heap.size+1,0,none⟩=some (.int .i64 o.a):=hro.cell 0
  have e1:w1.cell? ⟨w.heap.size+1,1,none⟩=some (.int .i64 o.b):=hro.cell 1
  have e2:w1.cell? ⟨w.heap.size+1,2,none⟩=some (.int .i64 o.c):=hro.cell 2
  have e3:w1.cell? ⟨w.heap.size+1,3,none⟩=some (.int .i64 o.d):=hro.cell 3
  have e4:w1.cell? ⟨w.heap.size+1,4,none⟩=some (.int .i64 o.e):=hro.cell 4
  clear hro hb d0 d1 d2 d3 d4 HRO HFO
  go_wp2_with fail
  go_loopw [13] (fun iv wr=>∃(i:Nat) (l:List Int),i≤5∧iv=.int .i64 (i:Int)∧Hid (Below (w.heap.size+3) W1 wr)∧Hid (Row wr (w.heap.size+3) 56 (arrV (tupL l)))∧Hid (l=(o.cols.take i).map fun k=>colT t (kol k))∧Hid (∀j,j<i→colT o j≠0)) (fun iv _=>5-(intOf iv).toNat)
  case atStart=>exact⟨0,[],by omega,rfl,HW2.out.mono (by omega),HR0.out.below HW2.out (by omega),rfl,fun j hj=>by omega⟩
  case round=>
   obtain⟨i,l,hi,rfl,HW,HR,HL,HN⟩:=hrel
   clear HR0 HW2 HSZ
   by_cases hlt:i<5
   ·have g1:decide ((i:Int)<5)=true:=by simp;omega
    have i0:(0:Int)≤(i:Int):=by omega
    have i1:(i:Int)<5:=by omega
    obtain⟨z,hz⟩:∃z,z=colT o i:=⟨_,rfl⟩
    have hix:∀W:World,(Instr.index 26 (.agg #[.int .i64 o.a,.int .i64 o.b,.int .i64 o.c,.int .i64 o.d,.int .i64 o.e]) (.int .i64 (i:Int))).run Tryz.prog W=.ok (.int .i64 z) W:=fun W=>by rw[hz];exact HIX.out i hlt W
    by_cases hz0:z=0
    ·have gz:(z==0)=true:=by simpa using hz0
     have gz':decide (z=0)=true:=by simpa using hz0
     have HRX:Hid (Row wr (w.heap.size+3) 56 (arrV u)):=by
      have:=HR.out
      rw[HF1.out i l hi HL.out HN.out (.inr (by rw[←hz];exact hz0))]at this
      exact this
     clear HR HL HN HF1 HRNG hz hz0
     have hrx:=HRX.out
     have h2x:=HR3.out.below HW.out (by omega)
     have q0:wr.cell? ⟨w.heap.size+3,0,none⟩=some (.int .i64 u.a):=hrx.cell 0
     have q1:wr.cell? ⟨w.heap.size+3,1,none⟩=some (.int .i64 u.b):=hrx.cell 1
     have q2:wr.cell? ⟨w.heap.size+3,2,none⟩=some (.int .i64 u.c):=hrx.cell 2
     have q3:wr.cell? ⟨w.heap.size+3,3,none⟩=some (.int .i64 u.d):=hrx.cell 3
     have q4:wr.cell? ⟨w.heap.size+3,4,none⟩=some (.int .i64 u.e):=hrx.cell 4
     have p0:wr.cell? ⟨w.heap.size+2,0,none⟩=some (.int .i64 0):=h2x.cell 0
     have p1:wr.cell? ⟨w.heap.size+2,1,none⟩=some (.int .i64 0):=h2x.cell 1
     have p2:wr.cell? ⟨w.heap.size+2,2,none⟩=some (.int .i64 0):=h2x.cell 2
     have p3:wr.cell? ⟨w.heap.size+2,3,none⟩=some (.int .i64 0):=h2x.cell 3
     have p4:wr.cell? ⟨w.heap.size+2,4,none⟩=some (.int .i64 0):=h2x.cell 4
     have z0:=h2x.free 0
     have z1:=h2x.free 1
     have z2:=h2x.free 2
     have z3:=h2x.free 3
     have z4:=h2x.free 4
     have H5:=Lib.hid (HEND.out wr u HW.out h2x)
     clear hrx h2x HRX HW HR3
     go_wp2
     have r0:=H5.out.1.cell 0
     have r1:=H5.out.1.cell 1
     have r2:=H5.out.1.cell 2
     have r3:=H5.out.1.cell 3
     have r4:=H5.out.1.cell 4
     simp only[arrV,List.getElem?_cons_zero,List.getElem?_cons_succ]at r0 r1 r2 r3 r4
     exact bodyPost_ret (v:=.agg #[.int .i64 u.a,.int .i64 u.b,.int .i64 u.c,.int .i64 u.d,.int .i64 u.e]) (by simp[results,Tryz.results34,go_sem,r0,r1,r2,r3,r4]) rfl ⟨rfl,H5.out.2⟩
    ·have gz:(z==0)=false:=by simpa using hz0
     have gz':decide (z=0)=false:=by simpa using hz0
     have hrz:-5≤z∧z≤5:=by rw[hz];exact HRNG.out i hlt
     have hk5:=kol_lt hz0 hrz
     have HQ:=Lib.hid (col_any z hrz wr)
     rw[clm_kol hz0]at HQ
     obtain⟨x,hx⟩:∃x,x=colT t (kol z):=⟨_,rfl⟩
     have yx:wr.cell? ⟨w.heap.size,kol z,none⟩=some (.int .i64 x):=by rw[hx];exact(KC.out _ HW.out).2 _ hk5
     have hll:l.length=i:=by rw[HL.out,List.length_map,List.length_take,Tup.cols_len];omega
     have HL2:Hid (l++[x]=(o.cols.take (i+1)).map fun k=>colT t (kol k)):=by
      unfold Hid
      rw[take_snoc hlt,List.map_append,←HL.out,hx,hz];rfl
     have HN2:Hid (∀j,j<i+1→colT o j≠0):=fun j hj=>by
      by_cases e:j=i
      ·rw[e,←hz];exact hz0
      ·exact HN.out j (by omega)
     have HRS:Hid (Row (wr.setCell ⟨w.heap.size+3,i,none⟩ (.int .i64 x)) (w.heap.size+3) 56 (arrV (tupL (l++[x])))):=by
      have:=HR.out.set i (.int .i64 x)
      rw[arr_set hll hlt]at this
      exact this
     have HWS:Hid (Below (w.heap.size+3) W1 (wr.setCell ⟨w.heap.size+3,i,none⟩ (.int .i64 x))):=HW.out.setCell (p:=⟨w.heap.size+3,i,none⟩) (by simp) _
     have cs:∃v,wr.cell? ⟨w.heap.size+3,i,none⟩=some v:=⟨_,arr_cell HR.out hlt⟩
     obtain⟨v9,cs⟩:=cs
     have fz:=HR.out.free i
     have k0:(0:Int)≤((kol z:Nat):Int):=by omega
     have k1:((kol z:Nat):Int)<5:=by omega
     generalize kol z=c at*
     clear hx hz hz0 hrz hll HR HW HL HN
     go_wp2_with fail
     refine HQ.out.mono ?_;rintro e w3 ⟨rfl,rfl⟩
     go_wp2
     go_roundw
     case rel=>exact⟨i+1,_,by omega,by go_num,HWS.out,HRS.out,HL2.out,HN2.out⟩
     case measure=>simp[intOf];omega
   ·obtain rfl:i=5:=by omega
    have HRX:Hid (Row wr (w.heap.size+3) 56 (arrV u)):=by
     have:=HR.out
     rw[HF1.out 5 l hi HL.out HN.out (.inl rfl)]at this
     exact this
    clear HR HL HN HF1 HRNG
    have hrx:=HRX.out
    have h2x:=HR3.out.below HW.out (by omega)
    have q0:wr.cell? ⟨w.heap.size+3,0,none⟩=some (.int .i64 u.a):=hrx.cell 0
    have q1:wr.cell? ⟨w.heap.size+3,1,none⟩=some (.int .i64 u.b):=hrx.cell 1
    have q2:wr.cell? ⟨w.heap.size+3,2,none⟩=some (.int .i64 u.c):=hrx.cell 2
    have q3:wr.cell? ⟨w.heap.size+3,3,none⟩=some (.int .i64 u.d):=hrx.cell 3
    have q4:wr.cell? ⟨w.heap.size+3,4,none⟩=some (.int .i64 u.e):=hrx.cell 4
    have p0:wr.cell? ⟨w.heap.size+2,0,none⟩=some (.int .i64 0):=h2x.cell 0
    have p1:wr.cell? ⟨w.heap.size+2,1,none⟩=some (.int .i64 0):=h2x.cell 1
    have p2:wr.cell? ⟨w.heap.size+2,2,none⟩=some (.int .i64 0):=h2x.cell 2
    have p3:wr.cell? ⟨w.heap.size+2,3,none⟩=some (.int .i64 0):=h2x.cell 3
    have p4:wr.cell? ⟨w.heap.size+2,4,none⟩=some (.int .i64 0):=h2x.cell 4
    have z0:=h2x.free 0
    have z1:=h2x.free 1
    have z2:=h2x.free 2
    have z3:=h2x.free 3
    have z4:=h2x.free 4
    have H5:=Lib.hid (HEND.out wr u HW.out h2x)
    clear hrx h2x HRX HW HR3
    go_wp2
    have r0:=H5.out.1.cell 0
    have r1:=H5.out.1.cell 1
    have r2:=H5.out.1.cell 2
    have r3:=H5.out.1.cell 3
    have r4:=H5.out.1.cell 4
    simp only[arrV,List.getElem?_cons_zero,List.getElem?_cons_succ]at r0 r1 r2 r3 r4
    exact bodyPost_ret (v:=.agg #[.int .i64 u.a,.int .i64 u.b,.int .i64 u.c,.int .i64 u.d,.int .i64 u.e]) (by simp[results,Tryz.results34,go_sem,r0,r1,r2,r3,r4]) rfl ⟨rfl,H5.out.2⟩
 ·have hres:cutT o t=tup0:=by unfold cutT;rw[if_neg hf]
  rw[decide_eq_false hf]at HFO
  rw[hres]
  clear hf hres r1 r2 r3 r4 hb1 s1 hW1
  go_enter Tryz.func34,Tryz.ntmps34
  go_upto_region 2 with(fail)
  rw[←HW1.out]
  clear HW1
  go_wp2_with fail
  refine(HFO.out _).mono ?_;rintro e wr ⟨rfl,hb⟩
  have HW:Hid (Below (w.heap.size+4) W1 wr):=hb.mono (Nat.le_of_eq HSZ.out.symm)
  have hrx:=HR0.out.below HW.out (by omega)
  have h2x:=HR3.out.below HW.out (by omega)
  have q0:wr.cell? ⟨w.heap.size+3,0,none⟩=some (.int .i64 0):=hrx.cell 0
  have q1:wr.cell? ⟨w.heap.size+3,1,none⟩=some (.int .i64 0):=hrx.cell 1
  have q2:wr.cell? ⟨w.heap.size+3,2,none⟩=some (.int .i64 0):=hrx.cell 2
  have q3:wr.cell? ⟨w.heap.size+3,3,none⟩=some (.int .i64 0):=hrx.cell 3
  have q4:wr.cell? ⟨w.heap.size+3,4,none⟩=some (.int .i64 0):=hrx.cell 4
  have p0:wr.cell? ⟨w.heap.size+2,0,none⟩=some (.int .i64 0):=h2x.cell 0
  have p1:wr.cell? ⟨w.heap.size+2,1,none⟩=some (.int .i64 0):=h2x.cell 1
  have p2:wr.cell? ⟨w.heap.size+2,2,none⟩=some (.int .i64 0):=h2x.cell 2
  have p3:wr.cell? ⟨w.heap.size+2,3,none⟩=some (.int .i64 0):=h2x.cell 3
  have p4:wr.cell? ⟨w.heap.size+2,4,none⟩=some (.int .i64 0):=h2x.cell 4
  have z0:=h2x.free 0
  have z1:=h2x.free 1
  have z2:=h2x.free 2
  have z3:=h2x.free 3
  have z4:=h2x.free 4
  have H5:Hid (Row (((((wr.setCell ⟨w.heap.size+2,0,none⟩ (.int .i64 0)).setCell ⟨w.heap.size+2,1,none⟩ (.int .i64 0)).setCell ⟨w.heap.size+2,2,none⟩ (.int .i64 0)).setCell ⟨w.heap.size+2,3,none⟩ (.int .i64 0)).setCell ⟨w.heap.size+2,4,none⟩ (.int .i64 0)) (w.heap.size+2) 56 [.int .i64 0,.int .i64 0,.int .i64 0,.int .i64 0,.int .i64 0]∧Below w.heap.size w (((((wr.setCell ⟨w.heap.size+2,0,none⟩ (.int .i64 0)).setCell ⟨w.heap.size+2,1,none⟩ (.int .i64 0)).setCell ⟨w.heap.size+2,2,none⟩ (.int .i64 0)).setCell ⟨w.heap.size+2,3,none⟩ (.int .i64 0)).setCell ⟨w.heap.size+2,4,none⟩ (.int .i64 0))):=HEND.out wr tup0 (HW.out.mono (by omega)) h2x
  clear hrx h2x HW HR3 hb d0 d1 d2 d3 d4
  go_wp2
  have r0:=H5.out.1.cell 0
  have r1:=H5.out.1.cell 1
  have r2:=H5.out.1.cell 2
  have r3:=H5.out.1.cell 3
  have r4:=H5.out.1.cell 4
  simp only[List.getElem?_cons_zero,List.getElem?_cons_succ]at r0 r1 r2 r3 r4
  exact bodyPost_ret (v:=.agg #[.int .i64 tup0.a,.int .i64 tup0.b,.int .i64 tup0.c,.int .i64 tup0.d,.int .i64 tup0.e]) (by simp[results,Tryz.results34,go_sem,r0,r1,r2,r3,r4,tup0]) rfl ⟨rfl,H5.out.2⟩
def nameN(o:Tup):Nat:=(o.cols.takeWhile fun k=>k≠0).length
theorem nameN_le(o:Tup):nameN o≤5:=Nat.le_trans (List.takeWhile_prefix _).length_le (by simp[Tup.cols])
theorem nameN_at{o:Tup}{n:Nat}(hn:n≤5)(h1:∀j,j<n→colT o j≠0)(h2:n=5∨colT o n=0):nameN o=n:=by
 have h:=cut_stop o o n hn h1 h2
 have h3:=cutO_len o.cols o
 rw[h]at h3
 unfold nameN
 rw[←h3]
 simp[Tup.cols];omega
theorem tupL_fits{l:List Int}{n:Nat}(h:l.length=n)(_hn:n≤5):fitsT n (tupL l)=true:=by
 subst h
 unfold fitsT tupL Tup.cols
 match l with
 |[]=>rfl
 |[_]=>rfl
 |[_,_]=>rfl
 |[_,_,_]=>rfl
 |[_,_,_,_]=>rfl
 | _:: _:: _:: _:: _::l=>simp
theorem cutT_fits{o t:Tup}(hf:Fm o):fitsT (nameN o) (cutT o t)=true:=by
 unfold cutT
 rw[if_pos hf]
 exact tupL_fits (by rw[cutO_len];rfl) (nameN_le o)
theorem colT_ok{t:Tup}(h:TupOk t)(i:Nat):I64 (colT t i):=by
 unfold colT
 rw[List.getD_eq_getElem?_getD]
 rcases hi:t.cols[i]?with _|x
 ·exact I64.of (by simp) (by simp)
 ·exact h x (List.mem_of_getElem? hi)
theorem cutT_ok{o t:Tup}(h:TupOk t):TupOk (cutT o t):=by
 unfold cutT
 split
 ·have hz:I64 0:=I64.of (by omega) (by omega)
  have hall:∀x∈cutO o.cols t,I64 x:=fun x hx=>by
   unfold cutO at hx
   obtain⟨k,_,rfl⟩:=List.mem_map.1 hx
   exact colT_ok h _
  have hg:∀i,I64 ((cutO o.cols t).getD i 0):=fun i=>by
   rw[List.getD_eq_getElem?_getD]
   rcases hi:(cutO o.cols t)[i]?with _|x
   ·exact hz
   ·exact hall x (List.mem_of_getElem? hi)
  generalize cutO o.cols t=L at*
  intro x hx
  simp[tupL,Tup.cols]at hx
  rcases hx with rfl|rfl|rfl|rfl|rfl
  ·have:=hg 0;simpa [List.getD_eq_getElem?_getD]using this
  ·have:=hg 1;simpa [List.getD_eq_getElem?_getD]using this
  ·have:=hg 2;simpa [List.getD_eq_getElem?_getD]using this
  ·have:=hg 3;simpa [List.getD_eq_getElem?_getD]using this
  ·have:=hg 4;simpa [List.getD_eq_getElem?_getD]using this
 ·intro x hx
  simp[tup0,Tup.cols]at hx
  subst hx
  exact I64.of (by omega) (by omega)
theorem named_any(o:Tup)(w:World):Calls Tryz.prog 29 #[.agg #[.int .i64 o.a,.int .i64 o.b,.int .i64 o.c,.int .i64 o.d,.int .i64 o.e]] w fun e w'=>e=.returned (.int .i64 (nameN o:Nat))∧Below w.heap.size w w':=by
 have hr:Row (w.alloc (.cells #[.int .i64 o.a,.int .i64 o.b,.int .i64 o.c,.int .i64 o.d,.int .i64 o.e] 26)) w.heap.size 26 (tupC o):=heap_alloc_new _ _
 have HCE:Hid (∀n,n<5→(w.alloc (.cells #[.int .i64 o.a,.int .i64 o.b,.int .i64 o.c,.int .i64 o.d,.int .i64 o.e] 26)).cell? ⟨w.heap.size,n,none⟩=some (.int .i64 (colT o n))):=fun n hn=>(hr.cell n).trans (tupC_at o hn)
 have HB:Hid (Below w.heap.size w (w.alloc (.cells #[.int .i64 o.a,.int .i64 o.b,.int .i64 o.c,.int .i64 o.d,.int .i64 o.e] 26))):=(Below.refl _ _).alloc (Nat.le_refl _) _
 clear hr
 go_enter Tryz.func29,Tryz.ntmps29
 go_wp2_with fail
 generalize w.alloc (.cells #[.int .i64 o.a,.int .i64 o.b,.int .i64 o.c,.int .i64 o.d,.int .i64 o.e] 26)=W1 at*
 go_loopw [3] (fun iv wr=>∃n:Nat,n≤5∧iv=.int .i64 (n:Int)∧Hid (∀j,j<n→colT o j≠0)∧wr=W1) (fun iv _=>5-(intOf iv).toNat)
 case atStart=>exact⟨0,by omega,rfl,fun j hj=>absurd hj (by omega),rfl⟩
 case round=>
  obtain⟨n,hn,rfl,HJ,rfl⟩:=hrel
  by_cases h5:n<5
  ·have g0:decide ((n:Int)<5)=true:=by simp;omega
   have hn0:(0:Int)≤(n:Int):=by omega
   have hn1:(n:Int)<5:=by omega
   have q:=HCE.out n h5
   by_cases hz:colT o n=0
   ·have HN:Hid (nameN o=n):=nameN_at hn HJ.out (.inr hz)
    rw[hz]at q
    clear hz
    go_wp2
    go_ret
    rw[HN.out]
    exact⟨rfl,HB.out⟩
   ·have HZ:=Lib.hid hz
    obtain⟨x,hx⟩:∃x,x=colT o n:=⟨_,rfl⟩
    rw[←hx]at q hz
    clear hx
    go_wp2
    go_roundw
    case rel=>exact⟨n+1,by omega,by go_num,fun j hj=>by
     rcases Nat.lt_or_ge j n with hl|hl
     ·exact HJ.out j hl
     ·rw[show j=n by omega];exact HZ.out,by trivial⟩
    case measure=>simp[intOf];omega
  ·obtain rfl:n=5:=by omega
   have HN:Hid (nameN o=5):=nameN_at hn HJ.out (.inl rfl)
   go_wp2
   go_ret
   rw[HN.out]
   exact⟨rfl,HB.out⟩
def inW(k:Nat)(o:Tup):Prop:=∀i,i<5→-(k:Int)≤colT o i∧colT o i≤k
instance inWDec (k : Nat) (o : Tup) : Decidable (inW k o) := by unfold inW; exact inferInstance
theorem hascols_any(f0 f1 f3:Int)(k:Nat)(hk:k≤1000)(o:Tup)(w:World):Calls Tryz.prog 31 #[.agg #[.int .i64 f0,.int .i64 f1,.int .i64 k,.int .i64 f3],.agg #[.int .i64 o.a,.int .i64 o.b,.int .i64 o.c,.int .i64 o.d,.int .i64 o.e]] w fun e w'=>e=.returned (.bool (decide (inW k o)))∧Below w.heap.size w w':=by
 obtain⟨W1,hW1,b1,s1,r1,r2⟩:=boxes2 w [.int .i64 f0,.int .i64 f1,.int .i64 k,.int .i64 f3] [.int .i64 o.a,.int .i64 o.b,.int .i64 o.c,.int .i64 o.d,.int .i64 o.e] 31 26
 have HW1:=Lib.hid hW1
 have HB:=Lib.hid b1
 have HIX:Hid (∀i:Nat,i<5→∀W:World,(Instr.index 26 (.agg #[.int .i64 o.a,.int .i64 o.b,.int .i64 o.c,.int .i64 o.d,.int .i64 o.e]) (.int .i64 (i:Int))).run Tryz.prog W=.ok (.int .i64 (colT o i)) W):=fun i hi W=>index_any 26 rfl o hi W
 have d0:W1.cell? ⟨w.heap.size+1,0,none⟩=some (.int .i64 o.a):=r2.cell 0
 have d1:W1.cell? ⟨w.heap.size+1,1,none⟩=some (.int .i64 o.b):=r2.cell 1
 have d2:W1.cell? ⟨w.heap.size+1,2,none⟩=some (.int .i64 o.c):=r2.cell 2
 have d3:W1.cell? ⟨w.heap.size+1,3,none⟩=some (.int .i64 o.d):=r2.cell 3
 have d4:W1.cell? ⟨w.heap.size+1,4,none⟩=some (.int .i64 o.e):=r2.cell 4
 have c2:W1.cell? ⟨w.heap.size,2,none⟩=some (.int .i64 k):=r1.cell 2
 have HNEG:∀x:Int,x=k→-x=((-(k:Int))):=fun x hx=>by rw[hx]
 clear HNEG hW1 b1 s1 r1 r2
 go_enter Tryz.func31,Tryz.ntmps31
 go_upto_region 1 with(fail)
 rw[←HW1.out]
 clear HW1
 go_wp2_with fail
 go_loopw [8] (fun iv wr=>∃n:Nat,n≤5∧iv=.int .i64 (n:Int)∧Hid (∀i,i<n→-(k:Int)≤colT o i∧colT o i≤k)∧wr=W1) (fun iv _=>5-(intOf iv).toNat)
 case atStart=>exact⟨0,by omega,rfl,fun j hj=>absurd hj (by omega),rfl⟩
 case round=>
  obtain⟨n,hn,rfl,HJ,rfl⟩:=hrel
  by_cases h5:n<5
  ·have g0:decide ((n:Int)<5)=true:=by simp;omega
   have hn0:(0:Int)≤(n:Int):=by omega
   have hn1:(n:Int)<5:=by omega
   have hix:=HIX.out n h5
   obtain⟨x,hx⟩:∃x,x=colT o n:=⟨_,rfl⟩
   rw[←hx]at hix
   have HX:=Lib.hid hx
   obtain⟨nk,hnk⟩:∃nk:Int,nk=-(k:Int):=⟨_,rfl⟩
   have hneg:-(k:Int)=nk:=hnk.symm
   have hnb:-1000≤nk∧nk≤0:=by omega
   have HNK:=Lib.hid hnk
   clear hx hnk
   by_cases h1:x>(k:Int)
   ·have g1:decide (x>(k:Int))=true:=by simpa using h1
    have HNO:Hid (decide (inW k o)=false):=by
     unfold Hid
     refine decide_eq_false fun q=>?_
     have:=q n h5
     rw[←HX.out]at this
     omega
    go_wp2
    go_ret
    rw[HNO.out]
    exact⟨rfl,HB.out⟩
   ·have g1:decide (x>(k:Int))=false:=by simpa using h1
    by_cases h2:x<nk
    ·have g2:decide (x<nk)=true:=by simpa using h2
     have HNO:Hid (decide (inW k o)=false):=by
      unfold Hid
      refine decide_eq_false fun q=>?_
      have:=q n h5
      rw[←HX.out]at this
      have:=HNK.out
      omega
     go_wp2
     go_ret
     rw[HNO.out]
     exact⟨rfl,HB.out⟩
    ·have g2:decide (x<nk)=false:=by simpa using h2
     have HOK:Hid (-(k:Int)≤colT o n∧colT o n≤k):=by
      unfold Hid
      rw[←HX.out]
      have:=HNK.out
      omega
     go_wp2
     go_roundw
     case rel=>exact⟨n+1,by omega,by go_num,fun j hj=>by
      rcases Nat.lt_or_ge j n with hl|hl
      ·exact HJ.out j hl
      ·rw[show j=n by omega];exact HOK.out,by trivial⟩
     case measure=>simp[intOf];omega
  ·obtain rfl:n=5:=by omega
   have HYES:Hid (decide (inW k o)=true):=decide_eq_true HJ.out
   go_wp2
   go_ret
   rw[HYES.out]
   exact⟨rfl,HB.out⟩
section
variable {X : Cx} {m : Nat} {W : World}
def cutH(g:Nat)(fc:List Value)(o:Tup)(_:Nat):List Asn:=[rowO g 31 fc,rowO (g+1) 26 (tupC o)]
def cutC(o:Tup)(_:Nat)(t:Tup):Option Tup:=some (cutT o t)
theorem cut_how{pre:List Asn}{g:Nat}{fc:List Value}{o:Tup}{l:List Tup}:
  HowC X pre 33 #[.pointer (some ⟨g+1,0,none⟩)] l (cutC o) (cutH g fc o) 2 where
 ent:=fun args w=>by kernel_rfl
 len:=fun _=>rfl
 how:=fun j zz m W t ht h=>by
  obtain⟨W2,hW2⟩:∃W2,W2=(W.alloc (.cells #[.int .i64 t.a,.int .i64 t.b,.int .i64 t.c,.int .i64 t.d,.int .i64 t.e] 56)).alloc (.cells #[.int .i64 0,.int .i64 0,.int .i64 0,.int .i64 0,.int .i64 0] 56):=⟨_,rfl⟩
  have h1:=h.new ((Below.refl W.heap.size W).alloc (Nat.le_refl _) (.cells #[.int .i64 t.a,.int .i64 t.b,.int .i64 t.c,.int .i64 t.d,.int .i64 t.e] 56)) (heap_alloc_new _ _:Row _ _ 56 (tupC t)) (Nat.le_refl _)
  have h2:=h1.new ((Below.refl _ _).alloc (Nat.le_refl _) (.cells #[.int .i64 0,.int .i64 0,.int .i64 0,.int .i64 0,.int .i64 0] 56)) (heap_alloc_new _ _:Row _ _ 56 Z5) (Nat.le_refl _)
  rw[←hW2,show (W.alloc (.cells #[.int .i64 t.a,.int .i64 t.b,.int .i64 t.c,.int .i64 t.d,.int .i64 t.e] 56)).heap.size=W.heap.size+1 by simp]at h2
  obtain⟨s0,hs0⟩:∃s0,s0=W.heap.size:=⟨_,rfl⟩
  rw[←hs0]at h2
  obtain⟨A,hA⟩:∃A:List Value→World→Prop,∀c2 w,A c2 w↔Wd X (pre++cutH g fc o 0++(zz++[rowO s0 56 (tupC t),rowO (s0+1) 56 c2])) m w:=⟨_,fun _ _=>Iff.rfl⟩
  have hpl:(pre++cutH g fc o 0).length=pre.length+2:=by simp[cutH]
  have HA0:Hid (A Z5 W2):=(hA _ _).2 (by simpa [List.append_assoc,cutH]using h2)
  have HAD:Hid (∀c2 w q,A c2 w→A c2 (w.drewN q)):=fun c2 w q hq=>(hA _ _).2 (((hA _ _).1 hq).drewN q)
  have HROW:Hid (∀c2 w,A c2 w→Row w (g+1) 26 (tupC o)∧Row w s0 56 (tupC t)∧Row w (s0+1) 56 c2):=fun c2 w q=>by
   have q:=(hA _ _).1 q
   exact⟨q.row (i:=pre.length+1) (by simp[cutH]),q.row (ix_at1 hpl),q.row (ix_at2 hpl)⟩
  have HS2:Hid (∀c2 w j x,A c2 w→A (c2.set j x) (w.setCell ⟨s0+1,j,none⟩ x)):=fun c2 w j x q=>by
   have q1:=((hA _ _).1 q).store (ix_at2 hpl) (by decide) j x
   rw[ix_set2 hpl]at q1
   exact(hA _ _).2 q1
  have HEND:Hid (∀c2 w,A c2 w→Wd X (pre++cutH g fc o (j+1)++zz) m w):=fun c2 w q=>by
   have q:=(hA _ _).1 q
   rw[←List.append_assoc]at q
   have q2:=Wd.cuts (b:=[]) [rowO s0 56 (tupC t),rowO (s0+1) 56 c2] (fun y hy=>by simp at hy;rcases hy with rfl|rfl<;>exact⟨rfl,rfl⟩) (by rw[List.append_nil];exact q)
   rwa [List.append_nil]at q2
  have HAB:Hid (∀c2 w w',A c2 w→Below w.heap.size w w'→A c2 w'):=fun c2 w w' q hb=>(hA _ _).2 (((hA _ _).1 q).below hb)
  have HTC:Hid (∀w,Calls Tryz.prog 34 #[.agg #[.int .i64 t.a,.int .i64 t.b,.int .i64 t.c,.int .i64 t.d,.int .i64 t.e],.agg #[.int .i64 o.a,.int .i64 o.b,.int .i64 o.c,.int .i64 o.d,.int .i64 o.e]] w fun e w'=>e=.returned (.agg #[.int .i64 (cutT o t).a,.int .i64 (cutT o t).b,.int .i64 (cutT o t).c,.int .i64 (cutT o t).d,.int .i64 (cutT o t).e])∧Below w.heap.size w w'):=fun w=>tcut_any o t w
  obtain⟨u,hu⟩:∃u,u=cutT o t:=⟨_,rfl⟩
  have HC:Hid (cutC o j t=some u):=by unfold Hid cutC;rw[hu]
  rw[←hu]at HTC
  have HW2:=Lib.hid hW2
  replace hs0:=Lib.hid hs0
  obtain⟨p1,p4,p5⟩:=HROW.out _ _ HA0.out
  have d0:W2.cell? ⟨s0,0,none⟩=some (.int .i64 t.a):=p4.cell 0
  have d1:W2.cell? ⟨s0,1,none⟩=some (.int .i64 t.b):=p4.cell 1
  have d2:W2.cell? ⟨s0,2,none⟩=some (.int .i64 t.c):=p4.cell 2
  have d3:W2.cell? ⟨s0,3,none⟩=some (.int .i64 t.d):=p4.cell 3
  have d4:W2.cell? ⟨s0,4,none⟩=some (.int .i64 t.e):=p4.cell 4
  have q0:W2.cell? ⟨g+1,0,none⟩=some (.int .i64 o.a):=p1.cell 0
  have q1:W2.cell? ⟨g+1,1,none⟩=some (.int .i64 o.b):=p1.cell 1
  have q2:W2.cell? ⟨g+1,2,none⟩=some (.int .i64 o.c):=p1.cell 2
  have q3:W2.cell? ⟨g+1,3,none⟩=some (.int .i64 o.d):=p1.cell 3
  have q4:W2.cell? ⟨g+1,4,none⟩=some (.int .i64 o.e):=p1.cell 4
  clear h1 h2 h hpl hA hW2 ht hu p1 p4 p5
  generalize hPO:(fun(e:Ending) (w':World)=>∃t' b,e=.returned (.tuple #[tupV t',.bool b])∧cutC o j t=(if b then some t' else none)∧Wd X (pre++cutH g fc o (j+1)++zz) m w')=POST at*
  replace hPO:=Lib.hid hPO
  unfold tupV
  go_enter Tryz.func33,Tryz.ntmps33
  go_upto_region 1 with(fail)
  rw[←HW2.out,←hs0.out]
  clear HW2
  go_wp2_with fail
  refine(HTC.out _).mono ?_
  rintro e w3 ⟨rfl,hb3⟩
  have HA3:=Lib.hid (HAB.out _ _ _ HA0.out hb3)
  clear hb3 d0 d1 d2 d3 d4 q0 q1 q2 q3 q4
  obtain⟨p1,p4,p5⟩:=HROW.out _ _ HA3.out
  have z0:w3.cell? ⟨s0+1,0,none⟩=some (.int .i64 0):=p5.cell 0
  have z1:w3.cell? ⟨s0+1,1,none⟩=some (.int .i64 0):=p5.cell 1
  have z2:w3.cell? ⟨s0+1,2,none⟩=some (.int .i64 0):=p5.cell 2
  have z3:w3.cell? ⟨s0+1,3,none⟩=some (.int .i64 0):=p5.cell 3
  have z4:w3.cell? ⟨s0+1,4,none⟩=some (.int .i64 0):=p5.cell 4
  have f0:=p5.free 0
  have f1:=p5.free 1
  have f2:=p5.free 2
  have f3:=p5.free 3
  have f4:=p5.free 4
  have HA9:=Lib.hid (HS2.out _ _ 4 (.int .i64 u.e) (HS2.out _ _ 3 (.int .i64 u.d) (HS2.out _ _ 2 (.int .i64 u.c) (HS2.out _ _ 1 (.int .i64 u.b) (HS2.out _ w3 0 (.int .i64 u.a) HA3.out)))))
  have HR9:=Lib.hid (HROW.out _ _ HA9.out).2.2
  clear p1 p4 p5
  go_wp2
  have r0:=HR9.out.cell 0
  have r1:=HR9.out.cell 1
  have r2:=HR9.out.cell 2
  have r3:=HR9.out.cell 3
  have r4:=HR9.out.cell 4
  simp only[Z5,List.set_cons_zero,List.set_cons_succ,List.getElem?_cons_zero,List.getElem?_cons_succ]at r0 r1 r2 r3 r4
  refine bodyPost_ret (v:=.tuple #[tupV u,.bool true]) (by unfold tupV;simp[results,Tryz.results33,go_sem,r0,r1,r2,r3,r4]) rfl ?_
  rw[←hPO.out]
  exact⟨u,true,rfl,HC.out,HEND.out _ _ HA9.out⟩
theorem wd_cut{os:List Asn}{first nb k hh count:Nat}{l:List Tup}{o:Tup}(h:Wd X os m W)(hf:FOk first nb k hh l X.sz)(hmem:fiO first nb k hh l X.sz∈os)(hc:l.length=count)(hfm:Fm o)(hn0:nameN o≠0)(hin:inW k o)
  (hroom:2*X.sz+sumN Asn.gw os≤X.rm) (hn:X.N+m+nb+count+2≤1000000) (hwd:0<holdsI X.sz (nameN o:Nat)):
  Calls Tryz.prog 12 #[.pointer (some ⟨X.p.w,0,none⟩),.agg #[.int .i64 first,.int .i64 nb,.int .i64 k,.int .i64 count],.agg #[.int .i64 o.a,.int .i64 o.b,.int .i64 o.c,.int .i64 o.d,.int .i64 o.e]] W (OpRes X os (outL (cutC o) l count) m nb count (nameN o)):=by
 obtain⟨W3,hW3⟩:∃W3,W3=((W.alloc (.cells #[.int .i64 first,.int .i64 nb,.int .i64 k,.int .i64 count] 31)).alloc (.cells #[.int .i64 o.a,.int .i64 o.b,.int .i64 o.c,.int .i64 o.d,.int .i64 o.e] 26)).alloc (.cells #[.int .i64 0,.int .i64 0,.int .i64 0,.int .i64 0] 31):=⟨_,rfl⟩
 have h1:=h.new ((Below.refl W.heap.size W).alloc (Nat.le_refl _) (.cells #[.int .i64 first,.int .i64 nb,.int .i64 k,.int .i64 count] 31)) (heap_alloc_new _ _:Row _ _ 31 [.int .i64 first,.int .i64 nb,.int .i64 k,.int .i64 count]) (Nat.le_refl _)
 have h2:=h1.new ((Below.refl _ _).alloc (Nat.le_refl _) (.cells #[.int .i64 o.a,.int .i64 o.b,.int .i64 o.c,.int .i64 o.d,.int .i64 o.e] 26)) (heap_alloc_new _ _:Row _ _ 26 (tupC o)) (Nat.le_refl _)
 have h3:=h2.new ((Below.refl _ _).alloc (Nat.le_refl _) (.cells #[.int .i64 0,.int .i64 0,.int .i64 0,.int .i64 0] 31)) (heap_alloc_new _ _:Row _ _ 31 Z4) (Nat.le_refl _)
 rw[←hW3]at h3
 have hsz:∀(w:World) (o:Obj),(w.alloc o).heap.size=w.heap.size+1:=fun w o=>by simp
 simp only[hsz,Nat.add_assoc,Nat.reduceAdd]at h3
 obtain⟨s0,hs0⟩:∃s0,s0=W.heap.size:=⟨_,rfl⟩
 rw[←hs0]at h3
 obtain⟨fc,hfc⟩:∃fc:List Value,fc=[.int .i64 first,.int .i64 nb,.int .i64 k,.int .i64 count]:=⟨_,rfl⟩
 rw[←hfc]at h3
 have h3:Wd X (os++cutH s0 fc o 0++[rowO (s0+2) 31 Z4]) m W3:=by
  unfold cutH;simpa [List.append_assoc]using h3
 have hrow:Row W3 s0 31 [.int .i64 first,.int .i64 nb,.int .i64 k,.int .i64 count]:=by rw[←hfc];exact h3.row (i:=os.length) (by unfold cutH;simp)
 have hrow1:Row W3 (s0+1) 26 (tupC o):=h3.row (i:=os.length+1) (by unfold cutH;simp)
 have hkk:=hf.kk
 have hbare:∀i,Bare (cutH s0 fc o i):=fun i q hq=>by simp[cutH]at hq;rcases hq with rfl|rfl<;>exact⟨rfl,rfl⟩
 have hcg:=fun(w:World) (hb:Below W3.heap.size W3 w)=>wd_change (width:=nameN o) (cut_how (X:=X) (pre:=os) (g:=s0) (fc:=fc) (o:=o) (l:=l)) (h3.below hb) hf (by simp[hmem]) hc hwd (fun j t u ht hu=>by
   have hft:=hf.fit t (List.mem_of_getElem? ht)
   unfold cutC at hu
   injection hu with hu
   subst hu
   exact⟨cutT_ok hft.1,cutT_fits hfm⟩) (by rw[sumN_app,sumN_app,gw_bare _ (hbare 0),gw_bare [rowO (s0+2) 31 Z4] (fun q hq=>by simp at hq;subst hq;exact⟨rfl,rfl⟩)];omega) hn
 have HCG:=Lib.hid hcg
 have HST:Hid (∀e w',ChgRes X os [rowO (s0+2) 31 Z4] (cutH s0 fc o) (outL (cutC o) l count) m nb count (nameN o) e w'→ _):=fun e w' q=>op_states hbare q
 have HNM:Hid (∀w,Calls Tryz.prog 29 #[.agg #[.int .i64 o.a,.int .i64 o.b,.int .i64 o.c,.int .i64 o.d,.int .i64 o.e]] w fun e w'=>e=.returned (.int .i64 (nameN o:Nat))∧Below w.heap.size w w'):=fun w=>named_any o w
 have HFM:Hid (∀w,Calls Tryz.prog 30 #[.agg #[.int .i64 o.a,.int .i64 o.b,.int .i64 o.c,.int .i64 o.d,.int .i64 o.e]] w fun e w'=>e=.returned (.bool true)∧Below w.heap.size w w'):=fun w=>by
  have:=formed_any o w
  rwa [decide_eq_true hfm]at this
 have HHC:Hid (∀w,Calls Tryz.prog 31 #[.agg #[.int .i64 first,.int .i64 nb,.int .i64 k,.int .i64 count],.agg #[.int .i64 o.a,.int .i64 o.b,.int .i64 o.c,.int .i64 o.d,.int .i64 o.e]] w fun e w'=>e=.returned (.bool true)∧Below w.heap.size w w'):=fun w=>by
  have:=hascols_any first nb count k (by omega) o w
  rwa [decide_eq_true hin]at this
 have hnl:=nameN_le o
 obtain⟨nn,hnn⟩:∃nn,nn=nameN o:=⟨_,rfl⟩
 rw[←hnn]at HCG HST HNM hn0 hnl⊢
 generalize ChgRes X os [rowO (s0+2) 31 Z4] (cutH s0 fc o) (outL (cutC o) l count) m nb count nn=CRES at*
 generalize OpRes X os (outL (cutC o) l count) m nb count nn=POST at*
 have HW3:=Lib.hid hW3
 have HCE:Hid (∀w,Below W3.heap.size W3 w→(w.cell? ⟨s0,0,none⟩=some (.int .i64 first)∧w.cell? ⟨s0,1,none⟩=some (.int .i64 nb)∧w.cell? ⟨s0,2,none⟩=some (.int .i64 k)∧w.cell? ⟨s0,3,none⟩=some (.int .i64 count))∧w.cell? ⟨s0+1,0,none⟩=some (.int .i64 o.a)∧w.cell? ⟨s0+1,1,none⟩=some (.int .i64 o.b)∧w.cell? ⟨s0+1,2,none⟩=some (.int .i64 o.c)∧w.cell? ⟨s0+1,3,none⟩=some (.int .i64 o.d)∧w.cell? ⟨s0+1,4,none⟩=some (.int .i64 o.e)):=fun w hb=>by
  have q0:=hrow.below hb hrow.lt
  have q1:=hrow1.below hb hrow1.lt
  exact⟨⟨q0.cell 0,q0.cell 1,q0.cell 2,q0.cell 3⟩,q1.cell 0,q1.cell 1,q1.cell 2,q1.cell 3,q1.cell 4⟩
 obtain⟨⟨a0,a1,a2,a3⟩,b0,b1,b2,b3,b4⟩:=HCE.out W3 (Below.refl _ _)
 replace hs0:=Lib.hid hs0
 have hnz:¬(nn:Int)=0:=by omega
 clear h1 h2 h3 h hW3 hsz hrow hrow1 hcg hf hmem hc hroom hn hkk hbare hfc hwd hn0 hfm hin hnn
 go_enter Tryz.func12,Tryz.ntmps12
 go_upto_region 1 with(fail)
 rw[←HW3.out,←hs0.out]
 clear HW3
 go_wp2_with fail
 refine(HNM.out _).mono ?_
 rintro e w4 ⟨rfl,hb4⟩
 have HB4:=Lib.hid hb4
 clear hb4 a0 a1 a2 a3 b0 b1 b2 b3 b4
 obtain⟨⟨a0,a1,a2,a3⟩,b0,b1,b2,b3,b4⟩:=HCE.out w4 HB4.out
 go_wp2_with fail
 refine(HFM.out _).mono ?_
 rintro e w5 ⟨rfl,hb5⟩
 have HB5:=Lib.hid (HB4.out.trans (hb5.mono HB4.out.size))
 clear hb5 a0 a1 a2 a3 b0 b1 b2 b3 b4
 obtain⟨⟨a0,a1,a2,a3⟩,b0,b1,b2,b3,b4⟩:=HCE.out w5 HB5.out
 go_wp2_with fail
 refine(HHC.out _).mono ?_
 rintro e w6 ⟨rfl,hb6⟩
 have HB6:=Lib.hid (HB5.out.trans (hb6.mono HB5.out.size))
 clear hb6 a0 a1 a2 a3 b0 b1 b2 b3 b4
 obtain⟨⟨a0,a1,a2,a3⟩,b0,b1,b2,b3,b4⟩:=HCE.out w6 HB6.out
 have HC6:=Lib.hid (HCG.out w6 HB6.out)
 go_wp2_with fail
 refine HC6.out.mono ?_
 rintro e w7 h7
 obtain⟨C,F,N,K,L,er,rfl,hC,hCr,hCs,hCe⟩:=HST.out e w7 h7
 have HR6:=Lib.hid (hCr _ _ hC)
 have H9:=Lib.hid (hCs Z4 w7 (.int .i64 F) (.int .i64 N) (.int .i64 K) (.int .i64 L) rfl hC)
 have HR9:=Lib.hid (hCr _ _ H9.out)
 have HE:=Lib.hid (hCe _ _ H9.out)
 clear h7 hC hCr hCs hCe a0 a1 a2 a3 b0 b1 b2 b3 b4
 have z0:w7.cell? ⟨s0+2,0,none⟩=some (.int .i64 0):=HR6.out.cell 0
 have z1:w7.cell? ⟨s0+2,1,none⟩=some (.int .i64 0):=HR6.out.cell 1
 have z2:w7.cell? ⟨s0+2,2,none⟩=some (.int .i64 0):=HR6.out.cell 2
 have z3:w7.cell? ⟨s0+2,3,none⟩=some (.int .i64 0):=HR6.out.cell 3
 have f0:=HR6.out.free 0
 have f1:=HR6.out.free 1
 have f2:=HR6.out.free 2
 have f3:=HR6.out.free 3
 go_wp2
 have r0:=HR9.out.cell 0
 have r1:=HR9.out.cell 1
 have r2:=HR9.out.cell 2
 have r3:=HR9.out.cell 3
 simp only[List.getElem?_cons_zero,List.getElem?_cons_succ]at r0 r1 r2 r3
 refine bodyPost_ret (v:=.tuple #[.agg #[.int .i64 F,.int .i64 N,.int .i64 K,.int .i64 L],.int .i64 er]) (by simp[results,Tryz.results12,go_sem,r0,r1,r2,r3]) rfl ?_
 exact HE.out
end
def risC(x col:Nat)(st told:Bool)(last:Int):List Value:=[.func (.func 41) #[.pointer (some ⟨x,0,none⟩)] #[],.int .i64 col,.bool st,.bool told,.int .i64 last]
def lastC(l:List Tup)(col j:Nat):Int:=if j=0 then 0 else colT (l.getD (j-1) tup0) col
def okR(st:Bool)(l:List Tup)(col j:Nat)(x:Int):Prop:=j=0∨lastC l col j<x∨(lastC l col j=x∧st=false)
theorem lastC_succ{l:List Tup}{col j:Nat}{t:Tup}(h:l[j]?=some t):lastC l col (j+1)=colT t col:=by
 unfold lastC
 rw[if_neg (by omega),Nat.add_sub_cancel,List.getD_eq_getElem?_getD,h];rfl
structure RR where
 X:Cx
 os:List Asn
 ir:Nat
 iw:Nat
 x:Nat
 g:Nat
 col:Nat
 st:Bool
 r:Rt
 l:List Tup
def RR.Z(P:RR)(a:Asn)(told:Bool)(last:Int):List Asn:=(P.os.set P.ir a).set P.iw (rowO P.g 96 (risC P.x P.col P.st told last))
def RR.rd(P:RR)(j:Nat):Asn:=rdO P.X.p P.x (rat P.r j) P.X.sz P.l
def RR.Zj(P:RR)(j:Nat):List Asn:=P.Z (P.rd j) (decide (0<j)) (lastC P.l P.col j)
structure RR.Ok (P:RR):Prop where
 li:P.ir<P.os.length∧P.iw<P.os.length∧P.ir≠P.iw
 rd:RdF P.X P.r P.l
 col:P.col<5
 src:∀a told last zz,Src (P.Z a told last++zz) P.X.sz P.r.first P.r.k P.r.h P.l
def RR.A(P:RR)(zz:List Asn)(m j:Nat)(W:World):Prop:=Wd P.X (P.Zj j++zz) (m+blocksN P.r.h j) W
def RR.B(P:RR)(zz:List Asn)(m j:Nat)(W:World):Prop:=Wd P.X (P.Z (P.rd (j+1)) (decide (0<j)) (lastC P.l P.col j)++zz) (m+blocksN P.r.h (j+1)) W
def RR.N(P:RR)(zz:List Asn)(m j:Nat)(W:World):Prop:=Wd P.X (P.Z (rsO P.X.p P.x (rat P.r j)) (decide (0<j)) (lastC P.l P.col j)++zz) (m+blocksN P.r.h P.l.length+1) W
section
variable {P : RR} {W W' : World} {j m : Nat} {zz : List Asn} {a b : Asn} {told : Bool} {last : Int}
theorem RR.atR(hP:P.Ok):(P.Z a told last++zz)[P.ir]?=some a:=by
 obtain⟨h1,h2,h3⟩:=hP.li
 unfold RR.Z
 rw[List.getElem?_append_left (by simp;exact h1),List.getElem?_set_ne (fun e=>h3 e.symm),List.getElem?_set_self h1]
theorem RR.setR(hP:P.Ok):(P.Z a told last++zz).set P.ir b=P.Z b told last++zz:=by
 obtain⟨h1,h2,h3⟩:=hP.li
 unfold RR.Z
 rw[List.set_append_left _ _ (by simp;exact h1),List.set_comm _ _ (fun e=>h3 e.symm),List.set_set]
theorem RR.atW(hP:P.Ok):(P.Z a told last++zz)[P.iw]?=some (rowO P.g 96 (risC P.x P.col P.st told last)):=by
 obtain⟨h1,h2,h3⟩:=hP.li
 unfold RR.Z
 rw[List.getElem?_append_left (by simp;exact h2),List.getElem?_set_self (by simp;exact h2)]
theorem RR.setW(hP:P.Ok){told':Bool}{last':Int}:(P.Z a told last++zz).set P.iw (rowO P.g 96 (risC P.x P.col P.st told' last'))=P.Z a told' last'++zz:=by
 obtain⟨h1,h2,h3⟩:=hP.li
 unfold RR.Z
 rw[List.set_append_left _ _ (by simp;exact h2),List.set_set]
theorem RR.A.next(hP:P.Ok)(h:P.A zz m j W)(hj:j<P.l.length)(hn:P.X.N+m+blocksN P.r.h P.l.length+1≤1000000):
  Calls Tryz.prog 41 #[.pointer (some ⟨P.x,0,none⟩)] W fun e w'=>
   (∃t,P.l[j]?=some t∧e=.returned (.tuple #[tupV t,.bool true,.int .i64 0])∧P.B zz m j w')∨(e=.returned (.tuple #[tupV tup0,.bool false,.int .i64 6])∧¬P.X.cm∧P.N zz m j w'):=by
 refine(rd_next h (RR.atR hP) hP.rd (hP.src _ _ _ zz) hj hn).mono ?_
 rintro e w' (⟨t,ht,he,hw⟩|⟨he,hno,hw⟩)
 ·unfold RR.Zj at hw
  rw[RR.setR hP]at hw
  exact .inl ⟨t,ht,he,hw⟩
 ·unfold RR.Zj at hw
  rw[RR.setR hP]at hw
  exact .inr ⟨he,hno,hw⟩
theorem RR.A.end_(hP:P.Ok)(h:P.A zz m j W)(hj:j=P.l.length):
  Calls Tryz.prog 41 #[.pointer (some ⟨P.x,0,none⟩)] W fun e w'=>e=.returned (.tuple #[tupV tup0,.bool false,.int .i64 0])∧P.A zz m j w':=
 rd_end h (RR.atR hP) hP.rd hj
theorem RR.B.tell(hP:P.Ok)(h:P.B zz m j W){t:Tup}(ht:P.l[j]?=some t):P.A zz m (j+1) ((W.setCell ⟨P.g,3,none⟩ (.bool true)).setCell ⟨P.g,4,none⟩ (.int .i64 (colT t P.col))):=by
 have h1:=Wd.store h (RR.atW hP) (by decide) 3 (.bool true)
 have e1:(risC P.x P.col P.st (decide (0<j)) (lastC P.l P.col j)).set 3 (.bool true)=risC P.x P.col P.st true (lastC P.l P.col j):=rfl
 rw[e1,RR.setW hP]at h1
 have h2:=h1.store (RR.atW hP) (by decide) 4 (.int .i64 (colT t P.col))
 have e2:(risC P.x P.col P.st true (lastC P.l P.col j)).set 4 (.int .i64 (colT t P.col))=risC P.x P.col P.st true (colT t P.col):=rfl
 rw[e2,RR.setW hP]at h2
 unfold RR.A RR.Zj
 rw[lastC_succ ht,decide_eq_true (by omega)]
 exact h2
theorem RR.A.row(hP:P.Ok)(h:P.A zz m j W):Row W P.g 96 (risC P.x P.col P.st (decide (0<j)) (lastC P.l P.col j)):=Wd.row h (RR.atW hP)
theorem RR.B.row(hP:P.Ok)(h:P.B zz m j W):Row W P.g 96 (risC P.x P.col P.st (decide (0<j)) (lastC P.l P.col j)):=Wd.row h (RR.atW hP)
end
theorem zl_at{Y zz:List Asn}{a:Asn}{n:Nat}(hY:Y.length=n):(Y++(zz++[a]))[n+zz.length]?=some a:=by
 subst hY;rw[←List.append_assoc,←List.length_append,List.getElem?_append_right (Nat.le_refl _),Nat.sub_self];rfl
theorem zl_set{Y zz:List Asn}{a b:Asn}{n:Nat}(hY:Y.length=n):(Y++(zz++[a])).set (n+zz.length) b=Y++(zz++[b]):=by
 subst hY;rw[←List.append_assoc,←List.length_append,List.set_append_right _ _ (Nat.le_refl _),Nat.sub_self,List.append_assoc];rfl
theorem zl_cut{X:Cx}{Y zz:List Asn}{a:Asn}{M:Nat}{W:World}(ha:a.gr=none∧a.ex.2=0)(h:Wd X (Y++(zz++[a])) M W):Wd X (Y++zz) M W:=by
 rw[←List.append_assoc]at h
 exact h.drop ha.1 ha.2
theorem zl_store5{X:Cx}{Y zz:List Asn}{b n M:Nat}{cs:List Value}{W:World}(hY:Y.length=n)(hcs:cs.length=5)(h:Wd X (Y++(zz++[rowO b 56 cs])) M W)(x0 x1 x2 x3 x4:Value):
  Wd X (Y++(zz++[rowO b 56 [x0,x1,x2,x3,x4]])) M (((((W.setCell ⟨b,0,none⟩ x0).setCell ⟨b,1,none⟩ x1).setCell ⟨b,2,none⟩ x2).setCell ⟨b,3,none⟩ x3).setCell ⟨b,4,none⟩ x4):=by
 have h0:=Wd.store h (zl_at hY) (by decide) 0 x0
 rw[zl_set hY]at h0
 have h1:=h0.store (zl_at hY) (by decide) 1 x1
 rw[zl_set hY]at h1
 have h2:=h1.store (zl_at hY) (by decide) 2 x2
 rw[zl_set hY]at h2
 have h3:=h2.store (zl_at hY) (by decide) 3 x3
 rw[zl_set hY]at h3
 have h4:=h3.store (zl_at hY) (by decide) 4 x4
 rw[zl_set hY]at h4
 match cs,hcs with
 |[c0,c1,c2,c3,c4],_=>exact h4
theorem RR.zlen(P:RR)(a:Asn)(told:Bool)(last:Int):(P.Z a told last).length=P.os.length:=by simp[RR.Z]
def RR.Res(P:RR)(zz:List Asn)(m j:Nat)(e:Ending)(w':World):Prop:=
 (∃t,P.l[j]?=some t∧okR P.st P.l P.col j (colT t P.col)∧e=.returned (.tuple #[tupV t,.bool true,.int .i64 0])∧P.A zz m (j+1) w')∨
 (∃t,P.l[j]?=some t∧¬okR P.st P.l P.col j (colT t P.col)∧e=.returned (.tuple #[tupV tup0,.bool false,.int .i64 3])∧P.B zz m j w')∨
 (j=P.l.length∧e=.returned (.tuple #[tupV tup0,.bool false,.int .i64 0])∧P.A zz m j w')∨
 (e=.returned (.tuple #[tupV tup0,.bool false,.int .i64 6])∧¬P.X.cm∧P.N zz m j w')
theorem rise_next{P:RR}{W:World}{j m:Nat}{zz:List Asn}(hP:P.Ok)(h:P.A zz m j W)(hj:j≤P.l.length)(hn:P.X.N+m+blocksN P.r.h P.l.length+1≤1000000):
  Calls Tryz.prog 46 #[.pointer (some ⟨P.g,0,none⟩)] W (P.Res zz m j):=by
 obtain⟨x,hx⟩:∃x,x=P.x:=⟨_,rfl⟩
 obtain⟨g,hg⟩:∃g,g=P.g:=⟨_,rfl⟩
 obtain⟨col,hcol⟩:∃col,col=P.col:=⟨_,rfl⟩
 obtain⟨st,hst⟩:∃st,st=P.st:=⟨_,rfl⟩
 obtain⟨ls,hls⟩:∃ls,ls=lastC P.l P.col j:=⟨_,rfl⟩
 obtain⟨b2,hb2⟩:∃b2,b2=W.heap.size:=⟨_,rfl⟩
 obtain⟨W2,hW2⟩:∃W2,W2=W.alloc (.cells #[.int .i64 0,.int .i64 0,.int .i64 0,.int .i64 0,.int .i64 0] 56):=⟨_,rfl⟩
 have hc5:col<5:=by rw[hcol];exact hP.col
 have h2:=Wd.new h ((Below.refl W.heap.size W).alloc (Nat.le_refl _) (.cells #[.int .i64 0,.int .i64 0,.int .i64 0,.int .i64 0,.int .i64 0] 56)) (heap_alloc_new _ _:Row _ _ 56 Z5) (Nat.le_refl _)
 rw[←hW2,←hb2,List.append_assoc]at h2
 have HA0:Hid (P.A (zz++[rowO b2 56 Z5]) m j W2):=h2
 have HNX:Hid (∀w,j<P.l.length→P.A (zz++[rowO b2 56 Z5]) m j w→Calls Tryz.prog 41 #[.pointer (some ⟨x,0,none⟩)] w fun e w'=>
   (∃t,P.l[j]?=some t∧e=.returned (.tuple #[tupV t,.bool true,.int .i64 0])∧P.B (zz++[rowO b2 56 Z5]) m j w')∨(e=.returned (.tuple #[tupV tup0,.bool false,.int .i64 6])∧¬P.X.cm∧P.N (zz++[rowO b2 56 Z5]) m j w')):=fun w hj h=>by rw[hx];exact h.next hP hj hn
 have HND:Hid (∀w,j=P.l.length→P.A (zz++[rowO b2 56 Z5]) m j w→Calls Tryz.prog 41 #[.pointer (some ⟨x,0,none⟩)] w fun e w'=>e=.returned (.tuple #[tupV tup0,.bool false,.int .i64 0])∧P.A (zz++[rowO b2 56 Z5]) m j w'):=fun w hj h=>by rw[hx];exact h.end_ hP hj
 have HRA:Hid (∀w,P.A (zz++[rowO b2 56 Z5]) m j w→Row w g 96 [.func (.func 41) #[.pointer (some ⟨x,0,none⟩)] #[],.int .i64 col,.bool st,.bool (decide (0<j)),.int .i64 ls]∧Row w b2 56 Z5):=fun w h=>by
  rw[hg,hx,hcol,hst,hls]
  exact⟨h.row hP,Wd.row h (zl_at (RR.zlen P _ _ _))⟩
 have HRB:Hid (∀w,P.B (zz++[rowO b2 56 Z5]) m j w→Row w g 96 [.func (.func 41) #[.pointer (some ⟨x,0,none⟩)] #[],.int .i64 col,.bool st,.bool (decide (0<j)),.int .i64 ls]∧Row w b2 56 Z5):=fun w h=>by
  rw[hg,hx,hcol,hst,hls]
  exact⟨h.row hP,Wd.row h (zl_at (RR.zlen P _ _ _))⟩
 have HRN:Hid (∀w,P.N (zz++[rowO b2 56 Z5]) m j w→Row w b2 56 Z5):=fun w h=>Wd.row h (zl_at (RR.zlen P _ _ _))
 have HTL:Hid (∀w t y,P.l[j]?=some t→y=colT t col→P.B (zz++[rowO b2 56 Z5]) m j w→P.A (zz++[rowO b2 56 Z5]) m (j+1) ((w.setCell ⟨g,3,none⟩ (.bool true)).setCell ⟨g,4,none⟩ (.int .i64 y))):=fun w t y ht hy h=>by
  rw[hg,hy,hcol];exact h.tell hP ht
 have HSA:Hid (∀q w x0 x1 x2 x3 x4,P.A (zz++[rowO b2 56 Z5]) m q w→Row (((((w.setCell ⟨b2,0,none⟩ x0).setCell ⟨b2,1,none⟩ x1).setCell ⟨b2,2,none⟩ x2).setCell ⟨b2,3,none⟩ x3).setCell ⟨b2,4,none⟩ x4) b2 56 [x0,x1,x2,x3,x4]∧P.A zz m q (((((w.setCell ⟨b2,0,none⟩ x0).setCell ⟨b2,1,none⟩ x1).setCell ⟨b2,2,none⟩ x2).setCell ⟨b2,3,none⟩ x3).setCell ⟨b2,4,none⟩ x4)):=fun q w x0 x1 x2 x3 x4 h=>by
  have k:=zl_store5 (RR.zlen P _ _ _) rfl h x0 x1 x2 x3 x4
  exact⟨Wd.row k (zl_at (RR.zlen P _ _ _)),zl_cut ⟨rfl,rfl⟩ k⟩
 have HSB:Hid (∀w x0 x1 x2 x3 x4,P.B (zz++[rowO b2 56 Z5]) m j w→Row (((((w.setCell ⟨b2,0,none⟩ x0).setCell ⟨b2,1,none⟩ x1).setCell ⟨b2,2,none⟩ x2).setCell ⟨b2,3,none⟩ x3).setCell ⟨b2,4,none⟩ x4) b2 56 [x0,x1,x2,x3,x4]∧P.B zz m j (((((w.setCell ⟨b2,0,none⟩ x0).setCell ⟨b2,1,none⟩ x1).setCell ⟨b2,2,none⟩ x2).setCell ⟨b2,3,none⟩ x3).setCell ⟨b2,4,none⟩ x4)):=fun w x0 x1 x2 x3 x4 h=>by
  have k:=zl_store5 (RR.zlen P _ _ _) rfl h x0 x1 x2 x3 x4
  exact⟨Wd.row k (zl_at (RR.zlen P _ _ _)),zl_cut ⟨rfl,rfl⟩ k⟩
 have HSN:Hid (∀w x0 x1 x2 x3 x4,P.N (zz++[rowO b2 56 Z5]) m j w→Row (((((w.setCell ⟨b2,0,none⟩ x0).setCell ⟨b2,1,none⟩ x1).setCell ⟨b2,2,none⟩ x2).setCell ⟨b2,3,none⟩ x3).setCell ⟨b2,4,none⟩ x4) b2 56 [x0,x1,x2,x3,x4]∧P.N zz m j (((((w.setCell ⟨b2,0,none⟩ x0).setCell ⟨b2,1,none⟩ x1).setCell ⟨b2,2,none⟩ x2).setCell ⟨b2,3,none⟩ x3).setCell ⟨b2,4,none⟩ x4)):=fun w x0 x1 x2 x3 x4 h=>by
  have k:=zl_store5 (RR.zlen P _ _ _) rfl h x0 x1 x2 x3 x4
  exact⟨Wd.row k (zl_at (RR.zlen P _ _ _)),zl_cut ⟨rfl,rfl⟩ k⟩
 have HBA:Hid (∀q w w',P.A (zz++[rowO b2 56 Z5]) m q w→Below w.heap.size w w'→P.A (zz++[rowO b2 56 Z5]) m q w'):=fun q w w' h hb=>Wd.below h hb
 have HRQ:Hid (∀q w,P.A (zz++[rowO b2 56 Z5]) m q w→Row w b2 56 Z5):=fun q w h=>Wd.row h (zl_at (RR.zlen P _ _ _))
 have HBB:Hid (∀w w',P.B (zz++[rowO b2 56 Z5]) m j w→Below w.heap.size w w'→P.B (zz++[rowO b2 56 Z5]) m j w'):=fun w w' h hb=>Wd.below h hb
 have HBN:Hid (∀w w',P.N (zz++[rowO b2 56 Z5]) m j w→Below w.heap.size w w'→P.N (zz++[rowO b2 56 Z5]) m j w'):=fun w w' h hb=>Wd.below h hb
 have HE1:Hid (∀t w y,P.l[j]?=some t→y=colT t col→(j=0∨ls<y∨(ls=y∧st=false))→P.A zz m (j+1) w→P.Res zz m j (.returned (.tuple #[tupV t,.bool true,.int .i64 0])) w):=fun t w y k1 k2 k3 k4=>.inl ⟨t,k1,by unfold okR;rw[←hls,←hst,←hcol,←k2];exact k3,rfl,k4⟩
 have HE2:Hid (∀t w y,P.l[j]?=some t→y=colT t col→¬(j=0∨ls<y∨(ls=y∧st=false))→P.B zz m j w→P.Res zz m j (.returned (.tuple #[tupV tup0,.bool false,.int .i64 3])) w):=fun t w y k1 k2 k3 k4=>.inr (.inl ⟨t,k1,by unfold okR;rw[←hls,←hst,←hcol,←k2];exact k3,rfl,k4⟩)
 have HE3:Hid (∀w,j=P.l.length→P.A zz m j w→P.Res zz m j (.returned (.tuple #[tupV tup0,.bool false,.int .i64 0])) w):=fun w k1 k2=>.inr (.inr (.inl ⟨k1,rfl,k2⟩))
 have HE4:Hid (∀w,¬P.X.cm→P.N zz m j w→P.Res zz m j (.returned (.tuple #[tupV tup0,.bool false,.int .i64 6])) w):=fun w k1 k2=>.inr (.inr (.inr ⟨rfl,k1,k2⟩))
 have HT3:Hid (∀t,(tupC t)[col]?=some (.int .i64 (colT t col))):=fun t=>by
  rcases(show col=0∨col=1∨col=2∨col=3∨col=4 by omega)with e|e|e|e|e<;>rw[e]<;>rfl
 rw[←hg]
 generalize P.Res zz m j=POST at*
 generalize P.A (zz++[rowO b2 56 Z5]) m=A at*
 generalize P.B (zz++[rowO b2 56 Z5]) m=B at*
 generalize P.N (zz++[rowO b2 56 Z5]) m=N at*
 generalize P.A zz m=A9 at*
 generalize P.B zz m=B9 at*
 generalize P.N zz m=N9 at*
 generalize P.l=l at*
 generalize P.X.cm=cm at*
 have HW2:=Lib.hid hW2
 have HB2:=Lib.hid hb2
 have hki:(col:Int)<5:=by omega
 have hk0:(0:Int)≤(col:Int):=by omega
 clear h2 hW2 hb2 h hP hn hx hg hcol hst hls
 go_enter Tryz.func46,Tryz.ntmps46
 go_upto_region 1 with(fail)
 rw[←HW2.out,←HB2.out]
 clear HW2 HB2
 obtain⟨hr1,hr2⟩:=HRA.out _ HA0.out
 have c0:W2.cell? ⟨g,0,none⟩=some (.func (.func 41) #[.pointer (some ⟨x,0,none⟩)] #[]):=hr1.cell 0
 clear hr1 hr2
 by_cases hlt:j<l.length
 case pos=>
  have HN1:=Lib.hid (HNX.out _ hlt HA0.out)
  go_wp2_with fail
  refine HN1.out.mono ?_
  rintro e w2 (⟨t,ht,rfl,h2⟩|⟨rfl,hno,h2⟩)
  ·have HT:=Lib.hid ht
   have HB3:=Lib.hid (HBB.out w2 _ h2 ((Below.refl w2.heap.size w2).alloc (Nat.le_refl _) (.cells #[.int .i64 t.a,.int .i64 t.b,.int .i64 t.c,.int .i64 t.d,.int .i64 t.e] 56)))
   have hrt:Row (w2.alloc (.cells #[.int .i64 t.a,.int .i64 t.b,.int .i64 t.c,.int .i64 t.d,.int .i64 t.e] 56)) w2.heap.size 56 (tupC t):=heap_alloc_new _ _
   have HRT:=Lib.hid hrt
   have hgl:g<w2.heap.size:=(HRB.out _ h2).1.lt
   clear h2 hrt ht c0 HN1
   unfold tupV
   go_upto_region 4 with(fail)
   generalize w2.alloc (.cells #[.int .i64 t.a,.int .i64 t.b,.int .i64 t.c,.int .i64 t.d,.int .i64 t.e] 56)=w3 at*
   generalize w2.heap.size=bt at*
   obtain⟨y,hy⟩:∃y,y=colT t col:=⟨_,rfl⟩
   have HY:=Lib.hid hy
   have qy:w3.cell? ⟨bt,col,none⟩=some (.int .i64 y):=by rw[hy];exact(HRT.out.cell col).trans (HT3.out t)
   have d0:w3.cell? ⟨bt,0,none⟩=some (.int .i64 t.a):=HRT.out.cell 0
   have d1:w3.cell? ⟨bt,1,none⟩=some (.int .i64 t.b):=HRT.out.cell 1
   have d2:w3.cell? ⟨bt,2,none⟩=some (.int .i64 t.c):=HRT.out.cell 2
   have d3:w3.cell? ⟨bt,3,none⟩=some (.int .i64 t.d):=HRT.out.cell 3
   have d4:w3.cell? ⟨bt,4,none⟩=some (.int .i64 t.e):=HRT.out.cell 4
   obtain⟨hr1,hr2⟩:=HRB.out _ HB3.out
   have c1:w3.cell? ⟨g,1,none⟩=some (.int .i64 col):=hr1.cell 1
   have c2:w3.cell? ⟨g,2,none⟩=some (.bool st):=hr1.cell 2
   have c3:w3.cell? ⟨g,3,none⟩=some (.bool (decide (0<j))):=hr1.cell 3
   have c4:w3.cell? ⟨g,4,none⟩=some (.int .i64 ls):=hr1.cell 4
   have k3:=hr1.free 3
   have k4:=hr1.free 4
   clear hr1 hr2 hy
   have HUP:Hid ((j=0∨ls<y∨(ls=y∧st=false))→A (j+1) ((w3.setCell ⟨g,3,none⟩ (.bool true)).setCell ⟨g,4,none⟩ (.int .i64 y))∧∀w,A9 (j+1) w→POST (.returned (.tuple #[tupV t,.bool true,.int .i64 0])) w):=fun hok=>⟨HTL.out w3 t y HT.out HY.out HB3.out,fun w hw=>HE1.out t w y HT.out HY.out hok hw⟩
   have HDN:Hid (¬(j=0∨ls<y∨(ls=y∧st=false))→∀w,B9 j w→POST (.returned (.tuple #[tupV tup0,.bool false,.int .i64 3])) w):=fun hno w hw=>HE2.out t w y HT.out HY.out hno hw
   by_cases hj0:j=0
   ·have hd:decide (0<j)=false:=by simp;omega
    rw[hd]at c3
    have hok:(j=0∨ls<y∨(ls=y∧st=false)):=.inl hj0
    clear hd hj0
    obtain⟨ha4,hpost⟩:=HUP.out hok
    have HA4:=Lib.hid ha4
    have HPO:=Lib.hid hpost
    have hne:¬(bt=g):=by omega
    have hr4:Row ((w3.setCell ⟨g,3,none⟩ (.bool true)).setCell ⟨g,4,none⟩ (.int .i64 y)) bt 56 (tupC t):=(Far.one g 4 (.int .i64 y)).row ((Far.one g 3 (.bool true)).row HRT.out hne) hne
    have HR4:=Lib.hid hr4
    clear ha4 hpost hr4 hok hne d0 d1 d2 d3 d4
    go_upto_region 8 with(fail)
    generalize(w3.setCell ⟨g,3,none⟩ (.bool true)).setCell ⟨g,4,none⟩ (.int .i64 y)=w4 at*
    clear qy c1 c2 c3 c4 k3 k4
    have d0:w4.cell? ⟨bt,0,none⟩=some (.int .i64 t.a):=HR4.out.cell 0
    have d1:w4.cell? ⟨bt,1,none⟩=some (.int .i64 t.b):=HR4.out.cell 1
    have d2:w4.cell? ⟨bt,2,none⟩=some (.int .i64 t.c):=HR4.out.cell 2
    have d3:w4.cell? ⟨bt,3,none⟩=some (.int .i64 t.d):=HR4.out.cell 3
    have d4:w4.cell? ⟨bt,4,none⟩=some (.int .i64 t.e):=HR4.out.cell 4
    have HRR:=Lib.hid (HRQ.out _ _ HA4.out)
    have z0:w4.cell? ⟨b2,0,none⟩=some (.int .i64 0):=HRR.out.cell 0
    have z1:w4.cell? ⟨b2,1,none⟩=some (.int .i64 0):=HRR.out.cell 1
    have z2:w4.cell? ⟨b2,2,none⟩=some (.int .i64 0):=HRR.out.cell 2
    have z3:w4.cell? ⟨b2,3,none⟩=some (.int .i64 0):=HRR.out.cell 3
    have z4:w4.cell? ⟨b2,4,none⟩=some (.int .i64 0):=HRR.out.cell 4
    have f0:=HRR.out.free 0
    have f1:=HRR.out.free 1
    have f2:=HRR.out.free 2
    have f3:=HRR.out.free 3
    have f4:=HRR.out.free 4
    have H9:=Lib.hid (HSA.out _ w4 (.int .i64 t.a) (.int .i64 t.b) (.int .i64 t.c) (.int .i64 t.d) (.int .i64 t.e) HA4.out)
    go_wp2
    have r0:=H9.out.1.cell 0
    have r1:=H9.out.1.cell 1
    have r2:=H9.out.1.cell 2
    have r3:=H9.out.1.cell 3
    have r4:=H9.out.1.cell 4
    simp only[List.getElem?_cons_zero,List.getElem?_cons_succ]at r0 r1 r2 r3 r4
    refine bodyPost_ret (v:=.tuple #[tupV t,.bool true,.int .i64 0]) (by unfold tupV;simp[results,Tryz.results46,go_sem,r0,r1,r2,r3,r4]) rfl ?_
    exact HPO.out _ H9.out.2
   ·have hd:decide (0<j)=true:=by simp;omega
    rw[hd]at c3
    clear hd
    by_cases h1:y<ls
    ·have g1:decide (y<ls)=true:=by simpa using h1
     have hno:¬(j=0∨ls<y∨(ls=y∧st=false)):=by omega
     have HPO:=Lib.hid (HDN.out hno)
     have HRR:=Lib.hid (HRB.out _ HB3.out).2
     clear hno
     have z0:w3.cell? ⟨b2,0,none⟩=some (.int .i64 0):=HRR.out.cell 0
     have z1:w3.cell? ⟨b2,1,none⟩=some (.int .i64 0):=HRR.out.cell 1
     have z2:w3.cell? ⟨b2,2,none⟩=some (.int .i64 0):=HRR.out.cell 2
     have z3:w3.cell? ⟨b2,3,none⟩=some (.int .i64 0):=HRR.out.cell 3
     have z4:w3.cell? ⟨b2,4,none⟩=some (.int .i64 0):=HRR.out.cell 4
     have f0:=HRR.out.free 0
     have f1:=HRR.out.free 1
     have f2:=HRR.out.free 2
     have f3:=HRR.out.free 3
     have f4:=HRR.out.free 4
     have H9:=Lib.hid (HSB.out w3 (.int .i64 0) (.int .i64 0) (.int .i64 0) (.int .i64 0) (.int .i64 0) HB3.out)
     go_wp2
     have r0:=H9.out.1.cell 0
     have r1:=H9.out.1.cell 1
     have r2:=H9.out.1.cell 2
     have r3:=H9.out.1.cell 3
     have r4:=H9.out.1.cell 4
     simp only[List.getElem?_cons_zero,List.getElem?_cons_succ]at r0 r1 r2 r3 r4
     refine bodyPost_ret (v:=.tuple #[tupV tup0,.bool false,.int .i64 3]) (by unfold tupV tup0;simp[results,Tryz.results46,go_sem,r0,r1,r2,r3,r4]) rfl ?_
     exact HPO.out _ H9.out.2
    ·have g1:decide (y<ls)=false:=by simpa using h1
     by_cases h2:y=ls
     ·subst h2
      rcases st with _| _
      ·have hok:(j=0∨y<y∨(y=y∧false=false)):=.inr (.inr ⟨rfl,rfl⟩)
       obtain⟨ha4,hpost⟩:=HUP.out hok
       have HA4:=Lib.hid ha4
       have HPO:=Lib.hid hpost
       have hne:¬(bt=g):=by omega
       have hr4:Row ((w3.setCell ⟨g,3,none⟩ (.bool true)).setCell ⟨g,4,none⟩ (.int .i64 y)) bt 56 (tupC t):=(Far.one g 4 (.int .i64 y)).row ((Far.one g 3 (.bool true)).row HRT.out hne) hne
       have HR4:=Lib.hid hr4
       clear ha4 hpost hr4 hok hne d0 d1 d2 d3 d4
       go_upto_region 8 with(fail)
       generalize(w3.setCell ⟨g,3,none⟩ (.bool true)).setCell ⟨g,4,none⟩ (.int .i64 y)=w4 at*
       clear qy c1 c2 c3 c4 k3 k4
       have d0:w4.cell? ⟨bt,0,none⟩=some (.int .i64 t.a):=HR4.out.cell 0
       have d1:w4.cell? ⟨bt,1,none⟩=some (.int .i64 t.b):=HR4.out.cell 1
       have d2:w4.cell? ⟨bt,2,none⟩=some (.int .i64 t.c):=HR4.out.cell 2
       have d3:w4.cell? ⟨bt,3,none⟩=some (.int .i64 t.d):=HR4.out.cell 3
       have d4:w4.cell? ⟨bt,4,none⟩=some (.int .i64 t.e):=HR4.out.cell 4
       have HRR:=Lib.hid (HRQ.out _ _ HA4.out)
       have z0:w4.cell? ⟨b2,0,none⟩=some (.int .i64 0):=HRR.out.cell 0
       have z1:w4.cell? ⟨b2,1,none⟩=some (.int .i64 0):=HRR.out.cell 1
       have z2:w4.cell? ⟨b2,2,none⟩=some (.int .i64 0):=HRR.out.cell 2
       have z3:w4.cell? ⟨b2,3,none⟩=some (.int .i64 0):=HRR.out.cell 3
       have z4:w4.cell? ⟨b2,4,none⟩=some (.int .i64 0):=HRR.out.cell 4
       have f0:=HRR.out.free 0
       have f1:=HRR.out.free 1
       have f2:=HRR.out.free 2
       have f3:=HRR.out.free 3
       have f4:=HRR.out.free 4
       have H9:=Lib.hid (HSA.out _ w4 (.int .i64 t.a) (.int .i64 t.b) (.int .i64 t.c) (.int .i64 t.d) (.int .i64 t.e) HA4.out)
       go_wp2
       have r0:=H9.out.1.cell 0
       have r1:=H9.out.1.cell 1
       have r2:=H9.out.1.cell 2
       have r3:=H9.out.1.cell 3
       have r4:=H9.out.1.cell 4
       simp only[List.getElem?_cons_zero,List.getElem?_cons_succ]at r0 r1 r2 r3 r4
       refine bodyPost_ret (v:=.tuple #[tupV t,.bool true,.int .i64 0]) (by unfold tupV;simp[results,Tryz.results46,go_sem,r0,r1,r2,r3,r4]) rfl ?_
       exact HPO.out _ H9.out.2
      ·have hno:¬(j=0∨y<y∨(y=y∧true=false)):=by
        rintro(q|q|⟨_,q⟩)
        ·exact hj0 q
        ·omega
        ·cases q
       have HPO:=Lib.hid (HDN.out hno)
       have HRR:=Lib.hid (HRB.out _ HB3.out).2
       clear hno
       have z0:w3.cell? ⟨b2,0,none⟩=some (.int .i64 0):=HRR.out.cell 0
       have z1:w3.cell? ⟨b2,1,none⟩=some (.int .i64 0):=HRR.out.cell 1
       have z2:w3.cell? ⟨b2,2,none⟩=some (.int .i64 0):=HRR.out.cell 2
       have z3:w3.cell? ⟨b2,3,none⟩=some (.int .i64 0):=HRR.out.cell 3
       have z4:w3.cell? ⟨b2,4,none⟩=some (.int .i64 0):=HRR.out.cell 4
       have f0:=HRR.out.free 0
       have f1:=HRR.out.free 1
       have f2:=HRR.out.free 2
       have f3:=HRR.out.free 3
       have f4:=HRR.out.free 4
       have H9:=Lib.hid (HSB.out w3 (.int .i64 0) (.int .i64 0) (.int .i64 0) (.int .i64 0) (.int .i64 0) HB3.out)
       go_wp2
       have r0:=H9.out.1.cell 0
       have r1:=H9.out.1.cell 1
       have r2:=H9.out.1.cell 2
       have r3:=H9.out.1.cell 3
       have r4:=H9.out.1.cell 4
       simp only[List.getElem?_cons_zero,List.getElem?_cons_succ]at r0 r1 r2 r3 r4
       refine bodyPost_ret (v:=.tuple #[tupV tup0,.bool false,.int .i64 3]) (by unfold tupV tup0;simp[results,Tryz.results46,go_sem,r0,r1,r2,r3,r4]) rfl ?_
       exact HPO.out _ H9.out.2
     ·have hok:(j=0∨ls<y∨(ls=y∧st=false)):=.inr (.inl (by omega))
      have g2:decide (y=ls)=false:=by simpa using h2
      obtain⟨ha4,hpost⟩:=HUP.out hok
      have HA4:=Lib.hid ha4
      have HPO:=Lib.hid hpost
      have hne:¬(bt=g):=by omega
      have hr4:Row ((w3.setCell ⟨g,3,none⟩ (.bool true)).setCell ⟨g,4,none⟩ (.int .i64 y)) bt 56 (tupC t):=(Far.one g 4 (.int .i64 y)).row ((Far.one g 3 (.bool true)).row HRT.out hne) hne
      have HR4:=Lib.hid hr4
      clear ha4 hpost hr4 hok hne d0 d1 d2 d3 d4
      go_upto_region 8 with(fail)
      generalize(w3.setCell ⟨g,3,none⟩ (.bool true)).setCell ⟨g,4,none⟩ (.int .i64 y)=w4 at*
      clear qy c1 c2 c3 c4 k3 k4
      have d0:w4.cell? ⟨bt,0,none⟩=some (.int .i64 t.a):=HR4.out.cell 0
      have d1:w4.cell? ⟨bt,1,none⟩=some (.int .i64 t.b):=HR4.out.cell 1
      have d2:w4.cell? ⟨bt,2,none⟩=some (.int .i64 t.c):=HR4.out.cell 2
      have d3:w4.cell? ⟨bt,3,none⟩=some (.int .i64 t.d):=HR4.out.cell 3
      have d4:w4.cell? ⟨bt,4,none⟩=some (.int .i64 t.e):=HR4.out.cell 4
      have HRR:=Lib.hid (HRQ.out _ _ HA4.out)
      have z0:w4.cell? ⟨b2,0,none⟩=some (.int .i64 0):=HRR.out.cell 0
      have z1:w4.cell? ⟨b2,1,none⟩=some (.int .i64 0):=HRR.out.cell 1
      have z2:w4.cell? ⟨b2,2,none⟩=some (.int .i64 0):=HRR.out.cell 2
      have z3:w4.cell? ⟨b2,3,none⟩=some (.int .i64 0):=HRR.out.cell 3
      have z4:w4.cell? ⟨b2,4,none⟩=some (.int .i64 0):=HRR.out.cell 4
      have f0:=HRR.out.free 0
      have f1:=HRR.out.free 1
      have f2:=HRR.out.free 2
      have f3:=HRR.out.free 3
      have f4:=HRR.out.free 4
      have H9:=Lib.hid (HSA.out _ w4 (.int .i64 t.a) (.int .i64 t.b) (.int .i64 t.c) (.int .i64 t.d) (.int .i64 t.e) HA4.out)
      go_wp2
      have r0:=H9.out.1.cell 0
      have r1:=H9.out.1.cell 1
      have r2:=H9.out.1.cell 2
      have r3:=H9.out.1.cell 3
      have r4:=H9.out.1.cell 4
      simp only[List.getElem?_cons_zero,List.getElem?_cons_succ]at r0 r1 r2 r3 r4
      refine bodyPost_ret (v:=.tuple #[tupV t,.bool true,.int .i64 0]) (by unfold tupV;simp[results,Tryz.results46,go_sem,r0,r1,r2,r3,r4]) rfl ?_
      exact HPO.out _ H9.out.2
  ·have HNO:=Lib.hid hno
   have HN3:=Lib.hid (HBN.out w2 _ h2 ((Below.refl w2.heap.size w2).alloc (Nat.le_refl _) (.cells #[.int .i64 0,.int .i64 0,.int .i64 0,.int .i64 0,.int .i64 0] 56)))
   clear h2 hno c0 HN1
   unfold tupV tup0
   go_upto_region 2 with(fail)
   generalize w2.alloc (.cells #[.int .i64 0,.int .i64 0,.int .i64 0,.int .i64 0,.int .i64 0] 56)=w3 at*
   generalize w2.heap.size=bu at*
   have HRR:=Lib.hid (HRN.out w3 HN3.out)
   have z0:w3.cell? ⟨b2,0,none⟩=some (.int .i64 0):=HRR.out.cell 0
   have z1:w3.cell? ⟨b2,1,none⟩=some (.int .i64 0):=HRR.out.cell 1
   have z2:w3.cell? ⟨b2,2,none⟩=some (.int .i64 0):=HRR.out.cell 2
   have z3:w3.cell? ⟨b2,3,none⟩=some (.int .i64 0):=HRR.out.cell 3
   have z4:w3.cell? ⟨b2,4,none⟩=some (.int .i64 0):=HRR.out.cell 4
   have f0:=HRR.out.free 0
   have f1:=HRR.out.free 1
   have f2:=HRR.out.free 2
   have f3:=HRR.out.free 3
   have f4:=HRR.out.free 4
   have H9:=Lib.hid (HSN.out w3 (.int .i64 0) (.int .i64 0) (.int .i64 0) (.int .i64 0) (.int .i64 0) HN3.out)
   go_wp2
   have r0:=H9.out.1.cell 0
   have r1:=H9.out.1.cell 1
   have r2:=H9.out.1.cell 2
   have r3:=H9.out.1.cell 3
   have r4:=H9.out.1.cell 4
   simp only[List.getElem?_cons_zero,List.getElem?_cons_succ]at r0 r1 r2 r3 r4
   refine bodyPost_ret (v:=.tuple #[tupV tup0,.bool false,.int .i64 6]) (by unfold tupV tup0;simp[results,Tryz.results46,go_sem,r0,r1,r2,r3,r4]) rfl ?_
   exact HE4.out _ HNO.out H9.out.2
 case neg=>
  have hjl:j=l.length:=by omega
  have HN1:=Lib.hid (HND.out _ hjl HA0.out)
  have HJL:=Lib.hid hjl
  clear hjl
  go_wp2_with fail
  refine HN1.out.mono ?_
  rintro e w2 ⟨rfl,h2⟩
  have HA3:=Lib.hid (HBA.out j w2 _ h2 ((Below.refl w2.heap.size w2).alloc (Nat.le_refl _) (.cells #[.int .i64 0,.int .i64 0,.int .i64 0,.int .i64 0,.int .i64 0] 56)))
  clear h2 c0 HN1
  unfold tupV tup0
  go_upto_region 2 with(fail)
  generalize w2.alloc (.cells #[.int .i64 0,.int .i64 0,.int .i64 0,.int .i64 0,.int .i64 0] 56)=w3 at*
  generalize w2.heap.size=bu at*
  have HRR:=Lib.hid (HRQ.out j w3 HA3.out)
  have z0:w3.cell? ⟨b2,0,none⟩=some (.int .i64 0):=HRR.out.cell 0
  have z1:w3.cell? ⟨b2,1,none⟩=some (.int .i64 0):=HRR.out.cell 1
  have z2:w3.cell? ⟨b2,2,none⟩=some (.int .i64 0):=HRR.out.cell 2
  have z3:w3.cell? ⟨b2,3,none⟩=some (.int .i64 0):=HRR.out.cell 3
  have z4:w3.cell? ⟨b2,4,none⟩=some (.int .i64 0):=HRR.out.cell 4
  have f0:=HRR.out.free 0
  have f1:=HRR.out.free 1
  have f2:=HRR.out.free 2
  have f3:=HRR.out.free 3
  have f4:=HRR.out.free 4
  have H9:=Lib.hid (HSA.out j w3 (.int .i64 0) (.int .i64 0) (.int .i64 0) (.int .i64 0) (.int .i64 0) HA3.out)
  go_wp2
  have r0:=H9.out.1.cell 0
  have r1:=H9.out.1.cell 1
  have r2:=H9.out.1.cell 2
  have r3:=H9.out.1.cell 3
  have r4:=H9.out.1.cell 4
  simp only[List.getElem?_cons_zero,List.getElem?_cons_succ]at r0 r1 r2 r3 r4
  refine bodyPost_ret (v:=.tuple #[tupV tup0,.bool false,.int .i64 0]) (by unfold tupV tup0;simp[results,Tryz.results46,go_sem,r0,r1,r2,r3,r4]) rfl ?_
  exact HE3.out _ HJL.out H9.out.2
def lookV(l:List Tup)(key:Int)(value:Nat):Int:=match l.find? (fun u=>decide (key≤colT u 0))with
 |some u=>if colT u 0=key then colT u value else -1
 |none=>-1
def tAt(l:List Tup)(j:Nat):Tup:=l.getD j tup0
theorem tAt_some{l:List Tup}{j:Nat}(h:j<l.length):l[j]?=some (tAt l j):=by
 unfold tAt;rw[List.getD_eq_getElem?_getD,List.getElem?_eq_getElem h];rfl
theorem tAt_of{l:List Tup}{j:Nat}{t:Tup}(h:l[j]?=some t):tAt l j=t:=by
 unfold tAt;rw[List.getD_eq_getElem?_getD,h];rfl
theorem lastC_at{l:List Tup}{col j:Nat}(h:0<j):lastC l col j=colT (tAt l (j-1)) col:=by
 unfold lastC tAt;rw[if_neg (by omega)]
def riseB(l:List Tup)(key:Int):Prop:=∀q,0<q→q<l.length→(∀p,p<q→colT (tAt l p) 0<key)→okR true l 0 q (colT (tAt l q) 0)
structure Inv (l:List Tup) (j:Nat) (ended:Bool) (key:Int):Prop where
 le:j≤l.length
 low:∀q,q+1<j→colT (tAt l q) 0<key
 fin:ended=true→j=l.length∧∀q,q<l.length→colT (tAt l q) 0<key
 up:∀q,0<q→q<j→okR true l 0 q (colT (tAt l q) 0)
theorem Inv.mono{l:List Tup}{j:Nat}{ended:Bool}{key key':Int}(h:Inv l j ended key)(hk:key≤key'):Inv l j ended key':=
 ⟨h.le,fun q hq=>by have:=h.low q hq;omega,fun he=>⟨(h.fin he).1,fun q hq=>by have:=(h.fin he).2 q hq;omega⟩,h.up⟩
theorem Inv.start(l:List Tup)(key:Int):Inv l 0 false key:=⟨Nat.zero_le _,fun q hq=>by omega,(fun h=>by cases h),fun q h1 h2=>by omega⟩
theorem find_at{l:List Tup}{p:Tup→Bool}{n:Nat}(hn:n<l.length)(h1:p (tAt l n)=true)(h2:∀q,q<n→p (tAt l q)=false):l.find? p=some (tAt l n):=by
 induction l generalizing n with
 |nil=>simp at hn
 |cons a l ih=>
  rw[List.find?_cons]
  match n with
  |0=>
   have:p a=true:=h1
   rw[this];rfl
  |n+1=>
   have h0:p a=false:=h2 0 (by omega)
   rw[h0]
   exact ih (n:=n) (by simpa using hn) h1 fun q hq=>h2 (q+1) (by omega)
theorem find_no{l:List Tup}{p:Tup→Bool}(h:∀q,q<l.length→p (tAt l q)=false):l.find? p=none:=by
 induction l with
 |nil=>rfl
 |cons a l ih=>
  rw[List.find?_cons]
  have h0:p a=false:=h 0 (by simp)
  rw[h0]
  exact ih fun q hq=>h (q+1) (by simpa using hq)
theorem Inv.value{l:List Tup}{j value:Nat}{ended:Bool}{key:Int}(h:Inv l j ended key)(hx:ended=true∨(0<j∧key≤colT (tAt l (j-1)) 0)):
  lookV l key value=(if ended=true then -1 else if key<colT (tAt l (j-1)) 0 then -1 else colT (tAt l (j-1)) value)∧riseB l key:=by
 by_cases he:ended=true
 ·have hf:=(h.fin he)
  rw[if_pos he]
  refine⟨?_,fun q h1 h2 _=>h.up q h1 (by rw[hf.1];exact h2)⟩
  unfold lookV
  rw[find_no fun q hq=>by have:=hf.2 q hq;simp;omega]
 ·rw[if_neg he]
  rcases hx with hx|⟨h0,hx⟩
  ·exact absurd hx he
  ·have hfd:l.find? (fun u=>decide (key≤colT u 0))=some (tAt l (j-1)):=find_at (by have:=h.le;omega) (by simpa using hx) fun q hq=>by have:=h.low q (by omega);simp;omega
   refine⟨?_,fun q h1 h2 h3=>h.up q h1 ?_⟩
   ·unfold lookV
    rw[hfd]
    simp only
    split
    ·rename_i h4
     rw[if_neg (by omega)]
    ·rename_i h4
     rw[if_pos (by omega)]
   ·rcases Nat.lt_or_ge q j with h5|h5
    ·exact h5
    ·have:=h3 (j-1) (by omega);omega
def rowL(l:List Tup)(j:Nat)(ended:Bool):Tup:=if ended=true∨j=0 then tup0 else tAt l (j-1)
structure LK where
 X:Cx
 Y:List Asn
 xa:Nat
 xb:Nat
 ga:Nat
 gb:Nat
 gx:Nat
 key:Nat
 value:Nat
 to_:Nat
 ra:Rt
 rb:Rt
 la:List Tup
 lb:List Tup
def LZ(Y:List Asn)(a b ra rb lk:Asn):List Asn:=Y++[a,b,ra,rb,lk]
def lkC(ga gb key value to_:Nat)(come ended:Bool)(row:Tup):List Value:=[.func (.func 46) #[.pointer (some ⟨ga,0,none⟩)] #[],.func (.func 46) #[.pointer (some ⟨gb,0,none⟩)] #[],.int .i64 key,.int .i64 value,.int .i64 to_,.bool come,.bool ended,.int .i64 row.a,.int .i64 row.b,.int .i64 row.c,.int .i64 row.d,.int .i64 row.e]
def LK.lk(P:LK)(come ended:Bool)(row:Tup):Asn:=rowO P.gx 99 (lkC P.ga P.gb P.key P.value P.to_ come ended row)
def LK.rw(P:LK)(i:Nat):Asn:=rowO P.ga 96 (risC P.xa P.key false (decide (0<i)) (lastC P.la P.key i))
def LK.rv(P:LK)(j:Nat):Asn:=rowO P.gb 96 (risC P.xb 0 true (decide (0<j)) (lastC P.lb 0 j))
def LK.rda(P:LK)(i:Nat):Asn:=rdO P.X.p P.xa (rat P.ra i) P.X.sz P.la
def LK.rdb(P:LK)(j:Nat):Asn:=rdO P.X.p P.xb (rat P.rb j) P.X.sz P.lb
def comeB(j:Nat)(ended:Bool):Bool:=decide (0<j)||ended
def LK.Z(P:LK)(i j:Nat)(ended:Bool):List Asn:=LZ P.Y (P.rda i) (P.rdb j) (P.rw i) (P.rv j) (P.lk (comeB j ended) ended (rowL P.lb j ended))
structure LK.Ok (P:LK):Prop where
 rda:RdF P.X P.ra P.la
 rdb:RdF P.X P.rb P.lb
 key:P.key<5
 value:P.value<5
 to_:P.to_<5
 srca:∀zz,Src (P.Y++zz) P.X.sz P.ra.first P.ra.k P.ra.h P.la
 srcb:∀zz,Src (P.Y++zz) P.X.sz P.rb.first P.rb.k P.rb.h P.lb
def LK.RA(P:LK)(b rb lk:Asn):RR:=⟨P.X,LZ P.Y nilO b nilO rb lk,P.Y.length,P.Y.length+2,P.xa,P.ga,P.key,false,P.ra,P.la⟩
def LK.RB(P:LK)(a ra lk:Asn):RR:=⟨P.X,LZ P.Y a nilO ra nilO lk,P.Y.length+1,P.Y.length+3,P.xb,P.gb,0,true,P.rb,P.lb⟩
theorem LK.RA_Z(P:LK)(b rb lk a:Asn)(told:Bool)(last:Int):(P.RA b rb lk).Z a told last=LZ P.Y a b (rowO P.ga 96 (risC P.xa P.key false told last)) rb lk:=by
 simp[LK.RA,RR.Z,LZ]
theorem LK.RB_Z(P:LK)(b ra lk a:Asn)(told:Bool)(last:Int):(P.RB a ra lk).Z b told last=LZ P.Y a b ra (rowO P.gb 96 (risC P.xb 0 true told last)) lk:=by
 simp[LK.RB,RR.Z,LZ]
theorem LK.RA_ok{P:LK}(hP:P.Ok)(b rb lk:Asn):(P.RA b rb lk).Ok:=
 ⟨⟨by simp[LK.RA,LZ],by simp[LK.RA,LZ],by show P.Y.length≠P.Y.length+2;omega⟩,hP.rda,hP.key,fun a told last zz=>by rw[LK.RA_Z];unfold LZ;rw[List.append_assoc];exact hP.srca _⟩
theorem LK.RB_ok{P:LK}(hP:P.Ok)(a ra lk:Asn):(P.RB a ra lk).Ok:=
 ⟨⟨by simp[LK.RB,LZ],by simp[LK.RB,LZ],by show P.Y.length+1≠P.Y.length+3;omega⟩,hP.rdb,by show 0<5;omega,fun b told last zz=>by rw[LK.RB_Z];unfold LZ;rw[List.append_assoc];exact hP.srcb _⟩
section
variable {P : LK} {W W' : World} {i j m : Nat} {zz : List Asn} {ended come : Bool} {row : Tup}
def LK.S(P:LK)(zz:List Asn)(m i j:Nat)(come ended:Bool)(row:Tup)(W:World):Prop:=Wd P.X (LZ P.Y (P.rda i) (P.rdb j) (P.rw i) (P.rv j) (P.lk come ended row)++zz) (m+blocksN P.rb.h j) W
def LK.E(P:LK)(zz:List Asn)(m:Nat)(W:World):Prop:=∃a b ra rb lk,RdE P.X P.xa P.ra P.la a∧RdE P.X P.xb P.rb P.lb b∧(∀q∈[ra,rb,lk],q.gr=none∧q.ex.2=0)∧Wd P.X (LZ P.Y a b ra rb lk++zz) m W
theorem LK.S.row_(h:P.S zz m i j come ended row W):Row W P.gx 99 (lkC P.ga P.gb P.key P.value P.to_ come ended row):=Wd.row h (i:=P.Y.length+4) (by unfold LZ;rw[List.getElem?_append_left (by simp)];simp;rfl)
theorem LK.S.below(h:P.S zz m i j come ended row W)(hb:Below W.heap.size W W'):P.S zz m i j come ended row W':=Wd.below h hb
theorem LK.S.known(hP:P.Ok)(h:P.S zz m i j come ended row W)(hj:j≤P.lb.length)(hn:P.X.N+m+blocksN P.rb.h P.lb.length+1≤1000000):
  Calls Tryz.prog 46 #[.pointer (some ⟨P.gb,0,none⟩)] W fun e w'=>
   (j<P.lb.length∧okR true P.lb 0 j (colT (tAt P.lb j) 0)∧e=.returned (.tuple #[tupV (tAt P.lb j),.bool true,.int .i64 0])∧P.S zz m i (j+1) come ended row w')∨
   (j=P.lb.length∧e=.returned (.tuple #[tupV tup0,.bool false,.int .i64 0])∧P.S zz m i j come ended row w')∨
   (∃er:Nat,e=.returned (.tuple #[tupV tup0,.bool false,.int .i64 er])∧0<er∧((er=3∧j<P.lb.length∧¬okR true P.lb 0 j (colT (tAt P.lb j) 0))∨er=6∧¬P.X.cm)∧P.E zz (m+blocksN P.rb.h P.lb.length+1) w'):=by
 have hb1:∀q,q≤P.lb.length→blocksN P.rb.h q≤blocksN P.rb.h P.lb.length:=fun q hq=>blocks_mono hP.rdb.ok.h.1 hq
 have h0:(P.RB (P.rda i) (P.rw i) (P.lk come ended row)).A zz m j W:=by
  unfold RR.A RR.Zj
  rw[LK.RB_Z]
  exact h
 have hrb:∀(a ra lk:Asn),ra.gr=none∧ra.ex.2=0→lk.gr=none∧lk.ex.2=0→∀(cs:List Value),∀q∈[ra,rowO P.gb 96 cs,lk],q.gr=none∧q.ex.2=0:=fun a ra lk h1 h2 cs q hq=>by
  simp at hq
  rcases hq with rfl|rfl|rfl
  ·exact h1
  ·exact⟨rfl,rfl⟩
  ·exact h2
 refine(rise_next (LK.RB_ok hP _ _ _) h0 hj hn).mono ?_
 rintro e w' (⟨t,ht,hok,he,hw⟩|⟨t,ht,hok,he,hw⟩|⟨hjl,he,hw⟩|⟨he,hno,hw⟩)
 ·have hjl:j<P.lb.length:=by
   rcases Nat.lt_or_ge j P.lb.length with hl|hl
   ·exact hl
   ·have ht:P.lb[j]?=some t:=ht
    rw[List.getElem?_eq_none hl]at ht;cases ht
  have e1:tAt P.lb j=t:=tAt_of ht
  rw[e1]
  unfold RR.A RR.Zj at hw
  rw[LK.RB_Z]at hw
  exact .inl ⟨hjl,hok,he,hw⟩
 ·have hjl:j<P.lb.length:=by
   rcases Nat.lt_or_ge j P.lb.length with hl|hl
   ·exact hl
   ·have ht:P.lb[j]?=some t:=ht
    rw[List.getElem?_eq_none hl]at ht;cases ht
  have e1:tAt P.lb j=t:=tAt_of ht
  rw[e1]
  unfold RR.B at hw
  rw[LK.RB_Z]at hw
  have hw:Wd P.X (LZ P.Y (P.rda i) (P.rdb (j+1)) (P.rw i) (rowO P.gb 96 (risC P.xb 0 true (decide (0<j)) (lastC P.lb 0 j))) (P.lk come ended row)++zz) (m+blocksN P.rb.h (j+1)) w':=hw
  exact .inr (.inr ⟨3,he,by omega,.inl ⟨rfl,hjl,hok⟩,_,_,_,_,_,⟨_,.inl rfl⟩,⟨_,.inl rfl⟩,hrb (P.rda i) _ _ ⟨rfl,rfl⟩ ⟨rfl,rfl⟩ _,hw.mono (by have:=hb1 (j+1) (by omega);omega) (by omega)⟩)
 ·unfold RR.A RR.Zj at hw
  rw[LK.RB_Z]at hw
  exact .inr (.inl ⟨hjl,he,hw⟩)
 ·unfold RR.N at hw
  rw[LK.RB_Z]at hw
  exact .inr (.inr ⟨6,he,by omega,.inr ⟨rfl,hno⟩,_,_,_,_,_,⟨_,.inl rfl⟩,⟨_,.inr rfl⟩,hrb (P.rda i) _ _ ⟨rfl,rfl⟩ ⟨rfl,rfl⟩ _,hw⟩)
theorem LK.S.note(h:P.S zz m i j come ended row W)(r:Tup)(c e:Bool):P.S zz m i j c e r (((((((W.setCell ⟨P.gx,7,none⟩ (.int .i64 r.a)).setCell ⟨P.gx,8,none⟩ (.int .i64 r.b)).setCell ⟨P.gx,9,none⟩ (.int .i64 r.c)).setCell ⟨P.gx,10,none⟩ (.int .i64 r.d)).setCell ⟨P.gx,11,none⟩ (.int .i64 r.e)).setCell ⟨P.gx,5,none⟩ (.bool c)).setCell ⟨P.gx,6,none⟩ (.bool e)):=by
 have hat:∀cs,(LZ P.Y (P.rda i) (P.rdb j) (P.rw i) (P.rv j) (rowO P.gx 99 cs)++zz)[P.Y.length+4]?=some (rowO P.gx 99 cs):=fun cs=>by unfold LZ;rw[List.getElem?_append_left (by simp)];simp
 have hset:∀cs cs',(LZ P.Y (P.rda i) (P.rdb j) (P.rw i) (P.rv j) (rowO P.gx 99 cs)++zz).set (P.Y.length+4) (rowO P.gx 99 cs')=LZ P.Y (P.rda i) (P.rdb j) (P.rw i) (P.rv j) (rowO P.gx 99 cs')++zz:=fun cs cs'=>by
  unfold LZ;rw[List.set_append_left _ _ (by simp),List.set_append_right _ _ (by omega),Nat.add_sub_cancel_left];rfl
 have h1:=Wd.store h (hat _) (by decide) 7 (.int .i64 r.a)
 rw[LK.lk,hset]at h1
 have h2:=h1.store (hat _) (by decide) 8 (.int .i64 r.b)
 rw[hset]at h2
 have h3:=h2.store (hat _) (by decide) 9 (.int .i64 r.c)
 rw[hset]at h3
 have h4:=h3.store (hat _) (by decide) 10 (.int .i64 r.d)
 rw[hset]at h4
 have h5:=h4.store (hat _) (by decide) 11 (.int .i64 r.e)
 rw[hset]at h5
 have h6:=h5.store (hat _) (by decide) 5 (.bool c)
 rw[hset]at h6
 have h7:=h6.store (hat _) (by decide) 6 (.bool e)
 rw[hset]at h7
 exact h7
end
def LK.FRes(P:LK)(zz:List Asn)(m i:Nat)(key:Int)(e:Ending)(w':World):Prop:=
 (∃j ended,Inv P.lb j ended key∧riseB P.lb key∧e=.returned (.tuple #[.int .i64 (lookV P.lb key P.value),.int .i64 0])∧P.S zz m i j (comeB j ended) ended (rowL P.lb j ended) w')∨
 (∃er:Nat,e=.returned (.tuple #[.int .i64 0,.int .i64 er])∧0<er∧((er=3∧¬riseB P.lb key)∨er=6∧¬P.X.cm)∧P.E zz (m+blocksN P.rb.h P.lb.length+1) w')
theorem rowL_end{l:List Tup}{j:Nat}:rowL l j true=tup0:=by unfold rowL;rw[if_pos (.inl rfl)]
theorem rowL_at{l:List Tup}{j:Nat}(h:0<j):rowL l j false=tAt l (j-1):=by unfold rowL;rw[if_neg (by simp;omega)]
theorem find_any{P:LK}{W:World}{i j m:Nat}{key:Int}{zz:List Asn}{ended:Bool}(hP:P.Ok)(hI:Inv P.lb j ended key)(h:P.S zz m i j (comeB j ended) ended (rowL P.lb j ended) W)(hn:P.X.N+m+blocksN P.rb.h P.lb.length+1≤1000000):
  Calls Tryz.prog 69 #[.pointer (some ⟨P.gx,0,none⟩),.int .i64 key] W (P.FRes zz m i key):=by
 obtain⟨gx,hgx⟩:∃gx,gx=P.gx:=⟨_,rfl⟩
 obtain⟨gb,hgb⟩:∃gb,gb=P.gb:=⟨_,rfl⟩
 obtain⟨ga,hga⟩:∃ga,ga=P.ga:=⟨_,rfl⟩
 obtain⟨kc,hkc⟩:∃kc,kc=P.key:=⟨_,rfl⟩
 obtain⟨vc,hvc⟩:∃vc,vc=P.value:=⟨_,rfl⟩
 obtain⟨tc,htc⟩:∃tc,tc=P.to_:=⟨_,rfl⟩
 have hv5:vc<5:=by rw[hvc];exact hP.value
 have HROW:Hid (∀j come ended row w,P.S zz m i j come ended row w→Row w gx 99 (lkC ga gb kc vc tc come ended row)):=fun j come ended row w q=>by rw[hgx,hga,hgb,hkc,hvc,htc];exact q.row_
 have HB:Hid (∀j come ended row w w',P.S zz m i j come ended row w→Below w.heap.size w w'→P.S zz m i j come ended row w'):=fun j come ended row w w' q hb=>q.below hb
 have HEB:Hid (∀M w w',P.E zz M w→Below w.heap.size w w'→P.E zz M w'):=fun M w w' ⟨a,b,ra,rb,lk,k1,k2,k3,k4⟩ hb=>⟨a,b,ra,rb,lk,k1,k2,k3,k4.below hb⟩
 have HKN:Hid (∀j come ended row w,j≤P.lb.length→P.S zz m i j come ended row w→Calls Tryz.prog 46 #[.pointer (some ⟨gb,0,none⟩)] w fun e w'=>
   (j<P.lb.length∧okR true P.lb 0 j (colT (tAt P.lb j) 0)∧e=.returned (.tuple #[tupV (tAt P.lb j),.bool true,.int .i64 0])∧P.S zz m i (j+1) come ended row w')∨
   (j=P.lb.length∧e=.returned (.tuple #[tupV tup0,.bool false,.int .i64 0])∧P.S zz m i j come ended row w')∨
   (∃er:Nat,e=.returned (.tuple #[tupV tup0,.bool false,.int .i64 er])∧0<er∧((er=3∧j<P.lb.length∧¬okR true P.lb 0 j (colT (tAt P.lb j) 0))∨er=6∧¬P.X.cm)∧P.E zz (m+blocksN P.rb.h P.lb.length+1) w')):=fun j come ended row w hj q=>by rw[hgb];exact q.known hP hj hn
 have HNT:Hid (∀j come ended row w,P.S zz m i j come ended row w→∀(r:Tup) (c e:Bool),P.S zz m i j c e r (((((((w.setCell ⟨gx,7,none⟩ (.int .i64 r.a)).setCell ⟨gx,8,none⟩ (.int .i64 r.b)).setCell ⟨gx,9,none⟩ (.int .i64 r.c)).setCell ⟨gx,10,none⟩ (.int .i64 r.d)).setCell ⟨gx,11,none⟩ (.int .i64 r.e)).setCell ⟨gx,5,none⟩ (.bool c)).setCell ⟨gx,6,none⟩ (.bool e))):=fun j come ended row w q r c e=>by rw[hgx];exact q.note r c e
 have HE1:Hid (∀j ended w v,Inv P.lb j ended key→(ended=true∨(0<j∧key≤colT (tAt P.lb (j-1)) 0))→v=(if ended=true then -1 else if key<colT (tAt P.lb (j-1)) 0 then -1 else colT (tAt P.lb (j-1)) vc)→P.S zz m i j (comeB j ended) ended (rowL P.lb j ended) w→P.FRes zz m i key (.returned (.tuple #[.int .i64 v,.int .i64 0])) w):=fun j ended w v k1 k2 k3 k4=>by
  obtain⟨k5,k6⟩:=k1.value (value:=vc) k2
  exact .inl ⟨j,ended,k1,k6,by rw[k3,←k5,hvc],k4⟩
 have HE2:Hid (∀(er j:Nat) w,0<er→Inv P.lb j false key→(j=0∨colT (tAt P.lb (j-1)) 0<key)→((er=3∧j<P.lb.length∧¬okR true P.lb 0 j (colT (tAt P.lb j) 0))∨er=6∧¬P.X.cm)→P.E zz (m+blocksN P.rb.h P.lb.length+1) w→P.FRes zz m i key (.returned (.tuple #[.int .i64 0,.int .i64 er])) w):=fun er j w k1 k2 k3 k4 k5=>by
  refine .inr ⟨er,rfl,k1,?_,k5⟩
  rcases k4 with⟨q1,q2,q3⟩|q
  ·refine .inl ⟨q1,fun hr=>q3 ?_⟩
   rcases Nat.eq_zero_or_pos j with h0|h0
   ·exact .inl h0
   ·refine hr j h0 q2 fun p hp=>?_
    rcases Nat.lt_or_ge (p+1) j with h1|h1
    ·exact k2.low p h1
    ·rcases k3 with k3|k3
     ·omega
     ·rw[show p=j-1 by omega];exact k3
  ·exact .inr q
 have HUP:Hid (∀j,Inv P.lb j false key→j<P.lb.length→(j=0∨colT (tAt P.lb (j-1)) 0<key)→okR true P.lb 0 j (colT (tAt P.lb j) 0)→Inv P.lb (j+1) false key∧rowL P.lb (j+1) false=tAt P.lb j∧comeB (j+1) false=true):=fun j k1 k2 k3 k4=>by
  refine⟨⟨k2,fun q hq=>?_,(fun he=>by cases he),fun q h1 h2=>?_⟩,by rw[rowL_at (by omega),Nat.add_sub_cancel],by simp[comeB]⟩
  ·rcases Nat.lt_or_ge (q+1) j with h1|h1
   ·exact k1.low q h1
   ·rcases k3 with k3|k3
    ·omega
    ·rw[show q=j-1 by omega];exact k3
  ·rcases Nat.lt_or_ge q j with h3|h3
   ·exact k1.up q h1 h3
   ·rw[show q=j by omega];exact k4
 have HEND:Hid (∀j,Inv P.lb j false key→j=P.lb.length→(j=0∨colT (tAt P.lb (j-1)) 0<key)→Inv P.lb j true key∧rowL P.lb j true=tup0∧comeB j true=true):=fun j k1 k2 k3=>by
  refine⟨⟨k1.le,k1.low,fun _=>⟨k2,fun q hq=>?_⟩,k1.up⟩,rowL_end,by simp[comeB]⟩
  rcases Nat.lt_or_ge (q+1) j with h1|h1
  ·exact k1.low q h1
  ·rcases k3 with k3|k3
   ·omega
   ·rw[show q=j-1 by omega];exact k3
 obtain⟨n,hln⟩:∃n,n=P.lb.length:=⟨_,rfl⟩
 obtain⟨J,hJ⟩:∃J:Nat→World→Prop,∀q w,J q w↔∃j ended,Inv P.lb j ended key∧q=2*(n-j)+(if ended=true then 0 else 1)∧P.S zz m i j (comeB j ended) ended (rowL P.lb j ended) w:=⟨_,fun _ _=>Iff.rfl⟩
 have HJD:=Lib.hid hJ
 have HJ0:Hid (J (2*(n-j)+(if ended=true then 0 else 1)) W):=(hJ _ _).2 ⟨j,ended,hI,rfl,h⟩
 have HLE:Hid (∀j ended,Inv P.lb j ended key→j≤n):=fun j ended q=>by rw[hln];exact q.le
 rw[←hln]at HKN HE2 HUP HEND
 rw[←hgx]
 have hvi:(vc:Int)<5:=by omega
 have hv0:(0:Int)≤(vc:Int):=by omega
 generalize P.FRes zz m i key=POST at*
 generalize P.S zz m i=S at*
 generalize P.E zz=E at*
 generalize P.lb=lb at*
 generalize P.X.cm=cm at*
 generalize m+blocksN P.rb.h n+1=M at*
 clear hJ h hI hP hn hgx hgb hga hkc hvc htc hln
 go_enter Tryz.func69,Tryz.ntmps69
 go_wp2_with fail
 go_loopw [4,5] (fun _ _ wr=>∃q:Nat,Hid (J q wr)) (fun _ _ wr=>leastN fun q=>J q wr)
 case atStart=>exact⟨_,HJ0⟩
 case round=>
  obtain⟨q,hq⟩:=hrel
  obtain⟨j,ended,hI,hqe,hS⟩:=(HJD.out _ _).1 (least_of (P:=fun q=>J q wr) hq.out).1
  have HI:=Lib.hid hI
  have HQE:=Lib.hid hqe
  have HS:=Lib.hid hS
  clear hq hI hqe hS HJ0
  have hr:=HROW.out _ _ _ _ _ HS.out
  have c1:wr.cell? ⟨gx,1,none⟩=some (.func (.func 46) #[.pointer (some ⟨gb,0,none⟩)] #[]):=hr.cell 1
  have c3:wr.cell? ⟨gx,3,none⟩=some (.int .i64 vc):=hr.cell 3
  have c5:wr.cell? ⟨gx,5,none⟩=some (.bool (comeB j ended)):=hr.cell 5
  have c6:wr.cell? ⟨gx,6,none⟩=some (.bool ended):=hr.cell 6
  have c7:wr.cell? ⟨gx,7,none⟩=some (.int .i64 (rowL lb j ended).a):=hr.cell 7
  have HCV:Hid (wr.cell? ⟨gx,7+vc,none⟩=some (.int .i64 (colT (rowL lb j ended) vc))∧wr.drew.cell? ⟨gx,7+vc,none⟩=some (.int .i64 (colT (rowL lb j ended) vc))∧wr.drew.cell? ⟨gx,3,none⟩=some (.int .i64 vc)):=by
   have e:∀r:Tup,(lkC ga gb kc vc tc (comeB j ended) ended r)[7+vc]?=some (.int .i64 (colT r vc)):=fun r=>by
    rcases(show vc=0∨vc=1∨vc=2∨vc=3∨vc=4 by omega)with e|e|e|e|e<;>rw[e]<;>rfl
   exact⟨(hr.cell _).trans (e _),(hr.cell _).trans (e _),hr.cell 3⟩
  clear hr
  rcases ended with _| _
  ·rcases Nat.eq_zero_or_pos j with h0|h0
   ·have hc:j=0∨colT (tAt lb (j-1)) 0<key:=.inl h0
    have hcm:comeB j false=false:=by rw[h0];rfl
    rw[hcm]at c5
    clear hcm h0
    have HC:=Lib.hid hc
    clear hc
    have HK:=Lib.hid (HKN.out j _ _ _ wr (HLE.out _ _ HI.out) HS.out)
    clear HCV
    go_wp2_with fail
    refine HK.out.mono ?_
    rintro e w2 (⟨hlt,hok,rfl,h2⟩|⟨hje,rfl,h2⟩|⟨er,rfl,hpos,hwhy,h2⟩)
    ·obtain⟨hI2,hrow2,hcom2⟩:=HUP.out j HI.out hlt HC.out hok
     have HI2:=Lib.hid hI2
     have HROW2:=Lib.hid hrow2
     have HCOM2:=Lib.hid hcom2
     have HLT:=Lib.hid hlt
     obtain⟨t,ht⟩:∃t,t=tAt lb j:=⟨_,rfl⟩
     rw[←ht]at HROW2⊢
     have HB3:=Lib.hid (HB.out _ _ _ _ w2 _ h2 ((Below.refl w2.heap.size w2).alloc (Nat.le_refl _) (.cells #[.int .i64 t.a,.int .i64 t.b,.int .i64 t.c,.int .i64 t.d,.int .i64 t.e] 56)))
     have hrt:Row (w2.alloc (.cells #[.int .i64 t.a,.int .i64 t.b,.int .i64 t.c,.int .i64 t.d,.int .i64 t.e] 56)) w2.heap.size 56 (tupC t):=heap_alloc_new _ _
     have HRT:=Lib.hid hrt
     clear h2 hrt ht hI2 hrow2 hcom2 hlt hok c1 c3 c5 c6 c7 HK
     unfold tupV
     go_upto_region 5 with(fail)
     generalize w2.alloc (.cells #[.int .i64 t.a,.int .i64 t.b,.int .i64 t.c,.int .i64 t.d,.int .i64 t.e] 56)=w3 at*
     generalize w2.heap.size=bt at*
     have hr3:=HROW.out _ _ _ _ _ HB3.out
     have d0:w3.cell? ⟨bt,0,none⟩=some (.int .i64 t.a):=HRT.out.cell 0
     have d1:w3.cell? ⟨bt,1,none⟩=some (.int .i64 t.b):=HRT.out.cell 1
     have d2:w3.cell? ⟨bt,2,none⟩=some (.int .i64 t.c):=HRT.out.cell 2
     have d3:w3.cell? ⟨bt,3,none⟩=some (.int .i64 t.d):=HRT.out.cell 3
     have d4:w3.cell? ⟨bt,4,none⟩=some (.int .i64 t.e):=HRT.out.cell 4
     have k5:w3.cell? ⟨gx,5,none⟩=some (.bool (comeB j false)):=hr3.cell 5
     have k6:w3.cell? ⟨gx,6,none⟩=some (.bool false):=hr3.cell 6
     have k7:w3.cell? ⟨gx,7,none⟩=some (.int .i64 (rowL lb j false).a):=hr3.cell 7
     have k8:w3.cell? ⟨gx,8,none⟩=some (.int .i64 (rowL lb j false).b):=hr3.cell 8
     have k9:w3.cell? ⟨gx,9,none⟩=some (.int .i64 (rowL lb j false).c):=hr3.cell 9
     have k10:w3.cell? ⟨gx,10,none⟩=some (.int .i64 (rowL lb j false).d):=hr3.cell 10
     have k11:w3.cell? ⟨gx,11,none⟩=some (.int .i64 (rowL lb j false).e):=hr3.cell 11
     have f5:=hr3.free 5
     have f6:=hr3.free 6
     have f7:=hr3.free 7
     have f8:=hr3.free 8
     have f9:=hr3.free 9
     have f10:=hr3.free 10
     have f11:=hr3.free 11
     clear hr3
     have H9:=Lib.hid (HNT.out _ _ _ _ w3 HB3.out t true false)
     go_wp2
     have HJ9:Hid (J (2*(n-(j+1))+1) (((((((w3.setCell ⟨gx,7,none⟩ (.int .i64 t.a)).setCell ⟨gx,8,none⟩ (.int .i64 t.b)).setCell ⟨gx,9,none⟩ (.int .i64 t.c)).setCell ⟨gx,10,none⟩ (.int .i64 t.d)).setCell ⟨gx,11,none⟩ (.int .i64 t.e)).setCell ⟨gx,5,none⟩ (.bool true)).setCell ⟨gx,6,none⟩ (.bool false))):=(HJD.out _ _).2 ⟨j+1,false,HI2.out,rfl,by rw[HCOM2.out,HROW2.out];exact H9.out⟩
     go_roundw
     case rel=>exact⟨_,HJ9⟩
     case measure=>
      refine Nat.lt_of_le_of_lt (least_of (P:=fun q=>J q _) HJ9.out).2 ?_
      have:=HQE.out
      have:=HLT.out
      simp at this⊢
      omega
    ·obtain⟨hI2,hrow2,hcom2⟩:=HEND.out j HI.out hje HC.out
     have HI2:=Lib.hid hI2
     have HROW2:=Lib.hid hrow2
     have HCOM2:=Lib.hid hcom2
     have HJE:=Lib.hid hje
     obtain⟨t,ht⟩:∃t,t=tup0:=⟨_,rfl⟩
     rw[←ht]at HROW2⊢
     have HB3:=Lib.hid (HB.out _ _ _ _ w2 _ h2 ((Below.refl w2.heap.size w2).alloc (Nat.le_refl _) (.cells #[.int .i64 t.a,.int .i64 t.b,.int .i64 t.c,.int .i64 t.d,.int .i64 t.e] 56)))
     have hrt:Row (w2.alloc (.cells #[.int .i64 t.a,.int .i64 t.b,.int .i64 t.c,.int .i64 t.d,.int .i64 t.e] 56)) w2.heap.size 56 (tupC t):=heap_alloc_new _ _
     have HRT:=Lib.hid hrt
     clear h2 hrt ht hI2 hrow2 hcom2 hje c1 c3 c5 c6 c7 HK
     unfold tupV
     go_upto_region 5 with(fail)
     generalize w2.alloc (.cells #[.int .i64 t.a,.int .i64 t.b,.int .i64 t.c,.int .i64 t.d,.int .i64 t.e] 56)=w3 at*
     generalize w2.heap.size=bt at*
     have hr3:=HROW.out _ _ _ _ _ HB3.out
     have d0:w3.cell? ⟨bt,0,none⟩=some (.int .i64 t.a):=HRT.out.cell 0
     have d1:w3.cell? ⟨bt,1,none⟩=some (.int .i64 t.b):=HRT.out.cell 1
     have d2:w3.cell? ⟨bt,2,none⟩=some (.int .i64 t.c):=HRT.out.cell 2
     have d3:w3.cell? ⟨bt,3,none⟩=some (.int .i64 t.d):=HRT.out.cell 3
     have d4:w3.cell? ⟨bt,4,none⟩=some (.int .i64 t.e):=HRT.out.cell 4
     have k5:w3.cell? ⟨gx,5,none⟩=some (.bool (comeB j false)):=hr3.cell 5
     have k6:w3.cell? ⟨gx,6,none⟩=some (.bool false):=hr3.cell 6
     have k7:w3.cell? ⟨gx,7,none⟩=some (.int .i64 (rowL lb j false).a):=hr3.cell 7
     have k8:w3.cell? ⟨gx,8,none⟩=some (.int .i64 (rowL lb j false).b):=hr3.cell 8
     have k9:w3.cell? ⟨gx,9,none⟩=some (.int .i64 (rowL lb j false).c):=hr3.cell 9
     have k10:w3.cell? ⟨gx,10,none⟩=some (.int .i64 (rowL lb j false).d):=hr3.cell 10
     have k11:w3.cell? ⟨gx,11,none⟩=some (.int .i64 (rowL lb j false).e):=hr3.cell 11
     have f5:=hr3.free 5
     have f6:=hr3.free 6
     have f7:=hr3.free 7
     have f8:=hr3.free 8
     have f9:=hr3.free 9
     have f10:=hr3.free 10
     have f11:=hr3.free 11
     clear hr3
     have H9:=Lib.hid (HNT.out _ _ _ _ w3 HB3.out t true true)
     go_wp2
     have HJ9:Hid (J (2*(n-j)+0) (((((((w3.setCell ⟨gx,7,none⟩ (.int .i64 t.a)).setCell ⟨gx,8,none⟩ (.int .i64 t.b)).setCell ⟨gx,9,none⟩ (.int .i64 t.c)).setCell ⟨gx,10,none⟩ (.int .i64 t.d)).setCell ⟨gx,11,none⟩ (.int .i64 t.e)).setCell ⟨gx,5,none⟩ (.bool true)).setCell ⟨gx,6,none⟩ (.bool true))):=(HJD.out _ _).2 ⟨j,true,HI2.out,rfl,by rw[HCOM2.out,HROW2.out];exact H9.out⟩
     go_roundw
     case rel=>exact⟨_,HJ9⟩
     case measure=>
      refine Nat.lt_of_le_of_lt (least_of (P:=fun q=>J q _) HJ9.out).2 ?_
      have:=HQE.out
      simp at this⊢
      omega
    ·have HPOS:=Lib.hid hpos
     have HF:=Lib.hid (HE2.out er j w2 hpos HI.out HC.out hwhy h2)
     have hne:¬(er:Int)=0:=by omega
     have HBE:Hid (∀o,E M (w2.alloc o)):=fun o=>HEB.out _ _ _ h2 ((Below.refl _ _).alloc (Nat.le_refl _) o)
     have HF2:Hid (∀o,POST (.returned (.tuple #[.int .i64 0,.int .i64 er])) (w2.alloc o)):=fun o=>HE2.out er j _ hpos HI.out HC.out hwhy (HBE.out o)
     clear h2 hwhy hpos c1 c3 c5 c6 c7 HK
     unfold tupV tup0
     go_wp2
     exact HF2.out _
   ·have hcm:comeB j false=true:=by unfold comeB;simp;omega
    have hrl:rowL lb j false=tAt lb (j-1):=rowL_at h0
    rw[hcm]at c5
    rw[hrl]at c7 HCV
    obtain⟨x,hx⟩:∃x,x=(tAt lb (j-1)).a:=⟨_,rfl⟩
    rw[←hx]at c7
    have HX:Hid (colT (tAt lb (j-1)) 0=x):=by unfold Hid;rw[hx];rfl
    have HH0:=Lib.hid h0
    clear hcm hx h0 hrl
    by_cases h1:x<key
    ·have g1:decide (x<key)=true:=by simpa using h1
     have hc:j=0∨colT (tAt lb (j-1)) 0<key:=.inr (by rw[HX.out];exact h1)
     have HC:=Lib.hid hc
     clear hc
     have HK:=Lib.hid (HKN.out j _ _ _ wr (HLE.out _ _ HI.out) HS.out)
     clear HCV
     go_wp2_with fail
     refine HK.out.mono ?_
     rintro e w2 (⟨hlt,hok,rfl,h2⟩|⟨hje,rfl,h2⟩|⟨er,rfl,hpos,hwhy,h2⟩)
     ·obtain⟨hI2,hrow2,hcom2⟩:=HUP.out j HI.out hlt HC.out hok
      have HI2:=Lib.hid hI2
      have HROW2:=Lib.hid hrow2
      have HCOM2:=Lib.hid hcom2
      have HLT:=Lib.hid hlt
      obtain⟨t,ht⟩:∃t,t=tAt lb j:=⟨_,rfl⟩
      rw[←ht]at HROW2⊢
      have HB3:=Lib.hid (HB.out _ _ _ _ w2 _ h2 ((Below.refl w2.heap.size w2).alloc (Nat.le_refl _) (.cells #[.int .i64 t.a,.int .i64 t.b,.int .i64 t.c,.int .i64 t.d,.int .i64 t.e] 56)))
      have hrt:Row (w2.alloc (.cells #[.int .i64 t.a,.int .i64 t.b,.int .i64 t.c,.int .i64 t.d,.int .i64 t.e] 56)) w2.heap.size 56 (tupC t):=heap_alloc_new _ _
      have HRT:=Lib.hid hrt
      clear h2 hrt ht hI2 hrow2 hcom2 hlt hok c1 c3 c5 c6 c7 HK
      unfold tupV
      go_upto_region 5 with(fail)
      generalize w2.alloc (.cells #[.int .i64 t.a,.int .i64 t.b,.int .i64 t.c,.int .i64 t.d,.int .i64 t.e] 56)=w3 at*
      generalize w2.heap.size=bt at*
      have hr3:=HROW.out _ _ _ _ _ HB3.out
      have d0:w3.cell? ⟨bt,0,none⟩=some (.int .i64 t.a):=HRT.out.cell 0
      have d1:w3.cell? ⟨bt,1,none⟩=some (.int .i64 t.b):=HRT.out.cell 1
      have d2:w3.cell? ⟨bt,2,none⟩=some (.int .i64 t.c):=HRT.out.cell 2
      have d3:w3.cell? ⟨bt,3,none⟩=some (.int .i64 t.d):=HRT.out.cell 3
      have d4:w3.cell? ⟨bt,4,none⟩=some (.int .i64 t.e):=HRT.out.cell 4
      have k5:w3.cell? ⟨gx,5,none⟩=some (.bool (comeB j false)):=hr3.cell 5
      have k6:w3.cell? ⟨gx,6,none⟩=some (.bool false):=hr3.cell 6
      have k7:w3.cell? ⟨gx,7,none⟩=some (.int .i64 (rowL lb j false).a):=hr3.cell 7
      have k8:w3.cell? ⟨gx,8,none⟩=some (.int .i64 (rowL lb j false).b):=hr3.cell 8
      have k9:w3.cell? ⟨gx,9,none⟩=some (.int .i64 (rowL lb j false).c):=hr3.cell 9
      have k10:w3.cell? ⟨gx,10,none⟩=some (.int .i64 (rowL lb j false).d):=hr3.cell 10
      have k11:w3.cell? ⟨gx,11,none⟩=some (.int .i64 (rowL lb j false).e):=hr3.cell 11
      have f5:=hr3.free 5
      have f6:=hr3.free 6
      have f7:=hr3.free 7
      have f8:=hr3.free 8
      have f9:=hr3.free 9
      have f10:=hr3.free 10
      have f11:=hr3.free 11
      clear hr3
      have H9:=Lib.hid (HNT.out _ _ _ _ w3 HB3.out t true false)
      go_wp2
      have HJ9:Hid (J (2*(n-(j+1))+1) (((((((w3.setCell ⟨gx,7,none⟩ (.int .i64 t.a)).setCell ⟨gx,8,none⟩ (.int .i64 t.b)).setCell ⟨gx,9,none⟩ (.int .i64 t.c)).setCell ⟨gx,10,none⟩ (.int .i64 t.d)).setCell ⟨gx,11,none⟩ (.int .i64 t.e)).setCell ⟨gx,5,none⟩ (.bool true)).setCell ⟨gx,6,none⟩ (.bool false))):=(HJD.out _ _).2 ⟨j+1,false,HI2.out,rfl,by rw[HCOM2.out,HROW2.out];exact H9.out⟩
      go_roundw
      case rel=>exact⟨_,HJ9⟩
      case measure=>
       refine Nat.lt_of_le_of_lt (least_of (P:=fun q=>J q _) HJ9.out).2 ?_
       have:=HQE.out
       have:=HLT.out
       simp at this⊢
       omega
     ·obtain⟨hI2,hrow2,hcom2⟩:=HEND.out j HI.out hje HC.out
      have HI2:=Lib.hid hI2
      have HROW2:=Lib.hid hrow2
      have HCOM2:=Lib.hid hcom2
      have HJE:=Lib.hid hje
      obtain⟨t,ht⟩:∃t,t=tup0:=⟨_,rfl⟩
      rw[←ht]at HROW2⊢
      have HB3:=Lib.hid (HB.out _ _ _ _ w2 _ h2 ((Below.refl w2.heap.size w2).alloc (Nat.le_refl _) (.cells #[.int .i64 t.a,.int .i64 t.b,.int .i64 t.c,.int .i64 t.d,.int .i64 t.e] 56)))
      have hrt:Row (w2.alloc (.cells #[.int .i64 t.a,.int .i64 t.b,.int .i64 t.c,.int .i64 t.d,.int .i64 t.e] 56)) w2.heap.size 56 (tupC t):=heap_alloc_new _ _
      have HRT:=Lib.hid hrt
      clear h2 hrt ht hI2 hrow2 hcom2 hje c1 c3 c5 c6 c7 HK
      unfold tupV
      go_upto_region 5 with(fail)
      generalize w2.alloc (.cells #[.int .i64 t.a,.int .i64 t.b,.int .i64 t.c,.int .i64 t.d,.int .i64 t.e] 56)=w3 at*
      generalize w2.heap.size=bt at*
      have hr3:=HROW.out _ _ _ _ _ HB3.out
      have d0:w3.cell? ⟨bt,0,none⟩=some (.int .i64 t.a):=HRT.out.cell 0
      have d1:w3.cell? ⟨bt,1,none⟩=some (.int .i64 t.b):=HRT.out.cell 1
      have d2:w3.cell? ⟨bt,2,none⟩=some (.int .i64 t.c):=HRT.out.cell 2
      have d3:w3.cell? ⟨bt,3,none⟩=some (.int .i64 t.d):=HRT.out.cell 3
      have d4:w3.cell? ⟨bt,4,none⟩=some (.int .i64 t.e):=HRT.out.cell 4
      have k5:w3.cell? ⟨gx,5,none⟩=some (.bool (comeB j false)):=hr3.cell 5
      have k6:w3.cell? ⟨gx,6,none⟩=some (.bool false):=hr3.cell 6
      have k7:w3.cell? ⟨gx,7,none⟩=some (.int .i64 (rowL lb j false).a):=hr3.cell 7
      have k8:w3.cell? ⟨gx,8,none⟩=some (.int .i64 (rowL lb j false).b):=hr3.cell 8
      have k9:w3.cell? ⟨gx,9,none⟩=some (.int .i64 (rowL lb j false).c):=hr3.cell 9
      have k10:w3.cell? ⟨gx,10,none⟩=some (.int .i64 (rowL lb j false).d):=hr3.cell 10
      have k11:w3.cell? ⟨gx,11,none⟩=some (.int .i64 (rowL lb j false).e):=hr3.cell 11
      have f5:=hr3.free 5
      have f6:=hr3.free 6
      have f7:=hr3.free 7
      have f8:=hr3.free 8
      have f9:=hr3.free 9
      have f10:=hr3.free 10
      have f11:=hr3.free 11
      clear hr3
      have H9:=Lib.hid (HNT.out _ _ _ _ w3 HB3.out t true true)
      go_wp2
      have HJ9:Hid (J (2*(n-j)+0) (((((((w3.setCell ⟨gx,7,none⟩ (.int .i64 t.a)).setCell ⟨gx,8,none⟩ (.int .i64 t.b)).setCell ⟨gx,9,none⟩ (.int .i64 t.c)).setCell ⟨gx,10,none⟩ (.int .i64 t.d)).setCell ⟨gx,11,none⟩ (.int .i64 t.e)).setCell ⟨gx,5,none⟩ (.bool true)).setCell ⟨gx,6,none⟩ (.bool true))):=(HJD.out _ _).2 ⟨j,true,HI2.out,rfl,by rw[HCOM2.out,HROW2.out];exact H9.out⟩
      go_roundw
      case rel=>exact⟨_,HJ9⟩
      case measure=>
       refine Nat.lt_of_le_of_lt (least_of (P:=fun q=>J q _) HJ9.out).2 ?_
       have:=HQE.out
       simp at this⊢
       omega
     ·have HPOS:=Lib.hid hpos
      have HF:=Lib.hid (HE2.out er j w2 hpos HI.out HC.out hwhy h2)
      have hne:¬(er:Int)=0:=by omega
      have HBE:Hid (∀o,E M (w2.alloc o)):=fun o=>HEB.out _ _ _ h2 ((Below.refl _ _).alloc (Nat.le_refl _) o)
      have HF2:Hid (∀o,POST (.returned (.tuple #[.int .i64 0,.int .i64 er])) (w2.alloc o)):=fun o=>HE2.out er j _ hpos HI.out HC.out hwhy (HBE.out o)
      clear h2 hwhy hpos c1 c3 c5 c6 c7 HK
      unfold tupV tup0
      go_wp2
      exact HF2.out _
    ·have g1:decide (x<key)=false:=by simpa using h1
     by_cases h2:x>key
     ·have g2:decide (x>key)=true:=by simpa using h2
      have HF:=Lib.hid (HE1.out j false wr (-1) HI.out (.inr ⟨HH0.out,by rw[HX.out];omega⟩) (by rw[if_neg (by simp),if_pos (by rw[HX.out];omega)]) HS.out)
      go_wp2
      exact HF.out
     ·have g2:decide (x>key)=false:=by simpa using h2
      obtain⟨v,hv⟩:∃v,v=colT (tAt lb (j-1)) vc:=⟨_,rfl⟩
      rw[←hv]at HCV
      have HF:=Lib.hid (HE1.out j false wr.drew v HI.out (.inr ⟨HH0.out,by rw[HX.out];omega⟩) (by rw[if_neg (by simp),if_neg (by rw[HX.out];omega),hv]) (HB.out _ _ _ _ wr _ HS.out (below_drewN (Below.refl _ _) 1)))
      obtain⟨v1,v2,v3⟩:=HCV.out
      clear hv
      go_wp2
      go_region
      go_wp2
      exact HF.out
  ·have HF:=Lib.hid (HE1.out j true wr (-1) HI.out (.inl rfl) (by rw[if_pos rfl]) HS.out)
   go_wp2
   exact HF.out
def LK.Good(P:LK):Prop:=(∀q,0<q→q<P.la.length→okR false P.la P.key q (colT (tAt P.la q) P.key))∧∀q,q<P.la.length→riseB P.lb (colT (tAt P.la q) P.key)
structure LK.St (P:LK) (i j:Nat) (ended:Bool):Prop where
 le:i≤P.la.length
 up:∀q,0<q→q<i→okR false P.la P.key q (colT (tAt P.la q) P.key)
 inv:(i=0∧j=0∧ended=false)∨(0<i∧Inv P.lb j ended (colT (tAt P.la (i-1)) P.key))
 riz:∀q,q<i→riseB P.lb (colT (tAt P.la q) P.key)
theorem LK.St.find{P:LK}{i j:Nat}{ended:Bool}(h:P.St i j ended)(hok:okR false P.la P.key i (colT (tAt P.la i) P.key)):Inv P.lb j ended (colT (tAt P.la i) P.key):=by
 rcases h.inv with⟨h1,h2,h3⟩|⟨h1,h2⟩
 ·subst h2;subst h3;exact Inv.start _ _
 ·refine h2.mono ?_
  rw[←lastC_at h1]
  rcases hok with q|q|q
  ·omega
  ·omega
  ·exact Int.le_of_eq q.1
theorem LK.St.next{P:LK}{i j j':Nat}{ended ended':Bool}(h:P.St i j ended)(hi:i<P.la.length)(hok:okR false P.la P.key i (colT (tAt P.la i) P.key))(hI:Inv P.lb j' ended' (colT (tAt P.la i) P.key))(hr:riseB P.lb (colT (tAt P.la i) P.key)):P.St (i+1) j' ended':=
 ⟨hi,fun q h1 h2=>by
  rcases Nat.lt_or_ge q i with h3|h3
  ·exact h.up q h1 h3
  ·rw[show q=i by omega];exact hok,.inr ⟨by omega,by rw[Nat.add_sub_cancel];exact hI⟩,fun q h1=>by
  rcases Nat.lt_or_ge q i with h3|h3
  ·exact h.riz q h3
  ·rw[show q=i by omega];exact hr⟩
def LK.T(P:LK)(zz:List Asn)(m i j:Nat)(come ended:Bool)(row:Tup)(W:World):Prop:=P.S zz (m+blocksN P.ra.h i) i j come ended row W
section
variable {P : LK} {W W' : World} {i j m : Nat} {zz : List Asn} {ended come : Bool} {row : Tup}
theorem LK.T.ask(hP:P.Ok)(h:P.T zz m i j come ended row W)(hi:i≤P.la.length)(hj:j≤P.lb.length)(hn:P.X.N+m+blocksN P.ra.h P.la.length+blocksN P.rb.h P.lb.length+1≤1000000):
  Calls Tryz.prog 46 #[.pointer (some ⟨P.ga,0,none⟩)] W fun e w'=>
   (i<P.la.length∧okR false P.la P.key i (colT (tAt P.la i) P.key)∧e=.returned (.tuple #[tupV (tAt P.la i),.bool true,.int .i64 0])∧P.T zz m (i+1) j come ended row w')∨
   (i=P.la.length∧e=.returned (.tuple #[tupV tup0,.bool false,.int .i64 0])∧P.T zz m i j come ended row w')∨
   (∃er:Nat,e=.returned (.tuple #[tupV tup0,.bool false,.int .i64 er])∧0<er∧((er=3∧i<P.la.length∧¬okR false P.la P.key i (colT (tAt P.la i) P.key))∨er=6∧¬P.X.cm)∧P.E zz (m+blocksN P.ra.h P.la.length+blocksN P.rb.h P.lb.length+1) w'):=by
 have hb1:∀q,q≤P.la.length→blocksN P.ra.h q≤blocksN P.ra.h P.la.length:=fun q hq=>blocks_mono hP.rda.ok.h.1 hq
 have hb2:blocksN P.rb.h j≤blocksN P.rb.h P.lb.length:=blocks_mono hP.rdb.ok.h.1 hj
 have h0:(P.RA (P.rdb j) (P.rv j) (P.lk come ended row)).A zz (m+blocksN P.rb.h j) i W:=by
  unfold RR.A RR.Zj
  rw[LK.RA_Z]
  unfold LK.T LK.S at h
  show Wd P.X _ (m+blocksN P.rb.h j+blocksN P.ra.h i) W
  rw[Nat.add_right_comm]
  exact h
 have hrb:∀(b rb lk:Asn),rb.gr=none∧rb.ex.2=0→lk.gr=none∧lk.ex.2=0→∀(cs:List Value),∀q∈[rowO P.ga 96 cs,rb,lk],q.gr=none∧q.ex.2=0:=fun b rb lk h1 h2 cs q hq=>by
  simp at hq
  rcases hq with rfl|rfl|rfl
  ·exact⟨rfl,rfl⟩
  ·exact h1
  ·exact h2
 refine(rise_next (LK.RA_ok hP _ _ _) h0 hi (by show P.X.N+(m+blocksN P.rb.h j)+blocksN P.ra.h P.la.length+1≤1000000;omega)).mono ?_
 rintro e w' (⟨t,ht,hok,he,hw⟩|⟨t,ht,hok,he,hw⟩|⟨hjl,he,hw⟩|⟨he,hno,hw⟩)
 ·have hjl:i<P.la.length:=by
   rcases Nat.lt_or_ge i P.la.length with hl|hl
   ·exact hl
   ·have ht:P.la[i]?=some t:=ht
    rw[List.getElem?_eq_none hl]at ht;cases ht
  have e1:tAt P.la i=t:=tAt_of ht
  rw[e1]
  unfold RR.A RR.Zj at hw
  rw[LK.RA_Z]at hw
  have hw:Wd P.X (LZ P.Y (P.rda (i+1)) (P.rdb j) (P.rw (i+1)) (P.rv j) (P.lk come ended row)++zz) (m+blocksN P.rb.h j+blocksN P.ra.h (i+1)) w':=hw
  rw[Nat.add_right_comm]at hw
  exact .inl ⟨hjl,hok,he,hw⟩
 ·have hjl:i<P.la.length:=by
   rcases Nat.lt_or_ge i P.la.length with hl|hl
   ·exact hl
   ·have ht:P.la[i]?=some t:=ht
    rw[List.getElem?_eq_none hl]at ht;cases ht
  have e1:tAt P.la i=t:=tAt_of ht
  rw[e1]
  unfold RR.B at hw
  rw[LK.RA_Z]at hw
  have hw:Wd P.X (LZ P.Y (P.rda (i+1)) (P.rdb j) (rowO P.ga 96 (risC P.xa P.key false (decide (0<i)) (lastC P.la P.key i))) (P.rv j) (P.lk come ended row)++zz) (m+blocksN P.rb.h j+blocksN P.ra.h (i+1)) w':=hw
  exact .inr (.inr ⟨3,he,by omega,.inl ⟨rfl,hjl,hok⟩,_,_,_,_,_,⟨_,.inl rfl⟩,⟨_,.inl rfl⟩,hrb (P.rdb j) _ _ ⟨rfl,rfl⟩ ⟨rfl,rfl⟩ _,hw.mono (by have:=hb1 (i+1) (by omega);omega) (by omega)⟩)
 ·unfold RR.A RR.Zj at hw
  rw[LK.RA_Z]at hw
  have hw:Wd P.X (LZ P.Y (P.rda i) (P.rdb j) (P.rw i) (P.rv j) (P.lk come ended row)++zz) (m+blocksN P.rb.h j+blocksN P.ra.h i) w':=hw
  rw[Nat.add_right_comm]at hw
  exact .inr (.inl ⟨hjl,he,hw⟩)
 ·unfold RR.N at hw
  rw[LK.RA_Z]at hw
  have hw:Wd P.X (LZ P.Y (rsO P.X.p P.xa (rat P.ra i)) (P.rdb j) (rowO P.ga 96 (risC P.xa P.key false (decide (0<i)) (lastC P.la P.key i))) (P.rv j) (P.lk come ended row)++zz) (m+blocksN P.rb.h j+blocksN P.ra.h P.la.length+1) w':=hw
  exact .inr (.inr ⟨6,he,by omega,.inr ⟨rfl,hno⟩,_,_,_,_,_,⟨_,.inr rfl⟩,⟨_,.inl rfl⟩,hrb (P.rdb j) _ _ ⟨rfl,rfl⟩ ⟨rfl,rfl⟩ _,hw.mono (by omega) (by omega)⟩)
end
theorem mz_at{Y zz tl:List Asn}{a:Asn}{n:Nat}(hY:Y.length=n):(Y++(zz++a::tl))[n+zz.length]?=some a:=by
 subst hY;rw[←List.append_assoc,←List.length_append,List.getElem?_append_right (Nat.le_refl _),Nat.sub_self];rfl
theorem mz_set{Y zz tl:List Asn}{a b:Asn}{n:Nat}(hY:Y.length=n):(Y++(zz++a::tl)).set (n+zz.length) b=Y++(zz++b::tl):=by
 subst hY;rw[←List.append_assoc,←List.length_append,List.set_append_right _ _ (Nat.le_refl _),Nat.sub_self,List.append_assoc];rfl
theorem mz_store5{X:Cx}{Y zz tl:List Asn}{b2 n M:Nat}{cs:List Value}{w:World}(hY:Y.length=n)(hcs:cs.length=5)(h:Wd X (Y++(zz++rowO b2 56 cs::tl)) M w)(x0 x1 x2 x3 x4:Value):
  Wd X (Y++(zz++rowO b2 56 [x0,x1,x2,x3,x4]::tl)) M (((((w.setCell ⟨b2,0,none⟩ x0).setCell ⟨b2,1,none⟩ x1).setCell ⟨b2,2,none⟩ x2).setCell ⟨b2,3,none⟩ x3).setCell ⟨b2,4,none⟩ x4):=by
 have h0:=Wd.store h (mz_at hY) (by decide) 0 x0
 rw[mz_set hY]at h0
 have h1:=h0.store (mz_at hY) (by decide) 1 x1
 rw[mz_set hY]at h1
 have h2:=h1.store (mz_at hY) (by decide) 2 x2
 rw[mz_set hY]at h2
 have h3:=h2.store (mz_at hY) (by decide) 3 x3
 rw[mz_set hY]at h3
 have h4:=h3.store (mz_at hY) (by decide) 4 x4
 rw[mz_set hY]at h4
 match cs,hcs with
 |[c0,c1,c2,c3,c4],_=>exact h4
theorem mz_cut{X:Cx}{Y zz tl:List Asn}{M:Nat}{w:World}(ht:Bare tl)(h:Wd X (Y++(zz++tl)) M w):Wd X (Y++zz) M w:=by
 have h1:Wd X (Y++zz++tl++[]) M w:=by simpa [List.append_assoc]using h
 have h2:=Wd.cuts tl ht h1
 rwa [List.append_nil]at h2
theorem LZ_len(Y:List Asn)(a b ra rb lk:Asn):(LZ Y a b ra rb lk).length=Y.length+5:=by simp[LZ]
def LK.NRes(P:LK)(zz:List Asn)(m i j:Nat)(ended:Bool)(e:Ending)(w':World):Prop:=
 (∃j' ended',i<P.la.length∧P.St (i+1) j' ended'∧e=.returned (.tuple #[tupV (setT (tAt P.la i) P.to_ (lookV P.lb (colT (tAt P.la i) P.key) P.value)),.bool true,.int .i64 0])∧P.T zz m (i+1) j' (comeB j' ended') ended' (rowL P.lb j' ended') w')∨
 (i=P.la.length∧e=.returned (.tuple #[tupV tup0,.bool false,.int .i64 0])∧P.T zz m i j (comeB j ended) ended (rowL P.lb j ended) w')∨
 (∃er:Nat,e=.returned (.tuple #[tupV tup0,.bool false,.int .i64 er])∧0<er∧((er=3∧¬P.Good)∨er=6∧¬P.X.cm)∧P.E zz (m+blocksN P.ra.h P.la.length+blocksN P.rb.h P.lb.length+1) w')
theorem look_next{P:LK}{W:World}{i j m:Nat}{zz:List Asn}{ended:Bool}(hP:P.Ok)(hS:P.St i j ended)(h:P.T zz m i j (comeB j ended) ended (rowL P.lb j ended) W)(hn:P.X.N+m+blocksN P.ra.h P.la.length+blocksN P.rb.h P.lb.length+1≤1000000):
  Calls Tryz.prog 48 #[.pointer (some ⟨P.gx,0,none⟩)] W (P.NRes zz m i j ended):=by
 have hj:j≤P.lb.length:=by
  rcases hS.inv with⟨_,q,_⟩|⟨_,q⟩
  ·omega
  ·exact q.le
 have hmono:∀q,q≤P.la.length→blocksN P.ra.h q≤blocksN P.ra.h P.la.length:=fun q hq=>blocks_mono hP.rda.ok.h.1 hq
 obtain⟨gx,hgx⟩:∃gx,gx=P.gx:=⟨_,rfl⟩
 obtain⟨ga,hga⟩:∃ga,ga=P.ga:=⟨_,rfl⟩
 obtain⟨kc,hkc⟩:∃kc,kc=P.key:=⟨_,rfl⟩
 obtain⟨tc,htc⟩:∃tc,tc=P.to_:=⟨_,rfl⟩
 have hk5:kc<5:=by rw[hkc];exact hP.key
 have ht5:tc<5:=by rw[htc];exact hP.to_
 obtain⟨b2,hb2⟩:∃b2,b2=W.heap.size:=⟨_,rfl⟩
 obtain⟨W2,hW2⟩:∃W2,W2=W.alloc (.cells #[.int .i64 0,.int .i64 0,.int .i64 0,.int .i64 0,.int .i64 0] 56):=⟨_,rfl⟩
 have h2:=Wd.new h ((Below.refl W.heap.size W).alloc (Nat.le_refl _) (.cells #[.int .i64 0,.int .i64 0,.int .i64 0,.int .i64 0,.int .i64 0] 56)) (heap_alloc_new _ _:Row _ _ 56 Z5) (Nat.le_refl _)
 rw[←hW2,←hb2,List.append_assoc]at h2
 obtain⟨M,hM⟩:∃M,M=m+blocksN P.ra.h P.la.length+blocksN P.rb.h P.lb.length+1:=⟨_,rfl⟩
 obtain⟨A,hA⟩:∃A:List Value→World→Prop,∀c2 w,A c2 w↔P.T (zz++[rowO b2 56 c2]) m i j (comeB j ended) ended (rowL P.lb j ended) w:=⟨_,fun _ _=>Iff.rfl⟩
 obtain⟨B,hB⟩:∃B:World→Prop,∀w,B w↔P.T (zz++[rowO b2 56 Z5]) m (i+1) j (comeB j ended) ended (rowL P.lb j ended) w:=⟨_,fun _=>Iff.rfl⟩
 obtain⟨C,hC⟩:∃C:Nat→Tup→World→Prop,∀bt t w,C bt t w↔P.T (zz++[rowO b2 56 Z5,rowO bt 56 (tupC t)]) m (i+1) j (comeB j ended) ended (rowL P.lb j ended) w:=⟨_,fun _ _ _=>Iff.rfl⟩
 obtain⟨D,hD⟩:∃D:Nat→Bool→Nat→List Value→Tup→World→Prop,∀j' ended' bt c2 t w,D j' ended' bt c2 t w↔P.T (zz++[rowO b2 56 c2,rowO bt 56 (tupC t)]) m (i+1) j' (comeB j' ended') ended' (rowL P.lb j' ended') w:=⟨_,fun _ _ _ _ _ _=>Iff.rfl⟩
 obtain⟨E,hE⟩:∃E:List Value→World→Prop,∀c2 w,E c2 w↔∃tl,Bare tl∧P.E (zz++rowO b2 56 c2::tl) M w:=⟨_,fun _ _=>Iff.rfl⟩
 have HA0:Hid (A Z5 W2):=(hA _ _).2 h2
 have HAB:Hid (∀c2 w w',A c2 w→Below w.heap.size w w'→A c2 w'):=fun c2 w w' q hb=>(hA _ _).2 (((hA _ _).1 q).below hb)
 have HAR:Hid (∀c2 w,A c2 w→Row w b2 56 c2):=fun c2 w q=>Wd.row ((hA _ _).1 q) (mz_at (LZ_len _ _ _ _ _ _))
 have HAX:Hid (∀c2 w,A c2 w→w.cell? ⟨gx,0,none⟩=some (.func (.func 46) #[.pointer (some ⟨ga,0,none⟩)] #[])):=fun c2 w q=>by
  rw[hgx,hga];exact(((hA _ _).1 q).row_).cell 0
 have HBN:Hid (∀w t,B w→C w.heap.size t (w.alloc (.cells #[.int .i64 t.a,.int .i64 t.b,.int .i64 t.c,.int .i64 t.d,.int .i64 t.e] 56))∧Row (w.alloc (.cells #[.int .i64 t.a,.int .i64 t.b,.int .i64 t.c,.int .i64 t.d,.int .i64 t.e] 56)) w.heap.size 56 (tupC t)):=fun w t q=>by
  have q2:=Wd.new ((hB _).1 q) ((Below.refl w.heap.size w).alloc (Nat.le_refl _) (.cells #[.int .i64 t.a,.int .i64 t.b,.int .i64 t.c,.int .i64 t.d,.int .i64 t.e] 56)) (heap_alloc_new _ _:Row _ _ 56 (tupC t)) (Nat.le_refl _)
  rw[List.append_assoc,List.append_assoc]at q2
  exact⟨(hC _ _ _).2 q2,heap_alloc_new _ _⟩
 have HCX:Hid (∀bt t w,C bt t w→w.cell? ⟨gx,2,none⟩=some (.int .i64 kc)∧Row w bt 56 (tupC t)):=fun bt t w q=>by
  rw[hgx,hkc]
  refine⟨(((hC _ _ _).1 q).row_).cell 2,?_⟩
  have q2:=(hC _ _ _).1 q
  have e:zz++[rowO b2 56 Z5,rowO bt 56 (tupC t)]=(zz++[rowO b2 56 Z5])++rowO bt 56 (tupC t)::[]:=by simp
  rw[e]at q2
  exact Wd.row q2 (mz_at (LZ_len _ _ _ _ _ _))
 have HDX:Hid (∀j' ended' bt c2 t w,D j' ended' bt c2 t w→w.cell? ⟨gx,4,none⟩=some (.int .i64 tc)∧Row w bt 56 (tupC t)∧Row w b2 56 c2):=fun j' ended' bt c2 t w q=>by
  rw[hgx,htc]
  have q2:=(hD _ _ _ _ _ _).1 q
  refine⟨(q2.row_).cell 4,?_,Wd.row q2 (mz_at (LZ_len _ _ _ _ _ _))⟩
  have e:zz++[rowO b2 56 c2,rowO bt 56 (tupC t)]=(zz++[rowO b2 56 c2])++rowO bt 56 (tupC t)::[]:=by simp
  rw[e]at q2
  exact Wd.row q2 (mz_at (LZ_len _ _ _ _ _ _))
 have HDT:Hid (∀j' ended' bt c2 t w (x:Int),D j' ended' bt c2 t w→D j' ended' bt c2 (setT t tc x) (w.setCell ⟨bt,tc,none⟩ (.int .i64 x))):=fun j' ended' bt c2 t w x q=>by
  have q2:=(hD _ _ _ _ _ _).1 q
  have e:∀cs,zz++[rowO b2 56 c2,rowO bt 56 cs]=(zz++[rowO b2 56 c2])++rowO bt 56 cs::[]:=fun cs=>by simp
  rw[e]at q2
  have q3:=Wd.store q2 (mz_at (LZ_len _ _ _ _ _ _)) (by decide) tc (.int .i64 x)
  rw[mz_set (LZ_len _ _ _ _ _ _),setT_cells ht5 x,←e]at q3
  exact(hD _ _ _ _ _ _).2 q3
 have HDS:Hid (∀j' ended' bt t w x0 x1 x2 x3 x4,D j' ended' bt Z5 t w→D j' ended' bt [x0,x1,x2,x3,x4] t (((((w.setCell ⟨b2,0,none⟩ x0).setCell ⟨b2,1,none⟩ x1).setCell ⟨b2,2,none⟩ x2).setCell ⟨b2,3,none⟩ x3).setCell ⟨b2,4,none⟩ x4)):=fun j' ended' bt t w x0 x1 x2 x3 x4 q=>(hD _ _ _ _ _ _).2 (mz_store5 (tl:=[rowO bt 56 (tupC t)]) (LZ_len _ _ _ _ _ _) rfl ((hD _ _ _ _ _ _).1 q) x0 x1 x2 x3 x4)
 have HAS:Hid (∀w x0 x1 x2 x3 x4,A Z5 w→A [x0,x1,x2,x3,x4] (((((w.setCell ⟨b2,0,none⟩ x0).setCell ⟨b2,1,none⟩ x1).setCell ⟨b2,2,none⟩ x2).setCell ⟨b2,3,none⟩ x3).setCell ⟨b2,4,none⟩ x4)):=fun w x0 x1 x2 x3 x4 q=>(hA _ _).2 (mz_store5 (tl:=[]) (LZ_len _ _ _ _ _ _) rfl ((hA _ _).1 q) x0 x1 x2 x3 x4)
 have HES:Hid (∀w x0 x1 x2 x3 x4,E Z5 w→E [x0,x1,x2,x3,x4] (((((w.setCell ⟨b2,0,none⟩ x0).setCell ⟨b2,1,none⟩ x1).setCell ⟨b2,2,none⟩ x2).setCell ⟨b2,3,none⟩ x3).setCell ⟨b2,4,none⟩ x4)):=fun w x0 x1 x2 x3 x4 q=>by
  obtain⟨tl,ht,a,b,ra,rb,lk,k1,k2,k3,k4⟩:=(hE _ _).1 q
  exact(hE _ _).2 ⟨tl,ht,a,b,ra,rb,lk,k1,k2,k3,mz_store5 (LZ_len _ _ _ _ _ _) rfl k4 x0 x1 x2 x3 x4⟩
 have HER:Hid (∀c2 w,E c2 w→Row w b2 56 c2):=fun c2 w q=>by
  obtain⟨tl,ht,a,b,ra,rb,lk,k1,k2,k3,k4⟩:=(hE _ _).1 q
  exact k4.row (mz_at (LZ_len _ _ _ _ _ _))
 have HEB:Hid (∀c2 w w',E c2 w→Below w.heap.size w w'→E c2 w'):=fun c2 w w' q hb=>by
  obtain⟨tl,ht,a,b,ra,rb,lk,k1,k2,k3,k4⟩:=(hE _ _).1 q
  exact(hE _ _).2 ⟨tl,ht,a,b,ra,rb,lk,k1,k2,k3,k4.below hb⟩
 have HASK:Hid (∀w,A Z5 w→Calls Tryz.prog 46 #[.pointer (some ⟨ga,0,none⟩)] w fun e w'=>
   (i<P.la.length∧okR false P.la P.key i (colT (tAt P.la i) P.key)∧e=.returned (.tuple #[tupV (tAt P.la i),.bool true,.int .i64 0])∧B w')∨
   (i=P.la.length∧e=.returned (.tuple #[tupV tup0,.bool false,.int .i64 0])∧A Z5 w')∨
   (∃er:Nat,e=.returned (.tuple #[tupV tup0,.bool false,.int .i64 er])∧0<er∧((er=3∧¬P.Good)∨er=6∧¬P.X.cm)∧E Z5 w')):=fun w q=>by
  rw[hga]
  refine(((hA _ _).1 q).ask hP hS.le hj hn).mono ?_
  rintro e w' (⟨q1,q2,q3,q4⟩|⟨q1,q2,q3⟩|⟨er,q1,q2,q3,q4⟩)
  ·exact .inl ⟨q1,q2,q3,(hB _).2 q4⟩
  ·exact .inr (.inl ⟨q1,q2,(hA _ _).2 q3⟩)
  ·refine .inr (.inr ⟨er,q1,q2,?_,(hE _ _).2 ⟨[],(fun q hq=>by cases hq),by rw[hM];exact q4⟩⟩)
   rcases q3 with⟨k1,k2,k3⟩|k
   ·refine .inl ⟨k1,fun hg=>k3 ?_⟩
    rcases Nat.eq_zero_or_pos i with h0|h0
    ·exact .inl h0
    ·exact hg.1 i h0 k2
   ·exact .inr k
 have HFI:Hid (∀bt t w key,i<P.la.length→okR false P.la P.key i (colT (tAt P.la i) P.key)→t=tAt P.la i→key=colT t kc→C bt t w→Calls Tryz.prog 69 #[.pointer (some ⟨gx,0,none⟩),.int .i64 key] w fun e w'=>
   (∃j' ended' x,x=lookV P.lb (colT (tAt P.la i) P.key) P.value∧P.St (i+1) j' ended'∧e=.returned (.tuple #[.int .i64 x,.int .i64 0])∧D j' ended' bt Z5 t w')∨
   (∃er:Nat,e=.returned (.tuple #[.int .i64 0,.int .i64 er])∧0<er∧((er=3∧¬P.Good)∨er=6∧¬P.X.cm)∧E Z5 w')):=fun bt t w key k1 k2 k3 k4 q=>by
  rw[hgx,k4,k3,hkc]
  have k6:=hmono (i+1) k1
  rw[k3]at q
  refine(find_any hP (hS.find k2) ((hC _ _ _).1 q) (by omega)).mono ?_
  rintro e w' (⟨j',ended',q1,q2,q3,q4⟩|⟨er,q1,q2,q3,a,b,ra,rb,lk,r1,r2,r3,r4⟩)
  ·exact .inl ⟨j',ended',_,rfl,hS.next k1 k2 q1 q2,q3,(hD _ _ _ _ _ _).2 q4⟩
  ·refine .inr ⟨er,q1,q2,?_,(hE _ _).2 ⟨[rowO bt 56 (tupC (tAt P.la i))],(fun q hq=>by simp at hq;subst hq;exact⟨rfl,rfl⟩),a,b,ra,rb,lk,r1,r2,r3,r4.mono (by omega) (by omega)⟩⟩
   rcases q3 with⟨s1,s2⟩|s
   ·exact .inl ⟨s1,fun hg=>s2 (hg.2 i k1)⟩
   ·exact .inr s
 have HE1:Hid (∀j' ended' bt c2 t x u w,i<P.la.length→P.St (i+1) j' ended'→t=tAt P.la i→x=lookV P.lb (colT (tAt P.la i) P.key) P.value→u=setT t tc x→D j' ended' bt c2 u w→P.NRes zz m i j ended (.returned (.tuple #[tupV u,.bool true,.int .i64 0])) w):=fun j' ended' bt c2 t x u w k1 k2 k3 k4 k5 k6=>by
  have k7:=(hD _ _ _ _ _ _).1 k6
  refine .inl ⟨j',ended',k1,k2,by rw[k5,k3,k4,htc],?_⟩
  exact mz_cut (fun q hq=>by simp at hq;rcases hq with rfl|rfl<;>exact⟨rfl,rfl⟩) k7
 have HE2:Hid (∀c2 w,i=P.la.length→A c2 w→P.NRes zz m i j ended (.returned (.tuple #[tupV tup0,.bool false,.int .i64 0])) w):=fun c2 w k1 k2=>.inr (.inl ⟨k1,rfl,mz_cut (fun q hq=>by simp at hq;subst hq;exact⟨rfl,rfl⟩) ((hA _ _).1 k2)⟩)
 have HE3:Hid (∀(er:Nat) c2 w,0<er→((er=3∧¬P.Good)∨er=6∧¬P.X.cm)→E c2 w→P.NRes zz m i j ended (.returned (.tuple #[tupV tup0,.bool false,.int .i64 er])) w):=fun er c2 w k1 k2 k3=>by
  obtain⟨tl,ht,a,b,ra,rb,lk,r1,r2,r3,r4⟩:=(hE _ _).1 k3
  refine .inr (.inr ⟨er,rfl,k1,k2,a,b,ra,rb,lk,r1,r2,r3,?_⟩)
  rw[←hM]
  exact mz_cut (fun q hq=>by
   rcases List.mem_cons.1 hq with rfl|hq
   ·exact⟨rfl,rfl⟩
   ·exact ht q hq) r4
 have HT3:Hid (∀t,(tupC t)[kc]?=some (.int .i64 (colT t kc))):=fun t=>tupC_at t hk5
 have HT4:Hid (∀t,(tupC t)[tc]?=some (.int .i64 (colT t tc))):=fun t=>tupC_at t ht5
 obtain⟨t,ht⟩:∃t,t=tAt P.la i:=⟨_,rfl⟩
 have HTA:=Lib.hid ht
 obtain⟨OKR,hOKR⟩:∃OKR,OKR=okR false P.la P.key i (colT (tAt P.la i) P.key):=⟨_,rfl⟩
 rw[←hOKR]at HASK HFI
 rw[←ht]at HASK
 rw[←hgx]
 generalize P.NRes zz m i j ended=POST at*
 generalize P.Good=GOOD at*
 generalize P.X.cm=cm at*
 generalize P.la.length=n at*
 have HW2:=Lib.hid hW2
 have HB2:=Lib.hid hb2
 have hki:(kc:Int)<5:=by omega
 have hk0:(0:Int)≤(kc:Int):=by omega
 have hti:(tc:Int)<5:=by omega
 have ht0:(0:Int)≤(tc:Int):=by omega
 clear h2 hW2 hb2 h hP hS hn hj hmono hgx hga hkc htc hM hA hB hC hD hE ht hOKR
 go_enter Tryz.func48,Tryz.ntmps48
 go_upto_region 1 with(fail)
 rw[←HW2.out,←HB2.out]
 clear HW2 HB2
 have c0:=HAX.out _ _ HA0.out
 have HK1:=Lib.hid (HASK.out _ HA0.out)
 go_wp2_with fail
 refine HK1.out.mono ?_
 rintro e w2 (⟨hlt,hok,rfl,h2⟩|⟨hil,rfl,h2⟩|⟨er,rfl,hpos,hwhy,h2⟩)
 ·have HLT:=Lib.hid hlt
  have HOK:=Lib.hid hok
  obtain⟨hc,hrt⟩:=HBN.out w2 t h2
  have HC3:=Lib.hid hc
  have HRT:=Lib.hid hrt
  clear h2 hrt hc c0 HK1 hlt hok
  unfold tupV
  go_upto_region 4 with(fail)
  generalize w2.alloc (.cells #[.int .i64 t.a,.int .i64 t.b,.int .i64 t.c,.int .i64 t.d,.int .i64 t.e] 56)=w3 at*
  generalize w2.heap.size=bt at*
  obtain⟨y,hy⟩:∃y,y=colT t kc:=⟨_,rfl⟩
  have qy:w3.cell? ⟨bt,kc,none⟩=some (.int .i64 y):=by rw[hy];exact(HRT.out.cell kc).trans (HT3.out t)
  have c2:=(HCX.out _ _ _ HC3.out).1
  have HF:=Lib.hid (HFI.out bt t w3 y HLT.out HOK.out HTA.out hy HC3.out)
  clear hy
  go_wp2_with fail
  refine HF.out.mono ?_
  rintro e w4 (⟨j',ended',x,hx,hst,rfl,h4⟩|⟨er,rfl,hpos,hwhy,h4⟩)
  ·have HX:=Lib.hid hx
   have HST:=Lib.hid hst
   have HD4:=Lib.hid h4
   clear hx hst h4 qy c2 HF
   obtain⟨k4,hr4,hr5⟩:=HDX.out _ _ _ _ _ _ HD4.out
   have qk:w4.cell? ⟨bt,tc,none⟩=some (.int .i64 (colT t tc)):=(hr4.cell tc).trans (HT4.out t)
   have fk:=hr4.free tc
   have HD5:=Lib.hid (HDT.out _ _ _ _ _ _ x HD4.out)
   obtain⟨u,hu⟩:∃u,u=setT t tc x:=⟨_,rfl⟩
   rw[←hu]at HD5
   have HU:=Lib.hid hu
   clear hr4 hr5 hu
   go_upto_region 8 with(fail)
   generalize w4.setCell ⟨bt,tc,none⟩ (.int .i64 x)=w5 at*
   clear k4 qk fk
   obtain⟨_,hr4,hr5⟩:=HDX.out _ _ _ _ _ _ HD5.out
   have HRR:=Lib.hid hr5
   have d0:w5.cell? ⟨bt,0,none⟩=some (.int .i64 u.a):=hr4.cell 0
   have d1:w5.cell? ⟨bt,1,none⟩=some (.int .i64 u.b):=hr4.cell 1
   have d2:w5.cell? ⟨bt,2,none⟩=some (.int .i64 u.c):=hr4.cell 2
   have d3:w5.cell? ⟨bt,3,none⟩=some (.int .i64 u.d):=hr4.cell 3
   have d4:w5.cell? ⟨bt,4,none⟩=some (.int .i64 u.e):=hr4.cell 4
   clear hr4 hr5
   have z0:w5.cell? ⟨b2,0,none⟩=some (.int .i64 0):=HRR.out.cell 0
   have z1:w5.cell? ⟨b2,1,none⟩=some (.int .i64 0):=HRR.out.cell 1
   have z2:w5.cell? ⟨b2,2,none⟩=some (.int .i64 0):=HRR.out.cell 2
   have z3:w5.cell? ⟨b2,3,none⟩=some (.int .i64 0):=HRR.out.cell 3
   have z4:w5.cell? ⟨b2,4,none⟩=some (.int .i64 0):=HRR.out.cell 4
   have f0:=HRR.out.free 0
   have f1:=HRR.out.free 1
   have f2:=HRR.out.free 2
   have f3:=HRR.out.free 3
   have f4:=HRR.out.free 4
   have H9:=Lib.hid (HDS.out _ _ _ _ w5 (.int .i64 u.a) (.int .i64 u.b) (.int .i64 u.c) (.int .i64 u.d) (.int .i64 u.e) HD5.out)
   have HR9:=Lib.hid (HDX.out _ _ _ _ _ _ H9.out).2.2
   go_wp2
   have r0:=HR9.out.cell 0
   have r1:=HR9.out.cell 1
   have r2:=HR9.out.cell 2
   have r3:=HR9.out.cell 3
   have r4:=HR9.out.cell 4
   simp only[List.getElem?_cons_zero,List.getElem?_cons_succ]at r0 r1 r2 r3 r4
   refine bodyPost_ret (v:=.tuple #[tupV u,.bool true,.int .i64 0]) (by unfold tupV;simp[results,Tryz.results48,go_sem,r0,r1,r2,r3,r4]) rfl ?_
   exact HE1.out _ _ _ _ t x u _ HLT.out HST.out HTA.out HX.out HU.out H9.out
  ·have HPOS:=Lib.hid hpos
   have HWHY:=Lib.hid hwhy
   have hne:¬(er:Int)=0:=by omega
   have her:((er:Int) !=0)=true:=by simp;omega
   have HEE:=Lib.hid h4
   clear h4 hpos hwhy qy c2 HF
   have HRR:=Lib.hid (HER.out _ _ HEE.out)
   have z0:w4.cell? ⟨b2,0,none⟩=some (.int .i64 0):=HRR.out.cell 0
   have z1:w4.cell? ⟨b2,1,none⟩=some (.int .i64 0):=HRR.out.cell 1
   have z2:w4.cell? ⟨b2,2,none⟩=some (.int .i64 0):=HRR.out.cell 2
   have z3:w4.cell? ⟨b2,3,none⟩=some (.int .i64 0):=HRR.out.cell 3
   have z4:w4.cell? ⟨b2,4,none⟩=some (.int .i64 0):=HRR.out.cell 4
   have f0:=HRR.out.free 0
   have f1:=HRR.out.free 1
   have f2:=HRR.out.free 2
   have f3:=HRR.out.free 3
   have f4:=HRR.out.free 4
   have H9:=Lib.hid (HES.out w4 (.int .i64 0) (.int .i64 0) (.int .i64 0) (.int .i64 0) (.int .i64 0) HEE.out)
   have HR9:=Lib.hid (HER.out _ _ H9.out)
   go_wp2
   have r0:=HR9.out.cell 0
   have r1:=HR9.out.cell 1
   have r2:=HR9.out.cell 2
   have r3:=HR9.out.cell 3
   have r4:=HR9.out.cell 4
   simp only[List.getElem?_cons_zero,List.getElem?_cons_succ]at r0 r1 r2 r3 r4
   refine bodyPost_ret (v:=.tuple #[tupV tup0,.bool false,.int .i64 er]) (by unfold tupV tup0;simp[results,Tryz.results48,go_sem,r0,r1,r2,r3,r4]) rfl ?_
   exact HE3.out er _ _ HPOS.out HWHY.out H9.out
 ·have HIL:=Lib.hid hil
  have HA3:=Lib.hid (HAB.out _ w2 _ h2 ((Below.refl w2.heap.size w2).alloc (Nat.le_refl _) (.cells #[.int .i64 0,.int .i64 0,.int .i64 0,.int .i64 0,.int .i64 0] 56)))
  clear h2 c0 HK1 hil
  unfold tupV tup0
  go_upto_region 2 with(fail)
  generalize w2.alloc (.cells #[.int .i64 0,.int .i64 0,.int .i64 0,.int .i64 0,.int .i64 0] 56)=w3 at*
  generalize w2.heap.size=bu at*
  have HRR:=Lib.hid (HAR.out _ _ HA3.out)
  have z0:w3.cell? ⟨b2,0,none⟩=some (.int .i64 0):=HRR.out.cell 0
  have z1:w3.cell? ⟨b2,1,none⟩=some (.int .i64 0):=HRR.out.cell 1
  have z2:w3.cell? ⟨b2,2,none⟩=some (.int .i64 0):=HRR.out.cell 2
  have z3:w3.cell? ⟨b2,3,none⟩=some (.int .i64 0):=HRR.out.cell 3
  have z4:w3.cell? ⟨b2,4,none⟩=some (.int .i64 0):=HRR.out.cell 4
  have f0:=HRR.out.free 0
  have f1:=HRR.out.free 1
  have f2:=HRR.out.free 2
  have f3:=HRR.out.free 3
  have f4:=HRR.out.free 4
  have H9:=Lib.hid (HAS.out w3 (.int .i64 0) (.int .i64 0) (.int .i64 0) (.int .i64 0) (.int .i64 0) HA3.out)
  have HR9:=Lib.hid (HAR.out _ _ H9.out)
  go_wp2
  have r0:=HR9.out.cell 0
  have r1:=HR9.out.cell 1
  have r2:=HR9.out.cell 2
  have r3:=HR9.out.cell 3
  have r4:=HR9.out.cell 4
  simp only[List.getElem?_cons_zero,List.getElem?_cons_succ]at r0 r1 r2 r3 r4
  refine bodyPost_ret (v:=.tuple #[tupV tup0,.bool false,.int .i64 0]) (by unfold tupV tup0;simp[results,Tryz.results48,go_sem,r0,r1,r2,r3,r4]) rfl ?_
  exact HE2.out _ _ HIL.out H9.out
 ·have HPOS:=Lib.hid hpos
  have HWHY:=Lib.hid hwhy
  have hne:¬(er:Int)=0:=by omega
  have her:((er:Int) !=0)=true:=by simp;omega
  have HEE:=Lib.hid (HEB.out _ w2 _ h2 ((Below.refl w2.heap.size w2).alloc (Nat.le_refl _) (.cells #[.int .i64 0,.int .i64 0,.int .i64 0,.int .i64 0,.int .i64 0] 56)))
  clear h2 hpos hwhy c0 HK1
  unfold tupV tup0
  go_upto_region 2 with(fail)
  generalize w2.alloc (.cells #[.int .i64 0,.int .i64 0,.int .i64 0,.int .i64 0,.int .i64 0] 56)=w3 at*
  generalize w2.heap.size=bu at*
  clear HBN HCX HDX HDT HDS HAS HASK HFI HE1 HE2 HT3 HT4 HAX HAR HAB HEB HTA HA0
  have HRR:=Lib.hid (HER.out _ _ HEE.out)
  have z0:w3.cell? ⟨b2,0,none⟩=some (.int .i64 0):=HRR.out.cell 0
  have z1:w3.cell? ⟨b2,1,none⟩=some (.int .i64 0):=HRR.out.cell 1
  have z2:w3.cell? ⟨b2,2,none⟩=some (.int .i64 0):=HRR.out.cell 2
  have z3:w3.cell? ⟨b2,3,none⟩=some (.int .i64 0):=HRR.out.cell 3
  have z4:w3.cell? ⟨b2,4,none⟩=some (.int .i64 0):=HRR.out.cell 4
  have f0:=HRR.out.free 0
  have f1:=HRR.out.free 1
  have f2:=HRR.out.free 2
  have f3:=HRR.out.free 3
  have f4:=HRR.out.free 4
  have H9:=Lib.hid (HES.out w3 (.int .i64 0) (.int .i64 0) (.int .i64 0) (.int .i64 0) (.int .i64 0) HEE.out)
  have HR9:=Lib.hid (HER.out _ _ H9.out)
  go_wp2
  have r0:=HR9.out.cell 0
  have r1:=HR9.out.cell 1
  have r2:=HR9.out.cell 2
  have r3:=HR9.out.cell 3
  have r4:=HR9.out.cell 4
  simp only[List.getElem?_cons_zero,List.getElem?_cons_succ]at r0 r1 r2 r3 r4
  refine bodyPost_ret (v:=.tuple #[tupV tup0,.bool false,.int .i64 er]) (by unfold tupV tup0;simp[results,Tryz.results48,go_sem,r0,r1,r2,r3,r4]) rfl ?_
  exact HE3.out er _ _ HPOS.out HWHY.out H9.out
section
variable {X : Cx} {os : List Asn} {m i : Nat} {W W' : World} {G : Nat → Prop} {D : St} {A : Ar} {S : Sp} {first nb k hh count : Nat} {l : List Tup}
def Ar0(W w:World)(a:Nat):Prop:=Below W.heap.size W w∧W.heap.size≤a∧Arn w (fun k=>k=a) a (empty 0)
theorem Ar0.below{W w w':World}{a:Nat}(h:Ar0 W w a)(hb:Below w.heap.size w w'):Ar0 W w' a:=
 ⟨h.1.trans (hb.mono h.1.size),h.2.1,h.2.2.far (Far.of_below hb fun _=>False) (fun _ _ h=>h) (fun _ _ h=>h)⟩
theorem sys_new{w:World}{a wp n:Nat}{p:Wp}(h:Sys W G p ⟨D,A,S⟩ n)(h0:Ar0 W w a)(hr:Row w wp 83 [ptr p.d,ptr a,ptr p.s])(hw:W.heap.size≤wp∧wp≠a):∃G',Sys w G' ⟨wp,p.d,a,p.s⟩ ⟨D,empty 0,S⟩ n:=by
 have hlt:=fun k hk=>h.lt (k:=k) hk
 obtain⟨hb,ha0,ha⟩:=h0
 obtain⟨Gd,Ga,Gs,hrw,hd,ha2,hs,hg,h1,h2,h3,h4⟩:=h.below hb
 have hG:∀k,Gd k∨Gs k→k<W.heap.size:=fun k hk=>hlt k ((hg k).2 (hk.elim (fun h=>.inr (.inl h)) fun h=>.inr (.inr (.inr h))))
 refine⟨fun k=>k=wp∨Gd k∨k=a∨Gs k,Gd,fun k=>k=a,Gs,hr,hd,ha,hs,fun k=>Iff.rfl,fun k hk=>⟨fun e=>?_,(h1 k hk).2.1,fun e=>?_⟩,fun k hk=>⟨fun hk2=>?_,fun e=>?_⟩,fun k hk e=>?_,fun q hq=>by cases hq⟩
 ·have e:k=a:=e
  have:=hG k (.inl hk);omega
 ·have e:k=wp:=e
  have:=hG k (.inl hk);omega
 ·have hk:k=a:=hk
  have:=hG k (.inr hk2);omega
 ·have hk:k=a:=hk
  have e:k=wp:=e
  omega
 ·have e:k=wp:=e
  have:=hG k (.inr hk);omega
end
section
variable {X : Cx} {os : List Asn} {m i : Nat} {W W' : World} {G : Nat → Prop} {D : St} {A : Ar} {S : Sp} {first nb k hh count : Nat} {l : List Tup}
theorem jcanbe_any(h:Wd X os m W)(hhe:hh=holdsI X.sz k)(hh0:0<hh)(hnb:nb=blocksN hh count)(hcount:count≤100000):
  Calls Tryz.prog 45 #[.pointer (some ⟨X.p.w,0,none⟩),.agg #[.int .i64 first,.int .i64 nb,.int .i64 k,.int .i64 count]] W fun e w'=>e=.returned (.bool true)∧Below W.heap.size W w':=by
 obtain⟨W1,hW1⟩:∃W1,W1=W.alloc (.cells #[.int .i64 first,.int .i64 nb,.int .i64 k,.int .i64 count] 31):=⟨_,rfl⟩
 have hb1:Below W.heap.size W W1:=by rw[hW1];exact(Below.refl _ _).alloc (Nat.le_refl _) _
 have hr1:Row W1 W.heap.size 31 [.int .i64 first,.int .i64 nb,.int .i64 k,.int .i64 count]:=by rw[hW1];exact heap_alloc_new _ _
 obtain⟨G,D,A,S,hF⟩:=h
 have h1:=hF.below hb1
 have hbd:8≤X.sz:=(Wd.bounds ⟨G,D,A,S,hF⟩).1.1
 have HDV:Hid (∀w,Below W1.heap.size W1 w→Calls Tryz.prog 17 #[.pointer (some ⟨X.p.w,0,none⟩)] w fun e w'=>e=.returned (.pointer (some ⟨X.p.d,0,none⟩))∧w'=w):=fun w hb=>wd_dev ⟨G,D,A,S,h1.below hb⟩
 have HSP:Hid (∀w,Below W1.heap.size W1 w→Calls Tryz.prog 37 #[.pointer (some ⟨X.p.w,0,none⟩)] w fun e w'=>e=.returned (.pointer (some ⟨X.p.s,0,none⟩))∧w'=w):=fun w hb=>wd_spc ⟨G,D,A,S,h1.below hb⟩
 have HAN:Hid (∀w,Below W1.heap.size W1 w→Calls Tryz.prog 24 #[.int .i64 0] w fun e w'=>∃a,e=.returned (.pointer (some ⟨a,0,none⟩))∧Ar0 W1 w' a):=fun w hb=>by
  refine(arnew_any 0 w (by omega) (by omega)).mono ?_
  rintro e w' ⟨he,ha,hb2⟩
  exact⟨w.heap.size,he,hb.trans (hb2.mono hb.size),hb.size,ha⟩
 have HFN:Hid (∀w a,Ar0 W1 w a→Calls Tryz.prog 23 #[.pointer (some ⟨X.p.d,0,none⟩),.pointer (some ⟨a,0,none⟩),.pointer (some ⟨X.p.s,0,none⟩)] w fun e w'=>∃wp,e=.returned (.pointer (some ⟨wp,0,none⟩))∧Ar0 W1 w' a∧Row w' wp 83 [ptr X.p.d,ptr a,ptr X.p.s]∧W1.heap.size≤wp∧wp≠a):=fun w a h0=>by
  refine(fnew_any X.p.d a X.p.s w).mono ?_
  rintro e w' ⟨he,rfl⟩
  have hal:a<w.heap.size:=h0.2.2.lt rfl
  exact⟨w.heap.size,he,h0.below ((Below.refl _ _).alloc (Nat.le_refl _) _),heap_alloc_new _ _,h0.1.size,by omega⟩
 have HRD:Hid (∀w a wp,Ar0 W1 w a→Row w wp 83 [ptr X.p.d,ptr a,ptr X.p.s]→W1.heap.size≤wp→wp≠a→Calls Tryz.prog 39 #[.pointer (some ⟨wp,0,none⟩),.agg #[.int .i64 first,.int .i64 nb,.int .i64 k,.int .i64 count]] w fun e w'=>e=.returned (.tuple #[.pointer none,.int .i64 7])∧Below W1.heap.size W1 w'):=fun w a wp h0 hr hw hne=>by
  obtain⟨G',hsys⟩:=sys_new h1.sys h0 hr ⟨hw,hne⟩
  have hds:D.size=X.sz:=hF.size
  refine(fread_room hsys k hh first nb count (by show hh=holdsI D.size k;rw[hds];exact hhe) hh0 hnb (by omega) (by show (empty 0).room-(empty 0).used<D.size;rw[hds];exact Nat.lt_of_lt_of_le (by show 0-0<8;omega) hbd)).mono ?_
  rintro e w' ⟨he,hb⟩
  exact⟨he,h0.1.trans (hb.mono h0.1.size)⟩
 have HCEL:Hid (∀w,Below W1.heap.size W1 w→w.cell? ⟨W.heap.size,0,none⟩=some (.int .i64 first)∧w.cell? ⟨W.heap.size,1,none⟩=some (.int .i64 nb)∧w.cell? ⟨W.heap.size,2,none⟩=some (.int .i64 k)∧w.cell? ⟨W.heap.size,3,none⟩=some (.int .i64 count)):=fun w hb=>by
  have h9:=hr1.below hb hr1.lt
  exact⟨h9.cell 0,h9.cell 1,h9.cell 2,h9.cell 3⟩
 have HFIN:Hid (∀w,Below W1.heap.size W1 w→Below W.heap.size W w):=fun w hb=>hb1.trans (hb.mono hb1.size)
 have hb0:Below W1.heap.size W1 W1.drew:=below_drew (Below.refl _ _)
 have q0:=HCEL.out _ hb0
 have HW1:=Lib.hid hW1
 have HNB:=Lib.hid hnb
 have HHE:=Lib.hid hhe
 generalize hS0:W.heap.size=s0 at*
 clear hW1 hb1 hr1 hF h1 hnb hhe
 go_enter Tryz.func45,Tryz.ntmps45
 go_upto_region 1 with(fail)
 rw[←HW1.out]
 clear HW1
 go_region_held3 (fun w=>w.cell? ⟨s0,0,none⟩=some (.int .i64 first)∧w.cell? ⟨s0,1,none⟩=some (.int .i64 nb)∧w.cell? ⟨s0,2,none⟩=some (.int .i64 k)∧w.cell? ⟨s0,3,none⟩=some (.int .i64 count)) (first|with_reducible exact q0|with_reducible exact q5|with_reducible exact q6|with_reducible exact q7)
  (first
   |(go_at_call 17;(with_reducible refine(HDV.out _ (by first|with_reducible exact hb0|with_reducible exact hb5)).mono ?_);rintro e w4 ⟨rfl,rfl⟩)
   |(go_at_call 37;(with_reducible refine(HSP.out _ (by first|with_reducible exact hb0|with_reducible exact hb5)).mono ?_);rintro e w4 ⟨rfl,rfl⟩)
   |(go_at_call 24;(with_reducible refine(HAN.out _ hb0).mono ?_);rintro e w5 ⟨a,rfl,h5⟩;have hb5:=h5.1;have q5:=HCEL.out w5 hb5;have q6:=q5;have q7:=q5)
   |(go_at_call 23;(with_reducible refine(HFN.out _ _ h5).mono ?_);rintro e w6 ⟨wp,rfl,h6,hr6,hw6,hn6⟩;have q6:=HCEL.out w6 h6.1)
   |(go_at_call 39;(with_reducible refine(HRD.out _ _ _ h6 hr6 hw6 hn6).mono ?_);rintro e w7 ⟨rfl,hb7⟩;have q7:=HCEL.out w7 hb7))
 all_goals
  have H9:=Lib.hid (HFIN.out _ hb7)
  clear hb7 q7 q6 q5 q0 h6 hr6 hw6 hn6 h5 hb5 hb0
  go_wp2
  go_ret
  exact⟨rfl,by rw[hS0]at*;exact H9.out⟩
end
def lookOk(la:List Tup)(key:Nat)(lb:List Tup):Prop:=(∀q,0<q→q<la.length→okR false la key q (colT (tAt la q) key))∧∀q,q<la.length→riseB lb (colT (tAt la q) key)
def lookL(la:List Tup)(key:Nat)(lb:List Tup)(value to_ n:Nat):List Tup:=(la.take n).map fun t=>setT t to_ (lookV lb (colT t key) value)
theorem lookL_succ{la lb:List Tup}{key value to_ n:Nat}(h:n<la.length):lookL la key lb value to_ (n+1)=lookL la key lb value to_ n++[setT (tAt la n) to_ (lookV lb (colT (tAt la n) key) value)]:=by
 unfold lookL
 rw[List.take_add_one,tAt_some h]
 simp
theorem lookL_len{la lb:List Tup}{key value to_ n:Nat}(h:n≤la.length):(lookL la key lb value to_ n).length=n:=by
 unfold lookL;simp;omega
theorem fits_up{ka k:Nat}{t:Tup}(h:fitsT ka t=true)(hk:ka≤k):fitsT k t=true:=by
 unfold fitsT at*
 rw[List.all_eq_true]at*
 intro x hx
 have e:t.cols.drop k=(t.cols.drop ka).drop (k-ka):=by rw[List.drop_drop,show ka+(k-ka)=k by omega]
 rw[e]at hx
 exact h x (List.mem_of_mem_drop hx)
theorem setT_fits2{k to_:Nat}{t:Tup}{v:Int}(h:fitsT k t=true)(ht:to_<k)(hk:k≤5):fitsT k (setT t to_ v)=true:=by
 unfold fitsT at*
 rcases(show k=1∨k=2∨k=3∨k=4∨k=5 by omega)with rfl|rfl|rfl|rfl|rfl<;>
  rcases lt5 (show to_<5 by omega)with rfl|rfl|rfl|rfl|rfl<;>first|omega|(simp[setT,Tup.cols]at h⊢<;>simp[h])
theorem colT_ok2{t:Tup}(h:TupOk t)(i:Nat):I64 (colT t i):=by
 unfold colT
 rw[List.getD_eq_getElem?_getD]
 rcases hi:t.cols[i]?with _|x
 ·exact I64.of (by simp) (by simp)
 ·exact h x (List.mem_of_getElem? hi)
theorem lookV_ok{lb:List Tup}(h:∀u∈lb,TupOk u)(key:Int)(value:Nat):I64 (lookV lb key value):=by
 unfold lookV
 rcases hf:lb.find? (fun u=>decide (key≤colT u 0))with _|u
 ·exact(show I64 (-1)from I64.of (by omega) (by omega))
 ·simp only
  split
  ·exact colT_ok2 (h u (List.mem_of_find?_eq_some hf)) _
  ·exact I64.of (by omega) (by omega)
def LK.Ze(P:LK)(z:List Asn):Prop:=∃a b ra rb lk,z=LZ P.Y a b ra rb lk∧RdE P.X P.xa P.ra P.la a∧RdE P.X P.xb P.rb P.lb b∧∀q∈[ra,rb,lk],q.gr=none∧q.ex.2=0
theorem LK.Z_ze(P:LK)(i j:Nat)(ended:Bool):P.Ze (P.Z i j ended):=⟨_,_,_,_,_,rfl,⟨i,.inl rfl⟩,⟨j,.inl rfl⟩,fun q hq=>by
 simp[LK.rw,LK.rv,LK.lk]at hq
 rcases hq with rfl|rfl|rfl<;>exact⟨rfl,rfl⟩⟩
theorem LK.src_{P:LK}{k:Nat}(hP:P.Ok)(hk:k≤5)(hto:P.to_<k)(hka:P.ra.k≤k):
  SrcC P.X 48 (.pointer (some ⟨P.gx,0,none⟩)) (fun s:Nat×Nat×Bool=>P.St s.1 s.2.1 s.2.2) (fun s=>P.Z s.1 s.2.1 s.2.2) (fun s=>lookL P.la P.key P.lb P.value P.to_ s.1) (fun s=>P.la.length-s.1) (fun s=>blocksN P.ra.h s.1+blocksN P.rb.h s.2.1) (P.Y.length+5) P.Ze (lookL P.la P.key P.lb P.value P.to_ P.la.length) (lookOk P.la P.key P.lb) (fun er=>er=3∧¬lookOk P.la P.key P.lb) P.la.length (blocksN P.ra.h P.la.length+blocksN P.rb.h P.lb.length) k where
 ent:=fun args w=>by kernel_rfl
 len:=fun s=>LZ_len _ _ _ _ _ _
 out:=fun s hs=>⟨by rw[lookL_len hs.le];exact hs.le,fun u hu=>by
  unfold lookL at hu
  obtain⟨t,ht,rfl⟩:=List.mem_map.1 hu
  have hf:=hP.rda.fit t (List.mem_of_mem_take ht)
  exact⟨setT_ok hP.to_ hf.1 (lookV_ok (fun u hu=>(hP.rdb.fit u hu).1) _ _),setT_fits2 (fits_up hf.2 hka) hto hk⟩⟩
 cost:=fun s hs=>by
  have h1:blocksN P.ra.h s.1≤blocksN P.ra.h P.la.length:=blocks_mono hP.rda.ok.h.1 hs.le
  have h2:blocksN P.rb.h s.2.1≤blocksN P.rb.h P.lb.length:=blocks_mono hP.rdb.ok.h.1 (by
   rcases hs.inv with⟨_,q,_⟩|⟨_,q⟩
   ·omega
   ·exact q.le)
  omega
 zok:=fun s _=>P.Z_ze _ _ _
 next:=fun s zz m W hs hw hn=>by
  obtain⟨i,j,ended⟩:=s
  have h1:P.T zz m i j (comeB j ended) ended (rowL P.lb j ended) W:=by
   unfold LK.T LK.S
   rw[Nat.add_assoc]
   exact hw
  refine(look_next hP hs h1 (by omega)).mono ?_
  rintro e w' (⟨j',ended',k1,k2,k3,k4⟩|⟨k1,k2,k3⟩|⟨er,k1,k2,k3,a,b,ra,rb,lk,r1,r2,r3,r4⟩)
  ·refine .inl ⟨_,(i+1,j',ended'),k3,k2,by show P.la.length-(i+1)<P.la.length-i;omega,lookL_succ k1,?_⟩
   unfold LK.T LK.S at k4
   rw[Nat.add_assoc]at k4
   exact k4
  ·refine .inr (.inl ⟨P.Z i j ended,k2,by show lookL P.la P.key P.lb P.value P.to_ i= _;rw[show i=P.la.length from k1],⟨?_,?_⟩,LZ_len _ _ _ _ _ _,P.Z_ze _ _ _,?_⟩)
   ·have:=hs.up
    rw[show i=P.la.length from k1]at this
    exact this
   ·have:=hs.riz
    rw[show i=P.la.length from k1]at this
    exact this
   ·have h9:blocksN P.rb.h j≤blocksN P.rb.h P.lb.length:=blocks_mono hP.rdb.ok.h.1 (by
     rcases hs.inv with⟨_,q,_⟩|⟨_,q⟩
     ·show j≤ _;have q:j=0:=q;omega
     ·exact q.le)
    have h8:blocksN P.ra.h i≤blocksN P.ra.h P.la.length:=blocks_mono hP.rda.ok.h.1 hs.le
    unfold LK.T LK.S at k3
    have h8:blocksN P.ra.h i≤blocksN P.ra.h P.la.length:=h8
    have h9:blocksN P.rb.h j≤blocksN P.rb.h P.lb.length:=h9
    exact k3.mono (show m+blocksN P.ra.h i+blocksN P.rb.h j≤m+(blocksN P.ra.h P.la.length+blocksN P.rb.h P.lb.length)by omega) (by omega)
  ·exact .inr (.inr ⟨er,_,k1,k2,k3,LZ_len _ _ _ _ _ _,⟨a,b,ra,rb,lk,rfl,r1,r2,r3⟩,by rw[←Nat.add_assoc];exact r4⟩)
def LkRes(X:Cx)(os:List Asn)(Out:List Tup)(Good:Prop)(m ct bd k:Nat)(e:Ending)(w':World):Prop:=
 (∃F N:Nat,e=.returned (.tuple #[.agg #[.int .i64 F,.int .i64 N,.int .i64 k,.int .i64 (Out.length:Nat)],.int .i64 0])∧FOk F N k (holdsI X.sz k) Out X.sz∧Good∧Wd X (os++[fiO F N k (holdsI X.sz k) Out X.sz]) (m+N+ct) w')∨
 (∃er:Nat,e=.returned (.tuple #[.agg #[.int .i64 0,.int .i64 0,.int .i64 0,.int .i64 0],.int .i64 er])∧0<er∧((er=3∧¬Good)∨(er=6∧¬X.cm)∨er=5∧∀q,¬Rm X os q (blocksN (holdsI X.sz k) bd))∧Wd X os (m+ct+bd+2) w')
def lkZ(os:List Asn)(f1 f2:Asn)(R:Nat)(cs:List Value)(a b ra rb lk:Asn)(tail:List Asn):List Asn:=os++[f1,f2,rowO R 31 cs,a,b,ra,rb,lk]++tail
section
variable {X : Cx} {os tail : List Asn} {R M : Nat} {cs cs' : List Value} {f1 f2 a b ra rb lk v : Asn} {W : World}
theorem lkZ_R:(lkZ os f1 f2 R cs a b ra rb lk tail)[os.length+2]?=some (rowO R 31 cs):=by simp[lkZ]
theorem lkZ_a:(lkZ os f1 f2 R cs a b ra rb lk tail)[os.length+3]?=some a:=by simp[lkZ]
theorem lkZ_b:(lkZ os f1 f2 R cs a b ra rb lk tail)[os.length+4]?=some b:=by simp[lkZ]
theorem lkZ_setR:(lkZ os f1 f2 R cs a b ra rb lk tail).set (os.length+2) (rowO R 31 cs')=lkZ os f1 f2 R cs' a b ra rb lk tail:=by simp[lkZ]
theorem lkZ_seta:(lkZ os f1 f2 R cs a b ra rb lk tail).set (os.length+3) v=lkZ os f1 f2 R cs v b ra rb lk tail:=by simp[lkZ]
theorem lkZ_setb:(lkZ os f1 f2 R cs a b ra rb lk tail).set (os.length+4) v=lkZ os f1 f2 R cs a v ra rb lk tail:=by simp[lkZ]
theorem lkZ_store(hcs:cs.length=4)(h:Wd X (lkZ os f1 f2 R cs a b ra rb lk tail) M W)(x1 x2 x3 x4:Value):Wd X (lkZ os f1 f2 R [x1,x2,x3,x4] a b ra rb lk tail) M ((((W.setCell ⟨R,0,none⟩ x1).setCell ⟨R,1,none⟩ x2).setCell ⟨R,2,none⟩ x3).setCell ⟨R,3,none⟩ x4):=by
 have h1:=Wd.store h lkZ_R (by decide) 0 x1
 rw[lkZ_setR]at h1
 have h2:=h1.store lkZ_R (by decide) 1 x2
 rw[lkZ_setR]at h2
 have h3:=h2.store lkZ_R (by decide) 2 x3
 rw[lkZ_setR]at h3
 have h4:=h3.store lkZ_R (by decide) 3 x4
 rw[lkZ_setR]at h4
 match cs,hcs with
 |[c1,c2,c3,c4],_=>exact h4
theorem lkZ_cut(hB:∀q∈[f1,f2,a,b,ra,rb,lk],q.gr=none∧q.ex.2=0)(h:Wd X (lkZ os f1 f2 R cs a b ra rb lk tail) M W):Wd X (os++tail) M W:=
 Wd.cuts _ (fun q hq=>by
  simp at hq
  rcases hq with rfl|rfl|rfl|rfl|rfl|rfl|rfl|rfl<;>first|exact⟨rfl,rfl⟩|exact hB _ (by simp)) h
end
section
variable {X : Cx} {m : Nat} {W : World}
theorem wd_look{os:List Asn}{fa na ka ha ca fb nb kb hb cb key value to_ k:Nat}{la lb:List Tup}(h:Wd X os m W)(hfa:FOk fa na ka ha la X.sz)(hma:fiO fa na ka ha la X.sz∈os)(hca:la.length=ca)(hfb:FOk fb nb kb hb lb X.sz)(hmb:fiO fb nb kb hb lb X.sz∈os)(hcb:lb.length=cb)
  (hkey:key<ka) (hval:value<kb) (hto:to_<5) (hk:k=max ka (to_+1)) (hroom:3*X.sz+sumN Asn.gw os≤X.rm) (hn:X.N+m+na+nb+ca+2≤1000000):
  Calls Tryz.prog 19 #[.pointer (some ⟨X.p.w,0,none⟩),.agg #[.int .i64 fa,.int .i64 na,.int .i64 ka,.int .i64 ca],.int .i64 key,.agg #[.int .i64 fb,.int .i64 nb,.int .i64 kb,.int .i64 cb],.int .i64 value,.int .i64 to_] W (LkRes X os (lookL la key lb value to_ ca) (lookOk la key lb) m (na+nb) ca k):=by
 have hk5:k≤5:=by have:=hfa.kk;omega
 have hwd:=(hol_pos (k:=k) (n:=X.sz) (by omega) h.bounds.1).1
 obtain⟨fca,hfca⟩:∃fc:List Value,fc=[.int .i64 fa,.int .i64 na,.int .i64 ka,.int .i64 ca]:=⟨_,rfl⟩
 obtain⟨fcb,hfcb⟩:∃fc:List Value,fc=[.int .i64 fb,.int .i64 nb,.int .i64 kb,.int .i64 cb]:=⟨_,rfl⟩
 obtain⟨W3,hW3⟩:∃W3,W3=((W.alloc (.cells #[.int .i64 fa,.int .i64 na,.int .i64 ka,.int .i64 ca] 31)).alloc (.cells #[.int .i64 fb,.int .i64 nb,.int .i64 kb,.int .i64 cb] 31)).alloc (.cells #[.int .i64 0,.int .i64 0,.int .i64 0,.int .i64 0] 31):=⟨_,rfl⟩
 have h1:=h.new ((Below.refl W.heap.size W).alloc (Nat.le_refl _) (.cells #[.int .i64 fa,.int .i64 na,.int .i64 ka,.int .i64 ca] 31)) (heap_alloc_new _ _:Row _ _ 31 [.int .i64 fa,.int .i64 na,.int .i64 ka,.int .i64 ca]) (Nat.le_refl _)
 have h2:=h1.new ((Below.refl _ _).alloc (Nat.le_refl _) (.cells #[.int .i64 fb,.int .i64 nb,.int .i64 kb,.int .i64 cb] 31)) (heap_alloc_new _ _:Row _ _ 31 [.int .i64 fb,.int .i64 nb,.int .i64 kb,.int .i64 cb]) (Nat.le_refl _)
 have h3:=h2.new ((Below.refl _ _).alloc (Nat.le_refl _) (.cells #[.int .i64 0,.int .i64 0,.int .i64 0,.int .i64 0] 31)) (heap_alloc_new _ _:Row _ _ 31 Z4) (Nat.le_refl _)
 have hsz:∀(w:World) (o:Obj),(w.alloc o).heap.size=w.heap.size+1:=fun w o=>by simp
 rw[←hW3]at h3
 simp only[hsz,Nat.add_assoc,Nat.reduceAdd]at h3
 obtain⟨s0,hs0⟩:∃s0,s0=W.heap.size:=⟨_,rfl⟩
 rw[←hs0,←hfca,←hfcb]at h3
 obtain⟨Y,hY⟩:∃Y,Y=os++[rowO s0 31 fca,rowO (s0+1) 31 fcb,rowO (s0+2) 31 Z4]:=⟨_,rfl⟩
 have h3:Wd X Y m W3:=by rw[hY];simpa [List.append_assoc]using h3
 have hbare:Bare [rowO s0 31 fca,rowO (s0+1) 31 fcb,rowO (s0+2) 31 Z4]:=fun q hq=>by
  simp at hq;rcases hq with rfl|rfl|rfl<;>exact⟨rfl,rfl⟩
 have hgw:sumN Asn.gw Y=sumN Asn.gw os:=by rw[hY,sumN_app,gw_bare _ hbare];omega
 have hYa:fiO fa na ka ha la X.sz∈Y:=by rw[hY];simp[hma]
 have hYb:fiO fb nb kb hb lb X.sz∈Y:=by rw[hY];simp[hmb]
 have hYR:∀(zz:List Asn),(Y++zz)[os.length+2]?=some (rowO (s0+2) 31 Z4):=fun zz=>by rw[hY];simp
 have hYF:∀(zz:List Asn) (M:Nat) (w:World),Wd X (Y++zz) M w→Row w s0 31 fca∧Row w (s0+1) 31 fcb:=fun zz M w q=>by
  rw[hY]at q
  exact⟨q.row (i:=os.length) (by simp),q.row (i:=os.length+1) (by simp)⟩
 have HHA:Hid (∀w,Calls Tryz.prog 44 #[.agg #[.int .i64 fa,.int .i64 na,.int .i64 ka,.int .i64 ca],.int .i64 key] w fun e w'=>e=.returned (.bool true)∧Below w.heap.size w w'):=fun w=>by
  have:=hascol_any fa na ka ca key w
  rwa [decide_eq_true (show (0:Int)≤key∧(key:Int)<ka by omega)]at this
 have HHB:Hid (∀w,Calls Tryz.prog 44 #[.agg #[.int .i64 fb,.int .i64 nb,.int .i64 kb,.int .i64 cb],.int .i64 value] w fun e w'=>e=.returned (.bool true)∧Below w.heap.size w w'):=fun w=>by
  have:=hascol_any fb nb kb cb value w
  rwa [decide_eq_true (show (0:Int)≤value∧(value:Int)<kb by omega)]at this
 have HCB:Hid (∀w,Below W3.heap.size W3 w→Calls Tryz.prog 45 #[.pointer (some ⟨X.p.w,0,none⟩),.agg #[.int .i64 fb,.int .i64 nb,.int .i64 kb,.int .i64 cb]] w fun e w'=>e=.returned (.bool true)∧Below w.heap.size w w'):=fun w hb=>
  jcanbe_any (h3.below hb) hfb.hol hfb.hh.1 (by rw[hfb.bn,hcb]) (by rw[←hcb];exact hfb.len)
 have HRA:Hid (∀w,Below W3.heap.size W3 w→Calls Tryz.prog 39 #[.pointer (some ⟨X.p.w,0,none⟩),.agg #[.int .i64 fa,.int .i64 na,.int .i64 ka,.int .i64 ca]] w fun e w'=>∃x b g,e=.returned (.tuple #[.pointer (some ⟨x,0,none⟩),.int .i64 0])∧RtOk ⟨ka,ha,fa,na,ca,0,b,g⟩ X.sz∧Wd X (Y++[rdO X.p x ⟨ka,ha,fa,na,ca,0,b,g⟩ X.sz la]) m w'):=fun w hb=>
  wd_read (h3.below hb) fa na ka ha ca la hfa.hol hfa.hh.1 (by rw[hfa.bn,hca]) (by rw[←hca];exact hfa.len) hfa.fst (by rw[hgw];omega)
 have HRB:Hid (∀xa b g w,Wd X (Y++[rdO X.p xa ⟨ka,ha,fa,na,ca,0,b,g⟩ X.sz la]) m w→Calls Tryz.prog 39 #[.pointer (some ⟨X.p.w,0,none⟩),.agg #[.int .i64 fb,.int .i64 nb,.int .i64 kb,.int .i64 cb]] w fun e w'=>∃x b2 g2,e=.returned (.tuple #[.pointer (some ⟨x,0,none⟩),.int .i64 0])∧RtOk ⟨kb,hb,fb,nb,cb,0,b2,g2⟩ X.sz∧Wd X (Y++[rdO X.p xa ⟨ka,ha,fa,na,ca,0,b,g⟩ X.sz la,rdO X.p x ⟨kb,hb,fb,nb,cb,0,b2,g2⟩ X.sz lb]) m w'):=fun xa b g w q=>by
  refine(wd_read q fb nb kb hb cb lb hfb.hol hfb.hh.1 (by rw[hfb.bn,hcb]) (by rw[←hcb];exact hfb.len) hfb.fst ?_).mono ?_
  ·rw[sumN_snoc,hgw]
   show X.sz+(sumN Asn.gw os+X.sz)≤X.rm
   omega
  ·rintro e w' ⟨x,b2,g2,he,hr,hw⟩
   rw[List.append_assoc]at hw
   exact⟨x,b2,g2,he,hr,hw⟩
 have HINIT:Hid (∀xa ba ga' xb bb gb' w0,RtOk ⟨ka,ha,fa,na,ca,0,ba,ga'⟩ X.sz→RtOk ⟨kb,hb,fb,nb,cb,0,bb,gb'⟩ X.sz→Wd X (Y++[rdO X.p xa ⟨ka,ha,fa,na,ca,0,ba,ga'⟩ X.sz la,rdO X.p xb ⟨kb,hb,fb,nb,cb,0,bb,gb'⟩ X.sz lb]) m w0→
   ∃(A:World→Prop) (C C1:Nat→Nat→List Value→World→Prop) (N N1:Nat→List Value→World→Prop),A (((w0.alloc (.cells (risC xa key false false 0).toArray 96)).alloc (.cells (risC xb 0 true false 0).toArray 96)).alloc (.cells (lkC w0.heap.size (w0.heap.size+1) key value to_ false false tup0).toArray 99))∧(∀w w',A w→Below w.heap.size w w'→A w')∧(∀w,A w→Row w s0 31 fca∧Row w (s0+1) 31 fcb)∧
    (∀w rb,A w→Row w rb 31 (fca++fcb)→Calls Tryz.prog 47 #[.pointer (some ⟨X.p.w,0,none⟩),.int .i64 k,.func (.func 48) #[.pointer (some ⟨w0.heap.size+2,0,none⟩)] #[],.slice (some ⟨rb,0,none⟩) 2 2] w fun e w'=>
     (∃F M:Nat,e=.returned (.tuple #[.agg #[.int .i64 F,.int .i64 M,.int .i64 k,.int .i64 ((lookL la key lb value to_ ca).length:Nat)],.int .i64 0])∧C F M Z4 w')∨
     (∃er:Nat,e=.returned (.tuple #[.agg #[.int .i64 0,.int .i64 0,.int .i64 0,.int .i64 0],.int .i64 er])∧0<er∧N er Z4 w'))∧
    (∀F M cs w x1 x2 x3 x4,cs.length=4→C F M cs w→C F M [x1,x2,x3,x4] ((((w.setCell ⟨s0+2,0,none⟩ x1).setCell ⟨s0+2,1,none⟩ x2).setCell ⟨s0+2,2,none⟩ x3).setCell ⟨s0+2,3,none⟩ x4))∧
    (∀er cs w x1 x2 x3 x4,cs.length=4→N er cs w→N er [x1,x2,x3,x4] ((((w.setCell ⟨s0+2,0,none⟩ x1).setCell ⟨s0+2,1,none⟩ x2).setCell ⟨s0+2,2,none⟩ x3).setCell ⟨s0+2,3,none⟩ x4))∧
    (∀F M cs w,C F M cs w→Row w (s0+2) 31 cs)∧(∀er cs w,N er cs w→Row w (s0+2) 31 cs)∧
    (∀F M cs w u,C F M cs w→CallsD Tryz.prog 40 #[.pointer (some ⟨xb,0,none⟩)] u w fun e u' w'=>u'=u∧(e=.returned (.tuple #[])∧C1 F M cs w'))∧
    (∀er cs w u,N er cs w→CallsD Tryz.prog 40 #[.pointer (some ⟨xb,0,none⟩)] u w fun e u' w'=>u'=u∧(e=.returned (.tuple #[])∧N1 er cs w'))∧
    (∀F M cs w u,C1 F M cs w→CallsD Tryz.prog 40 #[.pointer (some ⟨xa,0,none⟩)] u w fun e u' w'=>u'=u∧(e=.returned (.tuple #[])∧Row w' (s0+2) 31 cs∧LkRes X os (lookL la key lb value to_ ca) (lookOk la key lb) m (na+nb) ca k (.returned (.tuple #[.agg #[.int .i64 F,.int .i64 M,.int .i64 k,.int .i64 ((lookL la key lb value to_ ca).length:Nat)],.int .i64 0])) w'))∧
    (∀er cs w u,0<er→N1 er cs w→CallsD Tryz.prog 40 #[.pointer (some ⟨xa,0,none⟩)] u w fun e u' w'=>u'=u∧(e=.returned (.tuple #[])∧Row w' (s0+2) 31 cs∧LkRes X os (lookL la key lb value to_ ca) (lookOk la key lb) m (na+nb) ca k (.returned (.tuple #[.agg #[.int .i64 0,.int .i64 0,.int .i64 0,.int .i64 0],.int .i64 er])) w'))):=fun xa ba ga' xb bb gb' w0 hrta hrtb hw0=>by
  obtain⟨P,hPd⟩:∃P:LK,P=⟨X,Y,xa,xb,w0.heap.size,w0.heap.size+1,w0.heap.size+2,key,value,to_,⟨ka,ha,fa,na,ca,0,ba,ga'⟩,⟨kb,hb,fb,nb,cb,0,bb,gb'⟩,la,lb⟩:=⟨_,rfl⟩
  have hka5:=hfa.kk
  have hkb5:=hfb.kk
  have hP:P.Ok:=by
   rw[hPd]
   exact⟨⟨hrta,hca,fun u hu=>hfa.fit u hu,hfa.bn⟩,⟨hrtb,hcb,fun u hu=>hfb.fit u hu,hfb.bn⟩,by show key<5;omega,by show value<5;omega,hto,fun zz=>src_mem (nb:=na) (List.mem_append_left _ hYa) hfa.bn,fun zz=>src_mem (nb:=nb) (List.mem_append_left _ hYb) hfb.bn⟩
  have hS:=LK.src_ (k:=k) hP hk5 (by rw[hPd];show to_<k;omega) (by rw[hPd];show ka≤k;omega)
  have hS0:P.St 0 0 false:=⟨Nat.zero_le _,fun q h1 h2=>by omega,.inl ⟨rfl,rfl,rfl⟩,fun q h1=>by omega⟩
  have hZ0:P.Z 0 0 false=Y++[rdO X.p xa ⟨ka,ha,fa,na,ca,0,ba,ga'⟩ X.sz la,rdO X.p xb ⟨kb,hb,fb,nb,cb,0,bb,gb'⟩ X.sz lb,rowO w0.heap.size 96 (risC xa key false false 0),rowO (w0.heap.size+1) 96 (risC xb 0 true false 0),rowO (w0.heap.size+2) 99 (lkC w0.heap.size (w0.heap.size+1) key value to_ false false tup0)]:=by
   rw[hPd]
   have e1:rowL lb 0 false=tup0:=by unfold rowL;rw[if_pos (.inr rfl)]
   show LZ Y _ _ _ _ (LK.lk _ _ _ (rowL lb 0 false))= _
   rw[e1]
   rfl
  have hZe:∀z,P.Ze z→∃a b ra rb lk,z=LZ Y a b ra rb lk∧RdE X xa ⟨ka,ha,fa,na,ca,0,ba,ga'⟩ la a∧RdE X xb ⟨kb,hb,fb,nb,cb,0,bb,gb'⟩ lb b∧∀q∈[ra,rb,lk],q.gr=none∧q.ex.2=0:=fun z hz=>by rw[hPd]at hz;exact hz
  have hLZ:∀(a b ra rb lk:Asn) (tail:List Asn),LZ Y a b ra rb lk++tail=lkZ os (rowO s0 31 fca) (rowO (s0+1) 31 fcb) (s0+2) Z4 a b ra rb lk tail:=fun a b ra rb lk tail=>by rw[hY];simp[LZ,lkZ]
  have hgx:P.gx=w0.heap.size+2:=by rw[hPd]
  have hPX:P.X=X:=by rw[hPd]
  have hct:blocksN P.ra.h P.la.length+blocksN P.rb.h P.lb.length=na+nb:=by rw[hPd];show blocksN ha la.length+blocksN hb lb.length= _;rw[←hfa.bn,←hfb.bn]
  have hll:P.la.length=ca:=by rw[hPd];exact hca
  have hol:lookL P.la P.key P.lb P.value P.to_ P.la.length=lookL la key lb value to_ ca:=by rw[hll,hPd]
  have hok:lookOk P.la P.key P.lb=lookOk la key lb:=by rw[hPd]
  have hc00:blocksN P.ra.h 0+blocksN P.rb.h 0=0:=by rw[blocks_zero,blocks_zero]
  have ho00:lookL P.la P.key P.lb P.value P.to_ 0=[]:=rfl
  rw[hgx,hPX,hct,hol,hok,hll]at hS
  refine⟨fun w=>Wd X (P.Z 0 0 false) m w,
   fun F M cs w=>(FOk F M k (holdsI X.sz k) (lookL la key lb value to_ ca) X.sz∧lookOk la key lb)∧∃a b ra rb lk,RdE X xa ⟨ka,ha,fa,na,ca,0,ba,ga'⟩ la a∧RdE X xb ⟨kb,hb,fb,nb,cb,0,bb,gb'⟩ lb b∧(∀q∈[ra,rb,lk],q.gr=none∧q.ex.2=0)∧Wd X (lkZ os (rowO s0 31 fca) (rowO (s0+1) 31 fcb) (s0+2) cs a b ra rb lk [fiO F M k (holdsI X.sz k) (lookL la key lb value to_ ca) X.sz]) (m+M+(na+nb)) w,
   fun F M cs w=>(FOk F M k (holdsI X.sz k) (lookL la key lb value to_ ca) X.sz∧lookOk la key lb)∧∃a j ra rb lk,RdE X xa ⟨ka,ha,fa,na,ca,0,ba,ga'⟩ la a∧(∀q∈[ra,rb,lk],q.gr=none∧q.ex.2=0)∧Wd X (lkZ os (rowO s0 31 fca) (rowO (s0+1) 31 fcb) (s0+2) cs a (rsO X.p xb (rat ⟨kb,hb,fb,nb,cb,0,bb,gb'⟩ j)) ra rb lk [fiO F M k (holdsI X.sz k) (lookL la key lb value to_ ca) X.sz]) (m+M+(na+nb)) w,
   fun er cs w=>((er=3∧¬lookOk la key lb)∨(er=6∧¬X.cm)∨er=5∧∀q,¬Rm X os q (blocksN (holdsI X.sz k) ca))∧∃a b ra rb lk,RdE X xa ⟨ka,ha,fa,na,ca,0,ba,ga'⟩ la a∧RdE X xb ⟨kb,hb,fb,nb,cb,0,bb,gb'⟩ lb b∧(∀q∈[ra,rb,lk],q.gr=none∧q.ex.2=0)∧Wd X (lkZ os (rowO s0 31 fca) (rowO (s0+1) 31 fcb) (s0+2) cs a b ra rb lk []) (m+(na+nb)+ca+2) w,
   fun er cs w=>((er=3∧¬lookOk la key lb)∨(er=6∧¬X.cm)∨er=5∧∀q,¬Rm X os q (blocksN (holdsI X.sz k) ca))∧∃a j ra rb lk,RdE X xa ⟨ka,ha,fa,na,ca,0,ba,ga'⟩ la a∧(∀q∈[ra,rb,lk],q.gr=none∧q.ex.2=0)∧Wd X (lkZ os (rowO s0 31 fca) (rowO (s0+1) 31 fcb) (s0+2) cs a (rsO X.p xb (rat ⟨kb,hb,fb,nb,cb,0,bb,gb'⟩ j)) ra rb lk []) (m+(na+nb)+ca+2) w,
   ?_,fun w w' q hb=>q.below hb,fun w q=>?_,fun w rb q hr=>?_,?_,?_,?_,?_,?_,?_,?_,?_⟩
  ·have k1:=hw0.new ((Below.refl w0.heap.size w0).alloc (Nat.le_refl _) (.cells (risC xa key false false 0).toArray 96)) (heap_alloc_new _ _:Row _ _ 96 (risC xa key false false 0)) (Nat.le_refl _)
   have k2:=k1.new ((Below.refl _ _).alloc (Nat.le_refl _) (.cells (risC xb 0 true false 0).toArray 96)) (heap_alloc_new _ _:Row _ _ 96 (risC xb 0 true false 0)) (Nat.le_refl _)
   have k3:=k2.new ((Below.refl _ _).alloc (Nat.le_refl _) (.cells (lkC w0.heap.size (w0.heap.size+1) key value to_ false false tup0).toArray 99)) (heap_alloc_new _ _:Row _ _ 99 (lkC w0.heap.size (w0.heap.size+1) key value to_ false false tup0)) (Nat.le_refl _)
   simp only[hsz,Nat.add_assoc,Nat.reduceAdd]at k3
   rw[hZ0]
   simpa [List.append_assoc]using k3
  ·rw[hZ0]at q
   exact hYF _ _ _ q
  ·have hrc:Row w rb 31 [.int .i64 fa,.int .i64 na,.int .i64 ka,.int .i64 ca,.int .i64 fb,.int .i64 nb,.int .i64 kb,.int .i64 cb]:=by rw[hfca,hfcb]at hr;exact hr
   refine(wd_jlay (nr:=2) (rb:=rb) (cr:=2) (s0:=((0:Nat),(0:Nat),false)) hS hS0 ho00 hc00 q hwd (by rw[←hca];exact hfa.len) ?_ (by omega) ⟨by omega,by omega⟩ hrc.lt (hrc.cell 3) ?_).mono ?_
   ·show X.sz+sumN Asn.gw (P.Z 0 0 false)≤X.rm
    rw[hZ0,sumN_app,hgw]
    show X.sz+(sumN Asn.gw os+(X.sz+(X.sz+(0+(0+(0+0))))))≤X.rm
    omega
   ·show ReadF (P.Z 0 0 false) w rb 2
    intro i hi
    have hma2:fiO fa na ka ha la X.sz∈P.Z 0 0 false:=by rw[hZ0];exact List.mem_append_left _ hYa
    have hmb2:fiO fb nb kb hb lb X.sz∈P.Z 0 0 false:=by rw[hZ0];exact List.mem_append_left _ hYb
    rcases(show i=0∨i=1 by omega)with rfl|rfl
    ·refine⟨fa,na,ka,ca,⟨hrc.cell 0,hrc.cell 1,hrc.cell 2,hrc.cell 3⟩,by have:=hfa.fst;omega,?_,.inr ?_⟩
     ·have h7:=hfa.len
      have h8:=blocks_le ha la.length
      have h9:=hfa.bn
      omega
     ·obtain⟨j,hj⟩:=List.mem_iff_getElem?.1 hma2
      exact⟨j,_,hj,rfl⟩
    ·refine⟨fb,nb,kb,cb,⟨hrc.cell 4,hrc.cell 5,hrc.cell 6,hrc.cell 7⟩,by have:=hfb.fst;omega,?_,.inr ?_⟩
     ·have h7:=hfb.len
      have h8:=blocks_le hb lb.length
      have h9:=hfb.bn
      omega
     ·obtain⟨j,hj⟩:=List.mem_iff_getElem?.1 hmb2
      exact⟨j,_,hj,rfl⟩
   ·rintro e w' (⟨F,M,z,he,q1,qg,q2,q3,q4⟩|⟨er,z,he,q0,q1,q2,q3,q4⟩)
    ·obtain⟨a,b,ra,rb,lk,rfl,ha,hb,hbr⟩:=hZe z q3
     rw[hLZ]at q4
     exact .inl ⟨F,M,he,⟨q1,qg⟩,a,b,ra,rb,lk,ha,hb,hbr,q4⟩
    ·obtain⟨a,b,ra,rb,lk,rfl,ha,hb,hbr⟩:=hZe z q3
     have q5:Wd X (lkZ os (rowO s0 31 fca) (rowO (s0+1) 31 fcb) (s0+2) Z4 a b ra rb lk []) (m+(na+nb)+ca+2) w':=by rw[←hLZ,List.append_nil];exact q4
     refine .inr ⟨er,he,q0,?_,a,b,ra,rb,lk,ha,hb,hbr,q5⟩
     rcases q1 with(q1|q1)|⟨q1,q6⟩
     ·exact .inl q1
     ·exact .inr (.inl q1)
     ·refine .inr (.inr ⟨q1,fun qq hq=>q6 qq ?_⟩)
      show Rm X (P.Z 0 0 false) qq _
      rw[hZ0,hY,List.append_assoc]
      exact rm_none hq fun y hy=>by
       simp at hy
       rcases hy with rfl|rfl|rfl|rfl|rfl|rfl|rfl|rfl<;>rfl
  ·rintro F M cs w x1 x2 x3 x4 hcs ⟨q1,a,b,ra,rb,lk,ha,hb,hbr,q2⟩
   exact⟨q1,a,b,ra,rb,lk,ha,hb,hbr,lkZ_store hcs q2 x1 x2 x3 x4⟩
  ·rintro er cs w x1 x2 x3 x4 hcs ⟨q1,a,b,ra,rb,lk,ha,hb,hbr,q2⟩
   exact⟨q1,a,b,ra,rb,lk,ha,hb,hbr,lkZ_store hcs q2 x1 x2 x3 x4⟩
  ·rintro F M cs w ⟨q1,a,b,ra,rb,lk,ha,hb,hbr,q2⟩
   exact q2.row lkZ_R
  ·rintro er cs w ⟨q1,a,b,ra,rb,lk,ha,hb,hbr,q2⟩
   exact q2.row lkZ_R
  ·rintro F M cs w u ⟨q1,a,b,ra,rb,lk,ha,hb,hbr,q2⟩
   refine(rd_close u q2 lkZ_b hb).mono ?_
   rintro e u' w' ⟨k1,k2,j,k3⟩
   rw[lkZ_setb]at k3
   exact⟨k1,k2,q1,a,j,ra,rb,lk,ha,hbr,k3⟩
  ·rintro er cs w u ⟨q1,a,b,ra,rb,lk,ha,hb,hbr,q2⟩
   refine(rd_close u q2 lkZ_b hb).mono ?_
   rintro e u' w' ⟨k1,k2,j,k3⟩
   rw[lkZ_setb]at k3
   exact⟨k1,k2,q1,a,j,ra,rb,lk,ha,hbr,k3⟩
  ·rintro F M cs w u ⟨q1,a,j,ra,rb,lk,ha,hbr,q2⟩
   refine(rd_close u q2 lkZ_a ha).mono ?_
   rintro e u' w' ⟨k1,k2,j2,k3⟩
   rw[lkZ_seta]at k3
   refine⟨k1,k2,k3.row lkZ_R,.inl ⟨F,M,rfl,q1.1,q1.2,lkZ_cut (fun q hq=>?_) k3⟩⟩
   simp at hq
   rcases hq with rfl|rfl|rfl|rfl|rfl|rfl|rfl<;>first|exact⟨rfl,rfl⟩|exact hbr _ (by simp)
  ·rintro er cs w u her ⟨q1,a,j,ra,rb,lk,ha,hbr,q2⟩
   refine(rd_close u q2 lkZ_a ha).mono ?_
   rintro e u' w' ⟨k1,k2,j2,k3⟩
   rw[lkZ_seta]at k3
   have k4:=lkZ_cut (fun q hq=>by
    simp at hq
    rcases hq with rfl|rfl|rfl|rfl|rfl|rfl|rfl<;>first|exact⟨rfl,rfl⟩|exact hbr _ (by simp)) k3
   rw[List.append_nil]at k4
   exact⟨k1,k2,k3.row lkZ_R,.inr ⟨er,rfl,her,q1,k4⟩⟩
 have HCF:Hid (∀w,Below W3.heap.size W3 w→(w.cell? ⟨s0,0,none⟩=some (.int .i64 fa)∧w.cell? ⟨s0,1,none⟩=some (.int .i64 na)∧w.cell? ⟨s0,2,none⟩=some (.int .i64 ka)∧w.cell? ⟨s0,3,none⟩=some (.int .i64 ca))∧w.cell? ⟨s0+1,0,none⟩=some (.int .i64 fb)∧w.cell? ⟨s0+1,1,none⟩=some (.int .i64 nb)∧w.cell? ⟨s0+1,2,none⟩=some (.int .i64 kb)∧w.cell? ⟨s0+1,3,none⟩=some (.int .i64 cb)):=fun w hb=>by
  have q:=hYF [] m w (by rw[List.append_nil];exact h3.below hb)
  rw[hfca,hfcb]at q
  exact⟨⟨q.1.cell 0,q.1.cell 1,q.1.cell 2,q.1.cell 3⟩,q.2.cell 0,q.2.cell 1,q.2.cell 2,q.2.cell 3⟩
 have HCY:Hid (∀zz M w,Wd X (Y++zz) M w→w.cell? ⟨s0+1,0,none⟩=some (.int .i64 fb)∧w.cell? ⟨s0+1,1,none⟩=some (.int .i64 nb)∧w.cell? ⟨s0+1,2,none⟩=some (.int .i64 kb)∧w.cell? ⟨s0+1,3,none⟩=some (.int .i64 cb)):=fun zz M w q=>by
  have q:=hYF zz M w q
  rw[hfcb]at q
  exact⟨q.2.cell 0,q.2.cell 1,q.2.cell 2,q.2.cell 3⟩
 have hn0:decide ((to_:Int)<0)=false:=by simp
 have hn5:decide ((to_:Int)≥5)=false:=by simp;omega
 obtain⟨t1,ht1⟩:∃t1,t1=to_+1:=⟨_,rfl⟩
 have hs1:(to_:Int)+1=(t1:Int):=by omega
 have hmx:(if ka<t1 then (t1:Int)else (ka:Int))=(k:Int):=by split<;>omega
 have ht1b:t1≤5:=by omega
 have hkab:ka≤5:=hfa.kk.2
 have HFCA:=Lib.hid hfca
 have HFCB:=Lib.hid hfcb
 have HW3:=Lib.hid hW3
 replace hs0:=Lib.hid hs0
 generalize hPO:LkRes X os (lookL la key lb value to_ ca) (lookOk la key lb) m (na+nb) ca k=POST at*
 replace hPO:=Lib.hid hPO
 generalize(lookL la key lb value to_ ca).length=ol at*
 clear h h1 h2 h3 hfa hma hca hfb hmb hcb hkey hval hto hk hroom hn hwd hW3 hsz hY hbare hgw hYa hYb hYR hYF ht1 hfca hfcb
 obtain⟨⟨a0,a1,a2,a3⟩,b0,b1,b2,b3⟩:=HCF.out W3 (Below.refl _ _)
 go_enter_defers Tryz.func19,Tryz.ntmps19
 go_upto_region 1 with(fail)
 rw[←HW3.out,←hs0.out]
 clear HW3
 go_wp2_with fail
 refine(HHA.out _).mono ?_
 rintro e w4 ⟨rfl,hb4⟩
 have HB4:=Lib.hid hb4
 clear hb4 a0 a1 a2 a3 b0 b1 b2 b3
 obtain⟨⟨a0,a1,a2,a3⟩,b0,b1,b2,b3⟩:=HCF.out w4 HB4.out
 go_wp2_with fail
 refine(HHB.out _).mono ?_
 rintro e w5 ⟨rfl,hb5⟩
 have HB5:=Lib.hid (HB4.out.trans (hb5.mono HB4.out.size))
 clear hb5 a0 a1 a2 a3 b0 b1 b2 b3
 obtain⟨⟨a0,a1,a2,a3⟩,b0,b1,b2,b3⟩:=HCF.out w5 HB5.out
 have HC5:=Lib.hid (HCB.out w5 HB5.out)
 go_wp2_with fail
 refine HC5.out.mono ?_
 rintro e w6 ⟨rfl,hb6⟩
 have HB6:=Lib.hid (HB5.out.trans (hb6.mono HB5.out.size))
 clear hb6 a0 a1 a2 a3 b0 b1 b2 b3 HC5
 obtain⟨⟨a0,a1,a2,a3⟩,b0,b1,b2,b3⟩:=HCF.out w6 HB6.out
 have HR6:=Lib.hid (HRA.out w6 HB6.out)
 go_wp2_with fail
 refine HR6.out.mono ?_
 rintro e w7 ⟨xa,ba,ga,rfl,hrta,hw7⟩
 have HRTA:=Lib.hid hrta
 have HW7:=Lib.hid hw7
 have HR7:=Lib.hid (HRB.out xa ba ga w7 hw7)
 clear hrta hw7 a0 a1 a2 a3 b0 b1 b2 b3 HR6 HRA
 obtain⟨b0,b1,b2,b3⟩:=HCY.out _ _ _ HW7.out
 go_wp2_with fail
 refine HR7.out.mono ?_
 rintro e w8 ⟨xb,bb,gb,rfl,hrtb,hw8⟩
 obtain⟨A,C,C1,N,N1,hA,hAb,hAr,hlay,hCs,hNs,hCr,hNr,hCb,hNb,hCa,hNa⟩:=HINIT.out xa ba ga xb bb gb w8 HRTA.out hrtb hw8
 have hA:A (((w8.alloc (.cells #[.func (.func 41) #[.pointer (some ⟨xa,0,none⟩)] #[],.int .i64 key,.bool false,.bool false,.int .i64 0] 96)).alloc (.cells #[.func (.func 41) #[.pointer (some ⟨xb,0,none⟩)] #[],.int .i64 0,.bool true,.bool false,.int .i64 0] 96)).alloc (.cells #[.func (.func 46) #[.pointer (some ⟨w8.heap.size,0,none⟩)] #[],.func (.func 46) #[.pointer (some ⟨w8.heap.size+1,0,none⟩)] #[],.int .i64 key,.int .i64 value,.int .i64 to_,.bool false,.bool false,.int .i64 0,.int .i64 0,.int .i64 0,.int .i64 0,.int .i64 0] 99)):=hA
 have HA:=Lib.hid hA
 have HAB:=Lib.hid hAb
 have HAR:=Lib.hid hAr
 have HLAY:=Lib.hid hlay
 have HCS:=Lib.hid hCs
 have HNS:=Lib.hid hNs
 have HCR:=Lib.hid hCr
 have HNR:=Lib.hid hNr
 have HCLB:=Lib.hid hCb
 have HNLB:=Lib.hid hNb
 have HCLA:=Lib.hid hCa
 have HNLA:=Lib.hid hNa
 clear hA hAb hAr hlay hCs hNs hCr hNr hCb hNb hCa hNa hrtb hw8 HINIT HR7 HRB b0 b1 b2 b3 HW7 HRTA
 go_upto_region 14 with(fail)
 generalize hw9:(((w8.alloc (.cells #[.func (.func 41) #[.pointer (some ⟨xa,0,none⟩)] #[],.int .i64 key,.bool false,.bool false,.int .i64 0] 96)).alloc (.cells #[.func (.func 41) #[.pointer (some ⟨xb,0,none⟩)] #[],.int .i64 0,.bool true,.bool false,.int .i64 0] 96)).alloc (.cells #[.func (.func 46) #[.pointer (some ⟨w8.heap.size,0,none⟩)] #[],.func (.func 46) #[.pointer (some ⟨w8.heap.size+1,0,none⟩)] #[],.int .i64 key,.int .i64 value,.int .i64 to_,.bool false,.bool false,.int .i64 0,.int .i64 0,.int .i64 0,.int .i64 0,.int .i64 0] 99))=w9 at*
 replace hw9:=Lib.hid hw9
 have hr9:=HAR.out _ HA.out
 rw[HFCA.out,HFCB.out]at hr9
 have a0:w9.cell? ⟨s0,0,none⟩=some (.int .i64 fa):=hr9.1.cell 0
 have a1:w9.cell? ⟨s0,1,none⟩=some (.int .i64 na):=hr9.1.cell 1
 have a2:w9.cell? ⟨s0,2,none⟩=some (.int .i64 ka):=hr9.1.cell 2
 have a3:w9.cell? ⟨s0,3,none⟩=some (.int .i64 ca):=hr9.1.cell 3
 have b0:w9.cell? ⟨s0+1,0,none⟩=some (.int .i64 fb):=hr9.2.cell 0
 have b1:w9.cell? ⟨s0+1,1,none⟩=some (.int .i64 nb):=hr9.2.cell 1
 have b2:w9.cell? ⟨s0+1,2,none⟩=some (.int .i64 kb):=hr9.2.cell 2
 have b3:w9.cell? ⟨s0+1,3,none⟩=some (.int .i64 cb):=hr9.2.cell 3
 have HA10:=Lib.hid (HAB.out w9 _ HA.out ((Below.refl w9.heap.size w9).alloc (Nat.le_refl _) (.cells #[.int .i64 fa,.int .i64 na,.int .i64 ka,.int .i64 ca,.int .i64 fb,.int .i64 nb,.int .i64 kb,.int .i64 cb] 31)))
 have hr10:Row (w9.alloc (.cells #[.int .i64 fa,.int .i64 na,.int .i64 ka,.int .i64 ca,.int .i64 fb,.int .i64 nb,.int .i64 kb,.int .i64 cb] 31)) w9.heap.size 31 (fca++fcb):=by rw[HFCA.out,HFCB.out];exact heap_alloc_new _ _
 have HL:=Lib.hid (HLAY.out _ _ HA10.out hr10)
 clear hr9 hr10
 go_wp2_with fail
 refine HL.out.mono ?_
 rintro e w11 (⟨F,M,rfl,hc⟩|⟨er,rfl,hpos,hn⟩)
 ·have HR6:=Lib.hid (HCR.out _ _ _ _ hc)
  have H9:=Lib.hid (HCS.out F M Z4 w11 (.int .i64 F) (.int .i64 M) (.int .i64 k) (.int .i64 ol) rfl hc)
  clear hc a0 a1 a2 a3 b0 b1 b2 b3 HL HA10
  have z0:w11.cell? ⟨s0+2,0,none⟩=some (.int .i64 0):=HR6.out.cell 0
  have z1:w11.cell? ⟨s0+2,1,none⟩=some (.int .i64 0):=HR6.out.cell 1
  have z2:w11.cell? ⟨s0+2,2,none⟩=some (.int .i64 0):=HR6.out.cell 2
  have z3:w11.cell? ⟨s0+2,3,none⟩=some (.int .i64 0):=HR6.out.cell 3
  have f0:=HR6.out.free 0
  have f1:=HR6.out.free 1
  have f2:=HR6.out.free 2
  have f3:=HR6.out.free 3
  go_wp2
  refine leaves_cons (f:=40) (args:=#[.pointer (some ⟨xb,0,none⟩)]) (by simp) (by simp[go_sem]) ?_
  refine(HCLB.out _ _ _ _ _ H9.out).mono ?_
  rintro e u' w12 ⟨rfl,rfl,h12⟩
  refine leaves_cons (f:=40) (args:=#[.pointer (some ⟨xa,0,none⟩)]) (by simp[settle]) (by simp[go_sem]) ?_
  refine(HCLA.out _ _ _ _ _ h12).mono ?_
  rintro e u' w13 ⟨rfl,rfl,hr9,hpost⟩
  have r0:=hr9.cell 0
  have r1:=hr9.cell 1
  have r2:=hr9.cell 2
  have r3:=hr9.cell 3
  simp only[List.getElem?_cons_zero,List.getElem?_cons_succ]at r0 r1 r2 r3
  exact⟨.tuple #[.agg #[.int .i64 F,.int .i64 M,.int .i64 k,.int .i64 ol],.int .i64 0],by simp[results,Tryz.results19,go_sem,r0,r1,r2,r3],hpost⟩
 ·have HPOS:=Lib.hid hpos
  have HR6:=Lib.hid (HNR.out _ _ _ hn)
  have H9:=Lib.hid (HNS.out er Z4 w11 (.int .i64 0) (.int .i64 0) (.int .i64 0) (.int .i64 0) rfl hn)
  clear hn hpos a0 a1 a2 a3 b0 b1 b2 b3 HL HA10
  have z0:w11.cell? ⟨s0+2,0,none⟩=some (.int .i64 0):=HR6.out.cell 0
  have z1:w11.cell? ⟨s0+2,1,none⟩=some (.int .i64 0):=HR6.out.cell 1
  have z2:w11.cell? ⟨s0+2,2,none⟩=some (.int .i64 0):=HR6.out.cell 2
  have z3:w11.cell? ⟨s0+2,3,none⟩=some (.int .i64 0):=HR6.out.cell 3
  have f0:=HR6.out.free 0
  have f1:=HR6.out.free 1
  have f2:=HR6.out.free 2
  have f3:=HR6.out.free 3
  go_wp2
  refine leaves_cons (f:=40) (args:=#[.pointer (some ⟨xb,0,none⟩)]) (by simp) (by simp[go_sem]) ?_
  refine(HNLB.out _ _ _ _ H9.out).mono ?_
  rintro e u' w12 ⟨rfl,rfl,h12⟩
  refine leaves_cons (f:=40) (args:=#[.pointer (some ⟨xa,0,none⟩)]) (by simp[settle]) (by simp[go_sem]) ?_
  refine(HNLA.out _ _ _ _ HPOS.out h12).mono ?_
  rintro e u' w13 ⟨rfl,rfl,hr9,hpost⟩
  have r0:=hr9.cell 0
  have r1:=hr9.cell 1
  have r2:=hr9.cell 2
  have r3:=hr9.cell 3
  simp only[List.getElem?_cons_zero,List.getElem?_cons_succ]at r0 r1 r2 r3
  exact⟨.tuple #[.agg #[.int .i64 0,.int .i64 0,.int .i64 0,.int .i64 0],.int .i64 er],by simp[results,Tryz.results19,go_sem,r0,r1,r2,r3],hpost⟩
end
def oT:Nat→Tup
 |1=>⟨1,0,0,0,0⟩
 |2=>⟨1,2,0,0,0⟩
 |3=>⟨1,2,3,0,0⟩
 | _=>tup0
def pT:Nat→Tup
 |1=>⟨0,1,0,0,0⟩
 |2=>⟨0,1,2,0,0⟩
 |3=>⟨0,1,2,3,0⟩
 | _=>tup0
def qT:Nat→Tup
 |1=>⟨2,1,0,0,0⟩
 |2=>⟨3,1,2,0,0⟩
 |3=>⟨4,1,2,3,0⟩
 | _=>tup0
def zT(n:Nat)(v:Int)(t:Tup):Tup:=match n with
 |1=>⟨v,t.a,0,0,0⟩
 |2=>⟨v,t.a,t.b,0,0⟩
 | _=>⟨v,t.a,t.b,t.c,0⟩
theorem lt3{i:Nat}(h:i<3):i=0∨i=1∨i=2:=by omega
theorem le3{n:Nat}(h:0<n∧n≤3):n=1∨n=2∨n=3:=by omega
theorem o_set{i:Nat}(h:i<3):setT (oT i) i ((i:Int)+1)=oT (i+1):=by rcases lt3 h with rfl|rfl|rfl<;>rfl
theorem p_set{i:Nat}(h:i<3):setT (pT i) (i+1) ((i:Int)+1)=pT (i+1):=by rcases lt3 h with rfl|rfl|rfl<;>rfl
theorem q_set{n:Nat}(h:0<n∧n≤3):setT (pT n) 0 ((n:Int)+1)=qT n:=by rcases le3 h with rfl|rfl|rfl<;>rfl
theorem o_ok{n:Nat}(h:0<n∧n≤3):Fm (oT n)∧nameN (oT n)=n∧inW (n+1) (oT n):=by
 rcases le3 h with rfl|rfl|rfl<;>decide
theorem q_ok{n:Nat}(h:0<n∧n≤3):Fm (qT n)∧nameN (qT n)=n+1∧inW (n+1) (qT n):=by
 rcases le3 h with rfl|rfl|rfl<;>decide
theorem cut_o{n:Nat}(h:0<n∧n≤3){t:Tup}(hf:fitsT n t=true)(v:Int):cutT (oT n) (setT t n v)=t:=by
 obtain⟨a,b,c,d,e⟩:=t
 have hfm:=(o_ok h).1
 unfold cutT
 rw[if_pos hfm]
 rcases le3 h with rfl|rfl|rfl<;>(simp[fitsT,Tup.cols]at hf;simp[oT,setT,cutO,tupL,kol,colT,Tup.cols,hf])
theorem cut_q{n:Nat}(h:0<n∧n≤3)(t:Tup)(v:Int):cutT (qT n) (setT t n v)=zT n v t:=by
 obtain⟨a,b,c,d,e⟩:=t
 have hfm:=(q_ok h).1
 unfold cutT
 rw[if_pos hfm]
 rcases le3 h with rfl|rfl|rfl<;>simp[qT,zT,setT,cutO,tupL,kol,colT,Tup.cols]
theorem z_0{n:Nat}(h:0<n∧n≤3)(v:Int)(t:Tup):colT (zT n v t) 0=v:=by rcases le3 h with rfl|rfl|rfl<;>rfl
theorem z_n{n:Nat}(h:0<n∧n≤3)(v:Int)(t:Tup):colT (zT n v t) n=colT t (n-1):=by rcases le3 h with rfl|rfl|rfl<;>rfl
theorem set_0{n:Nat}(h:0<n∧n≤3)(t:Tup)(v:Int):colT (setT t (n+1) v) 0=colT t 0:=by rcases le3 h with rfl|rfl|rfl<;>rfl
theorem set_n{n:Nat}(h:0<n∧n≤3)(t:Tup)(v:Int):colT (setT t (n+1) v) (n+1)=v:=by rcases le3 h with rfl|rfl|rfl<;>rfl
theorem out_at{chg:Nat→Tup→Option Tup}{g:Nat→Tup→Tup}(hg:∀j t,chg j t=some (g j t)){l:List Tup}:∀n,n≤l.length→(outL chg l n).length=n∧∀i,i<n→(outL chg l n)[i]?=some (g i (tAt l i)):=fun n=>by
 induction n with
 |zero=>exact fun _=>⟨rfl,fun i hi=>absurd hi (by omega)⟩
 |succ n ih=>
  intro hn
  obtain⟨h1,h2⟩:=ih (by omega)
  have hs:=outL_step (chg:=chg) (tAt_some (l:=l) (j:=n) (by omega))
  rw[hg]at hs
  rw[hs]
  refine⟨by simp[h1],fun i hi=>?_⟩
  rcases Nat.lt_or_ge i n with h|h
  ·rw[List.getElem?_append_left (by omega)];exact h2 i h
  ·obtain rfl:i=n:=by omega
   rw[List.getElem?_append_right (by omega),h1,Nat.sub_self];rfl
section
variable {l : List Tup} {n len : Nat} {fr : Int}
def xL(n:Nat)(fr:Int)(l:List Tup)(len:Nat):List Tup:=outL (numC n fr) l len
theorem x_at(hl:l.length=len):(xL n fr l len).length=len∧∀i,i<len→(xL n fr l len)[i]?=some (setT (tAt l i) n (fr+i)):=
 out_at (g:=fun j t=>setT t n (fr+j)) (fun _ _=>rfl) len (by omega)
def yL(n:Nat)(fr:Int)(l:List Tup)(len:Nat):List Tup:=outL (cutC (oT n)) (xL n fr l len) len
def zL(n:Nat)(fr:Int)(l:List Tup)(len:Nat):List Tup:=outL (cutC (qT n)) (xL n fr l len) len
theorem y_eq(hl:l.length=len)(hn:0<n∧n≤3)(hf:∀u∈l,fitsT n u=true):yL n fr l len=l:=by
 obtain⟨h1,h2⟩:=x_at (n:=n) (fr:=fr) hl
 obtain⟨h3,h4⟩:=out_at (chg:=cutC (oT n)) (g:=fun _ t=>cutT (oT n) t) (fun _ _=>rfl) len (by omega:len≤(xL n fr l len).length)
 refine List.ext_getElem? fun i=>?_
 rcases Nat.lt_or_ge i len with h|h
 ·have h5:=h4 i h
  rw[tAt_of (h2 i h)]at h5
  have h6:=tAt_some (l:=l) (j:=i) (by omega)
  rw[h6]
  unfold yL
  rw[h5,cut_o hn (hf _ (List.mem_of_getElem? h6))]
 ·rw[List.getElem?_eq_none (by unfold yL;omega),List.getElem?_eq_none (by omega)]
theorem z_at(hl:l.length=len)(hn:0<n∧n≤3):(zL n fr l len).length=len∧∀i,i<len→tAt (zL n fr l len) i=zT n (fr+i) (tAt l i):=by
 obtain⟨h1,h2⟩:=x_at (n:=n) (fr:=fr) hl
 obtain⟨h3,h4⟩:=out_at (chg:=cutC (qT n)) (g:=fun _ t=>cutT (qT n) t) (fun _ _=>rfl) len (by omega:len≤(xL n fr l len).length)
 refine⟨h3,fun i h=>?_⟩
 have h5:=h4 i h
 rw[tAt_of (h2 i h),cut_q hn]at h5
 exact tAt_of h5
theorem z_key(hl:l.length=len)(hn:0<n∧n≤3){i:Nat}(h:i<len):colT (tAt (zL n fr l len) i) 0=fr+i:=by
 rw[(z_at hl hn).2 i h,z_0 hn]
theorem z_last(hl:l.length=len)(hn:0<n∧n≤3){i:Nat}(h:i<len)(h0:0<i):lastC (zL n fr l len) 0 i=fr+i-1:=by
 obtain⟨j,rfl⟩:∃j,i=j+1:=⟨i-1,by omega⟩
 rw[lastC_succ (tAt_some (l:=zL n fr l len) (j:=j) (by rw[(z_at hl hn).1];omega)),z_key hl hn (by omega)]
 omega
theorem z_ok(hl:l.length=len)(hn:0<n∧n≤3):lookOk (zL n fr l len) 0 (zL n fr l len):=by
 have hz:=(z_at (fr:=fr) hl hn).1
 refine⟨fun q h0 hq=>.inr (.inl ?_),fun q hq r h0 hr _=>.inr (.inl ?_)⟩
 ·rw[z_last hl hn (by omega) h0,z_key hl hn (by omega)];omega
 ·rw[z_last hl hn (by omega) h0,z_key hl hn (by omega)];omega
theorem z_find(hl:l.length=len)(hn:0<n∧n≤3){i:Nat}(h:i<len):lookV (zL n fr l len) (fr+i) n=colT (tAt l i) (n-1):=by
 have hz:=(z_at (fr:=fr) hl hn).1
 have hf:(zL n fr l len).find? (fun u=>decide (fr+i≤colT u 0))=some (tAt (zL n fr l len) i):=by
  rw[List.find?_eq_some_iff_getElem]
  have hi:i<(zL n fr l len).length:=by omega
  have e:∀j (hj:j<(zL n fr l len).length),(zL n fr l len)[j]=tAt (zL n fr l len) j:=fun j hj=>by
   have:=tAt_some hj
   rw[List.getElem?_eq_getElem hj]at this
   injection this
  refine⟨by rw[z_key hl hn h];simp,i,hi,e i hi,fun j hj=>?_⟩
  rw[e j (by omega),z_key hl hn (by omega)]
  simp;omega
 unfold lookV
 rw[hf]
 simp only[z_key hl hn h,if_true]
 rw[(z_at hl hn).2 i h,z_n hn]
def uL(n:Nat)(fr:Int)(l:List Tup)(len:Nat):List Tup:=lookL (zL n fr l len) 0 (zL n fr l len) n (n+1) len
theorem u_at(hl:l.length=len)(hn:0<n∧n≤3):(uL n fr l len).length=len∧∀i,i<len→colT (tAt (uL n fr l len) i) 0=fr+i∧colT (tAt (uL n fr l len) i) (n+1)=colT (tAt l i) (n-1):=by
 have hz:=(z_at (fr:=fr) hl hn).1
 refine⟨lookL_len (by omega),fun i h=>?_⟩
 have e:tAt (uL n fr l len) i=setT (tAt (zL n fr l len) i) (n+1) (lookV (zL n fr l len) (colT (tAt (zL n fr l len) i) 0) n):=by
  apply tAt_of
  unfold uL lookL
  rw[List.getElem?_map,List.getElem?_take,if_pos h,tAt_some (by omega)];rfl
 rw[e,set_0 hn,set_n hn,z_key hl hn h,z_find hl hn h]
 exact⟨rfl,rfl⟩
end
end Go.Proofs.YtfpjmhnmpjdbiaaGreat
