/- What the laws stand on. -/
import Derived.Test.YtfpjmhnmpjdbiaaGreatFurC
namespace Go.Proofs.YtfpjmhnmpjdbiaaGreat
set_option linter.unusedVariables false
set_option maxRecDepth 100000
set_option maxHeartbeats 8000000
open Go.ChangeShapes Go.WideShapes Go.ChangeAt Go.RowKit
open Go.Joins Go.Deep
open Go.ChangeShapes Go.WideShapes Go.ChangeAt Go.RowKit Go.Maps
open Go.ChangeMaps (setBlock heap_setBlock_same heap_setBlock_other)
structure SrcC (X:Cx) (fN:Nat) (vF:Value) {σ:Type} (P:σ→Prop) (Z:σ→List Asn) (O:σ→List Tup) (mu c:σ→Nat) (nz:Nat) (Ze:List Asn→Prop) (Out:List Tup) (Fin:Prop) (Bad:Nat→Prop) (bd ct k:Nat):Prop where
 ent:∀args w,Sem.run Tryz.prog (callFunc fN args) w=.ok (.enter fN args) w
 len:∀s,(Z s).length=nz
 out:∀s,P s→(O s).length≤bd∧∀u∈O s,TupOk u∧fitsT k u=true
 cost:∀s,P s→c s≤ct
 zok:∀s,P s→Ze (Z s)
 next:∀s zz m W,P s→Wd X (Z s++zz) (m+c s) W→X.N+m+ct+1≤1000000→Calls Tryz.prog fN #[vF] W fun e w'=>
  (∃t s',e=.returned (.tuple #[tupV t,.bool true,.int .i64 0])∧P s'∧mu s'<mu s∧O s'=O s++[t]∧Wd X (Z s'++zz) (m+c s') w')∨
  (∃z',e=.returned (.tuple #[tupV tup0,.bool false,.int .i64 0])∧O s=Out∧Fin∧z'.length=nz∧Ze z'∧Wd X (z'++zz) (m+ct) w')∨
  (∃(er:Nat) (z':List Asn),e=.returned (.tuple #[tupV tup0,.bool false,.int .i64 er])∧0<er∧(Bad er∨er=6∧¬X.cm)∧z'.length=nz∧Ze z'∧Wd X (z'++zz) (m+ct+1) w')
structure KP where
 X:Cx
 nz:Nat
 Ze:List Asn→Prop
 Out:List Tup
 Fin:Prop
 Bad:Nat→Prop
 bd:Nat
 ct:Nat
 m:Nat
 x:Nat
 t:Wt
 R:Nat
structure KP.Ok (P:KP):Prop where
 ok:WtOk P.t P.X.sz
 bd:P.t.bound=P.bd
 nil:P.t.l=[]
 n:P.X.N+P.m+P.ct+P.bd+2≤1000000
def KP.tl(P:KP)(l:List Tup):Wt:={P.t with l:=l}
def KP.Z(P:KP)(z:List Asn)(cs:List Value)(a:Asn):List Asn:=z++[rowO P.R 31 cs,a]
def KP.Why(P:KP)(er:Nat):Prop:=P.Bad er∨er=6∧¬P.X.cm
def KP.J{σ:Type}(P:KP)(Q:σ→Prop)(Z:σ→List Asn)(O:σ→List Tup)(mu c:σ→Nat)(n:Nat)(W:World):Prop:=
 ∃s,Q s∧mu s=n∧Wd P.X (P.Z (Z s) Z4 (wrO P.X.p P.x (P.tl (O s)) P.X.sz)) (P.m+(O s).length/P.t.h+c s) W
def KP.Jm{σ:Type}(P:KP)(Q:σ→Prop)(Z:σ→List Asn)(O:σ→List Tup)(mu c:σ→Nat)(t:Tup)(n:Nat)(W:World):Prop:=
 ∃s l,Q s∧mu s=n∧O s=l++[t]∧Wd P.X (P.Z (Z s) Z4 (wrO P.X.p P.x (P.tl l) P.X.sz)) (P.m+l.length/P.t.h+c s) W
def KP.Fit(P:KP):Prop:=P.Out.length≤P.bd∧(∀u∈P.Out,TupOk u∧fitsT P.t.k u=true)∧P.Fin
def KP.E(P:KP)(W:World):Prop:=∃z,z.length=P.nz∧P.Ze z∧P.Fit∧Wd P.X (P.Z z Z4 (wrO P.X.p P.x (P.tl P.Out) P.X.sz)) (P.m+P.Out.length/P.t.h+P.ct) W
def KP.Er(P:KP)(cs:List Value)(er:Nat)(W:World):Prop:=∃z a l,z.length=P.nz∧P.Ze z∧P.Why er∧l.length≤P.bd∧(a=wrO P.X.p P.x (P.tl l) P.X.sz∨a=wsO P.X.p P.x (P.tl l))∧Wd P.X (P.Z z cs a) (P.m+P.ct+P.bd+2) W
def KP.N(P:KP)(cs:List Value)(er:Nat)(W:World):Prop:=∃z l,z.length=P.nz∧P.Ze z∧P.Why er∧Wd P.X (P.Z z cs (wsO P.X.p P.x (P.tl l))) (P.m+P.ct+P.bd+2) W
def KP.C(P:KP)(cs:List Value)(W:World):Prop:=∃z,z.length=P.nz∧P.Ze z∧P.Fit∧Wd P.X (P.Z z cs (wfO P.X.p P.x (P.tl P.Out) P.X.sz)) (P.m+blocksN P.t.h P.Out.length+P.ct) W
section
variable {P : KP} {W W' : World} {z : List Asn} {cs cs' : List Value} {a b : Asn} {er : Nat} {l : List Tup}
theorem KP.atW(P:KP)(hz:z.length=P.nz)(cs:List Value)(a:Asn):(P.Z z cs a)[P.nz+1]?=some a:=by rw[←hz];simp[KP.Z]
theorem KP.setW(P:KP)(hz:z.length=P.nz)(cs:List Value)(a b:Asn):(P.Z z cs a).set (P.nz+1) b=P.Z z cs b:=by rw[←hz];simp[KP.Z]
theorem KP.atR(P:KP)(hz:z.length=P.nz)(cs:List Value)(a:Asn):(P.Z z cs a)[P.nz]?=some (rowO P.R 31 cs):=by rw[←hz];simp[KP.Z]
theorem KP.setR(P:KP)(hz:z.length=P.nz)(cs cs':List Value)(a:Asn):(P.Z z cs a).set P.nz (rowO P.R 31 cs')=P.Z z cs' a:=by rw[←hz];simp[KP.Z]
theorem KP.tlOk(hP:P.Ok)(hl:l.length≤P.bd):WtOk (P.tl l) P.X.sz:=
 ⟨hP.ok.k,hP.ok.h,hP.ok.sz,⟨hP.ok.bound.1,by show l.length≤P.t.bound;rw[hP.bd];exact hl⟩,hP.ok.blocks,hP.ok.first⟩
theorem KP.store4{M:Nat}(hz:z.length=P.nz)(h:Wd P.X (P.Z z cs a) M W)(hcs:cs.length=4)(x1 x2 x3 x4:Value):Wd P.X (P.Z z [x1,x2,x3,x4] a) M ((((W.setCell ⟨P.R,0,none⟩ x1).setCell ⟨P.R,1,none⟩ x2).setCell ⟨P.R,2,none⟩ x3).setCell ⟨P.R,3,none⟩ x4):=by
 have h1:=Wd.store h (P.atR hz _ _) (by decide) 0 x1
 rw[P.setR hz]at h1
 have h2:=h1.store (P.atR hz _ _) (by decide) 1 x2
 rw[P.setR hz]at h2
 have h3:=h2.store (P.atR hz _ _) (by decide) 2 x3
 rw[P.setR hz]at h3
 have h4:=h3.store (P.atR hz _ _) (by decide) 3 x4
 rw[P.setR hz]at h4
 match cs,hcs with
 |[c1,c2,c3,c4],_=>exact h4
theorem div_next(n h:Nat):(n+1)/h=n/h+((n+1)/h-n/h):=by
 have:=Nat.div_le_div_right (c:=h) (show n≤n+1 by omega)
 omega
theorem KP.tell{σ:Type}{fN k:Nat}{vF:Value}{Q:σ→Prop}{Z:σ→List Asn}{O:σ→List Tup}{mu c:σ→Nat}(hP:P.Ok)(hk:P.t.k=k)(hS:SrcC P.X fN vF Q Z O mu c P.nz P.Ze P.Out P.Fin P.Bad P.bd P.ct k):
  TellC fN vF (P.J Q Z O mu c) (P.Jm Q Z O mu c) P.E (P.Er Z4):=by
 rintro n w ⟨s,hs,hmu,hw⟩
 have hd1:=Nat.div_le_self (O s).length P.t.h
 have hd2:=(hS.out s hs).1
 have hn:=hP.n
 refine(hS.next s _ (P.m+(O s).length/P.t.h) w hs hw (by omega)).mono ?_
 rintro e w' (⟨t,s',he,h1,h2,h3,h4⟩|⟨z',he,h1,hF,h2,h3,h4⟩|⟨er,z',he,h0,h1,h2,h3,h4⟩)
 ·exact .inl ⟨t,mu s',he,by omega,s',O s,h1,rfl,h3,h4⟩
 ·have hof:=(hS.out s hs).2
  rw[h1]at h4 hd2 hof
  exact .inr (.inl ⟨he,z',h2,h3,⟨hd2,by rw[hk];exact hof,hF⟩,h4⟩)
 ·exact .inr (.inr ⟨er,he,h0,z',_,O s,h2,h3,h1,hd2,.inl rfl,h4.mono (by omega) (by omega)⟩)
theorem KP.take{σ:Type}{fN k:Nat}{vF:Value}{Q:σ→Prop}{Z:σ→List Asn}{O:σ→List Tup}{mu c:σ→Nat}(hP:P.Ok)(hk:P.t.k=k)(hS:SrcC P.X fN vF Q Z O mu c P.nz P.Ze P.Out P.Fin P.Bad P.bd P.ct k):
  TakeC 54 (.pointer (some ⟨P.x,0,none⟩)) (P.J Q Z O mu c) (P.Jm Q Z O mu c) (P.Er Z4):=by
 rintro t n w ⟨s,l,hs,hmu,ho,hw⟩
 obtain⟨ho1,ho2⟩:=hS.out s hs
 have hcs:=hS.cost s hs
 rw[ho]at ho1 ho2
 have hll:l.length+1≤P.bd:=by simpa using ho1
 have hn:=hP.n
 have hd1:=Nat.div_le_self l.length P.t.h
 have hd2:=Nat.div_le_self (l.length+1) P.t.h
 refine(wd_put hw (P.atW (hS.len s) _ _) (KP.tlOk hP (by omega)) (by omega) (tu:=t) (by show fitsT P.t.k t=true;rw[hk];exact(ho2 t (by simp)).2) (by show l.length<P.t.bound;rw[hP.bd];omega)).mono ?_
 rintro e w' (⟨he,hw2⟩|⟨he,hno,hw2⟩)
 ·refine .inl ⟨he,s,hs,hmu,?_⟩
  rw[P.setW (hS.len s)]at hw2
  rw[ho]
  have e1:(l++[t]).length=l.length+1:=by simp
  rw[e1]
  have hdm:=div_next l.length P.t.h
  rw[show P.m+(l.length+1)/P.t.h+c s=P.m+l.length/P.t.h+c s+((l.length+1)/P.t.h-l.length/P.t.h)by omega]
  exact hw2
 ·refine .inr ⟨6,he,by omega,Z s,_,l++[t],hS.len s,hS.zok s hs,.inr ⟨rfl,hno⟩,by simpa using hll,.inr rfl,?_⟩
  rw[P.setW (hS.len s)]at hw2
  exact hw2.mono (by omega) (by omega)
theorem KP.close(hP:P.Ok)(h:P.E W):
  Calls Tryz.prog 55 #[.pointer (some ⟨P.x,0,none⟩)] W fun e w'=>(e=.returned (.tuple #[.agg #[.int .i64 (firstOf (P.tl P.Out):Nat),.int .i64 (blocksN P.t.h P.Out.length:Nat),.int .i64 (P.t.k:Nat),.int .i64 (P.Out.length:Nat)],.int .i64 0])∧P.C Z4 w')∨(e=.returned (.tuple #[.agg #[.int .i64 0,.int .i64 0,.int .i64 0,.int .i64 0],.int .i64 6])∧P.N Z4 6 w'):=by
 obtain⟨z,hz,hze,hfit,hw⟩:=h
 have hle:=hfit.1
 have hn:=hP.n
 have hd1:=Nat.div_le_self P.Out.length P.t.h
 refine(wd_close hw (P.atW hz _ _) (KP.tlOk hP hle) (by omega)).mono ?_
 rintro e w' (⟨he,hw2⟩|⟨he,hno,hw2⟩)
 ·refine .inl ⟨he,z,hz,hze,hfit,?_⟩
  rw[P.setW hz]at hw2
  have hb:P.Out.length/P.t.h≤blocksN P.t.h P.Out.length:=by unfold blocksN;split<;>omega
  rw[show P.m+blocksN P.t.h P.Out.length+P.ct=P.m+P.Out.length/P.t.h+P.ct+(blocksN P.t.h P.Out.length-P.Out.length/P.t.h)by omega]
  exact hw2
 ·refine .inr ⟨he,z,P.Out,hz,hze,.inr ⟨rfl,hno⟩,?_⟩
  rw[P.setW hz]at hw2
  exact hw2.mono (by omega) (by omega)
theorem KP.drop(u:FrameMode)(hP:P.Ok)(h:P.Er cs er W):
  CallsD Tryz.prog 53 #[.pointer (some ⟨P.x,0,none⟩)] u W fun e u' w'=>u'=u∧(e=.returned (.tuple #[])∧P.N cs er w'):=by
 obtain⟨z,a,l,hz,hze,hwhy,hl,rfl|rfl,hw⟩:=h
 ·refine(wd_drop hw (P.atW hz _ _) (KP.tlOk hP hl) u).mono ?_
  rintro e u' w' ⟨h1,h2,hw2⟩
  rw[P.setW hz]at hw2
  exact⟨h1,h2,z,l,hz,hze,hwhy,hw2⟩
 ·refine(wd_drop_shut (hw.at_ (P.atW hz _ _)) u).mono ?_
  rintro e u' w' ⟨h1,h2,rfl⟩
  exact⟨h1,h2,z,l,hz,hze,hwhy,hw⟩
theorem KP.N.drop(u:FrameMode)(h:P.N cs er W):
  CallsD Tryz.prog 53 #[.pointer (some ⟨P.x,0,none⟩)] u W fun e u' w'=>u'=u∧(e=.returned (.tuple #[])∧w'=W):=by
 obtain⟨z,l,hz,_,_,hw⟩:=h
 exact wd_drop_shut (hw.at_ (P.atW hz _ _)) u
theorem KP.C.drop(u:FrameMode)(h:P.C cs W):
  CallsD Tryz.prog 53 #[.pointer (some ⟨P.x,0,none⟩)] u W fun e u' w'=>u'=u∧(e=.returned (.tuple #[])∧w'=W):=by
 obtain⟨z,hz,_,_,hw⟩:=h
 exact wd_drop_shut (hw.at_ (P.atW hz _ _)) u
theorem KP.Er.store(h:P.Er cs er W)(hcs:cs.length=4)(x1 x2 x3 x4:Value):P.Er [x1,x2,x3,x4] er ((((W.setCell ⟨P.R,0,none⟩ x1).setCell ⟨P.R,1,none⟩ x2).setCell ⟨P.R,2,none⟩ x3).setCell ⟨P.R,3,none⟩ x4):=by
 obtain⟨z,a,l,hz,h1,h2,h3,h4,hw⟩:=h
 exact⟨z,a,l,hz,h1,h2,h3,h4,KP.store4 hz hw hcs x1 x2 x3 x4⟩
theorem KP.N.store(h:P.N cs er W)(hcs:cs.length=4)(x1 x2 x3 x4:Value):P.N [x1,x2,x3,x4] er ((((W.setCell ⟨P.R,0,none⟩ x1).setCell ⟨P.R,1,none⟩ x2).setCell ⟨P.R,2,none⟩ x3).setCell ⟨P.R,3,none⟩ x4):=by
 obtain⟨z,l,hz,h1,h2,hw⟩:=h
 exact⟨z,l,hz,h1,h2,KP.store4 hz hw hcs x1 x2 x3 x4⟩
theorem KP.C.store(h:P.C cs W)(hcs:cs.length=4)(x1 x2 x3 x4:Value):P.C [x1,x2,x3,x4] ((((W.setCell ⟨P.R,0,none⟩ x1).setCell ⟨P.R,1,none⟩ x2).setCell ⟨P.R,2,none⟩ x3).setCell ⟨P.R,3,none⟩ x4):=by
 obtain⟨z,hz,h1,h2,hw⟩:=h
 exact⟨z,hz,h1,h2,KP.store4 hz hw hcs x1 x2 x3 x4⟩
theorem KP.Er.row(h:P.Er cs er W):Row W P.R 31 cs:=by
 obtain⟨z,a,l,hz,h1,h2,h3,h4,hw⟩:=h
 exact hw.row (P.atR hz _ _)
theorem KP.N.row(h:P.N cs er W):Row W P.R 31 cs:=by
 obtain⟨z,l,hz,h1,h2,hw⟩:=h
 exact hw.row (P.atR hz _ _)
theorem KP.C.row(h:P.C cs W):Row W P.R 31 cs:=by
 obtain⟨z,hz,h1,h2,hw⟩:=h
 exact hw.row (P.atR hz _ _)
theorem KP.N.fin(h:P.N cs er W):∃z,z.length=P.nz∧P.Ze z∧P.Why er∧Wd P.X z (P.m+P.ct+P.bd+2) W:=by
 obtain⟨z,l,hz,h1,h2,hw⟩:=h
 refine⟨z,hz,h1,h2,?_⟩
 have h3:Wd P.X (z++[rowO P.R 31 cs,wsO P.X.p P.x (P.tl l)]++[]) (P.m+P.ct+P.bd+2) W:=by rw[List.append_nil];exact hw
 have h4:=Wd.cuts _ (fun q hq=>by simp at hq;rcases hq with rfl|rfl<;>exact⟨rfl,rfl⟩) h3
 rwa [List.append_nil]at h4
theorem KP.C.fin(h:P.C cs W):∃z,z.length=P.nz∧P.Ze z∧P.Fit∧Wd P.X (z++[fiO (firstOf (P.tl P.Out)) (blocksN P.t.h P.Out.length) P.t.k P.t.h P.Out P.X.sz]) (P.m+blocksN P.t.h P.Out.length+P.ct) W:=by
 obtain⟨z,hz,h1,hf,hw⟩:=h
 refine⟨z,hz,h1,hf,?_⟩
 have h2:=wf_fi hw (P.atW hz _ _)
 rw[P.setW hz]at h2
 have h3:Wd P.X (z++rowO P.R 31 cs::[fiO (firstOf (P.tl P.Out)) (blocksN P.t.h P.Out.length) P.t.k P.t.h P.Out P.X.sz]) (P.m+blocksN P.t.h P.Out.length+P.ct) W:=h2
 exact h3.cut rfl rfl
end
def LayRes(X:Cx)(nz:Nat)(Ze:List Asn→Prop)(Out:List Tup)(Fin:Prop)(Bad:Nat→Prop)(z0:List Asn)(m ct bd k:Nat)(e:Ending)(w':World):Prop:=
 (∃(F N:Nat) (z:List Asn),e=.returned (.tuple #[.agg #[.int .i64 F,.int .i64 N,.int .i64 k,.int .i64 (Out.length:Nat)],.int .i64 0])∧FOk F N k (holdsI X.sz k) Out X.sz∧Fin∧z.length=nz∧Ze z∧Wd X (z++[fiO F N k (holdsI X.sz k) Out X.sz]) (m+N+ct) w')∨
 (∃(er:Nat) (z:List Asn),e=.returned (.tuple #[.agg #[.int .i64 0,.int .i64 0,.int .i64 0,.int .i64 0],.int .i64 er])∧0<er∧((Bad er∨er=6∧¬X.cm)∨er=5∧∀q,¬Rm X z0 q (blocksN (holdsI X.sz k) bd))∧z.length=nz∧Ze z∧Wd X z (m+ct+bd+2) w')
section
variable {X : Cx} {m : Nat} {W : World}
theorem wd_jlay{σ:Type}{fN k nz bd ct nr rb cr:Nat}{vF:Value}{Q:σ→Prop}{Z:σ→List Asn}{O:σ→List Tup}{mu c:σ→Nat}{Ze:List Asn→Prop}{Out:List Tup}{Fin:Prop}{Bad:Nat→Prop}{s0:σ}
  (hS:SrcC X fN vF Q Z O mu c nz Ze Out Fin Bad bd ct k) (hs0:Q s0) (ho0:O s0=[]) (hc0:c s0=0) (h:Wd X (Z s0) m W) (hhol:0<holdsI X.sz k) (hbd:bd≤100000) (hroom:X.sz+sumN Asn.gw (Z s0)≤X.rm) (hn:X.N+m+ct+bd+2≤1000000)
  (hnr:0<nr∧nr≤10) (hrb:rb<W.heap.size) (hcl:W.cell? ⟨rb,3,none⟩=some (.int .i64 bd)) (hrd:ReadF (Z s0) W rb nr):
  Calls Tryz.prog 47 #[.pointer (some ⟨X.p.w,0,none⟩),.int .i64 k,.func (.func fN) #[vF] #[],.slice (some ⟨rb,0,none⟩) nr cr] W (LayRes X nz Ze Out Fin Bad (Z s0) m ct bd k):=by
 have hb0:Below W.heap.size W (W.alloc (.cells #[.int .i64 0,.int .i64 0,.int .i64 0,.int .i64 0] 31)):=(Below.refl _ _).alloc (Nat.le_refl _) _
 have hr0:Row (W.alloc (.cells #[.int .i64 0,.int .i64 0,.int .i64 0,.int .i64 0] 31)) W.heap.size 31 Z4:=heap_alloc_new _ _
 have h0:=h.new hb0 hr0 (Nat.le_refl _)
 have hgw:sumN Asn.gw (Z s0++[rowO W.heap.size 31 Z4])=sumN Asn.gw (Z s0):=sumN_snoc _ _ _
 have hrd1:ReadF (Z s0++[rowO W.heap.size 31 Z4]) (W.alloc (.cells #[.int .i64 0,.int .i64 0,.int .i64 0,.int .i64 0] 31)) rb nr:=fun i hi=>by
  obtain⟨f,n,k,c,⟨q0,q1,q2,q3⟩,h1,h2,h3⟩:=hrd i hi
  refine⟨f,n,k,c,⟨(hb0.cell hrb).trans q0,(hb0.cell hrb).trans q1,(hb0.cell hrb).trans q2,(hb0.cell hrb).trans q3⟩,h1,h2,h3.imp_right ?_⟩
  rintro⟨j,a,hj,ha⟩
  exact⟨j,a,snoc_old hj,ha⟩
 have HWR:=Lib.hid (wd_jwrite (cr:=cr) h0 hhol hbd (by rw[hgw];exact hroom) hnr (by have:=hb0.size;omega) ((hb0.cell hrb).trans hcl) hrd1)
 have hNO:∀(w':World),(∀q,¬Rm X (Z s0++[rowO W.heap.size 31 Z4]) q (blocksN (holdsI X.sz k) bd))→Wd X (Z s0++[rowO W.heap.size 31 Z4]) m w'→∀q,¬Rm X (Z s0) q (blocksN (holdsI X.sz k) bd):=fun w' hno _ q hq=>
  hno q (rm_bare hq fun a ha=>by simp at ha;subst ha;exact⟨rfl,rfl⟩)
 generalize hPO:LayRes X nz Ze Out Fin Bad (Z s0) m ct bd k=POST at*
 have HNF:Hid (∀W':World,(∀q,¬Rm X (Z s0++[rowO W.heap.size 31 Z4]) q (blocksN (holdsI X.sz k) bd))→Wd X (Z s0++[rowO W.heap.size 31 Z4]) m W'→∃P:World→Prop,P W'∧(∀w,P w→Row w W.heap.size 31 Z4)∧(∀w,P w→P ((((w.setCell ⟨W.heap.size,0,none⟩ (.int .i64 0)).setCell ⟨W.heap.size,1,none⟩ (.int .i64 0)).setCell ⟨W.heap.size,2,none⟩ (.int .i64 0)).setCell ⟨W.heap.size,3,none⟩ (.int .i64 0)))∧∀w,P w→POST (.returned (.tuple #[.agg #[.int .i64 0,.int .i64 0,.int .i64 0,.int .i64 0],.int .i64 5])) w):=fun W' hno hw=>by
  have ha:(Z s0++[rowO W.heap.size 31 Z4])[(Z s0).length]?=some (rowO W.heap.size 31 Z4):=by simp
  have hse:∀cs,(Z s0++[rowO W.heap.size 31 cs]).set (Z s0).length (rowO W.heap.size 31 Z4)=Z s0++[rowO W.heap.size 31 Z4]:=fun cs=>by simp
  refine⟨fun w=>Wd X (Z s0++[rowO W.heap.size 31 Z4]) m w,hw,fun w h1=>h1.row ha,fun w h1=>?_,fun w h1=>?_⟩
  ·have k1:=h1.store ha (by decide) 0 (.int .i64 0)
   have k2:=k1.store (set_at _ ha _) (by decide) 1 (.int .i64 0)
   have k3:=k2.store (set_at _ (set_at _ ha _) _) (by decide) 2 (.int .i64 0)
   have k4:=k3.store (set_at _ (set_at _ (set_at _ ha _) _) _) (by decide) 3 (.int .i64 0)
   simpa [Z4]using k4
  ·rw[←hPO]
   refine .inr ⟨5,Z s0,rfl,by omega,.inr ⟨rfl,hNO w hno h1⟩,hS.len s0,hS.zok s0 hs0,?_⟩
   exact(h1.drop rfl rfl).mono (by omega) (by omega)
 have HINIT:Hid (∀x t W1,t.k=k→t.h=holdsI X.sz k→t.bound=bd→t.l=[]→WtOk t X.sz→Wd X (Z s0++[rowO W.heap.size 31 Z4]++[wrO X.p x t X.sz]) m W1→
   ∃(P:KP) (F N:Nat),P.R=W.heap.size∧P.Ok∧P.x=x∧
    Calls Tryz.prog 68 #[.func (.func fN) #[vF] #[],.func (.func 54) #[.pointer (some ⟨x,0,none⟩)] #[]] W1 (fun e w'=>(e=.returned (.int .i64 0)∧P.E w')∨(∃er:Nat,e=.returned (.int .i64 er)∧0<er∧P.Er Z4 er w'))∧
    (∀w,P.E w→Calls Tryz.prog 55 #[.pointer (some ⟨x,0,none⟩)] w fun e w'=>(e=.returned (.tuple #[.agg #[.int .i64 F,.int .i64 N,.int .i64 k,.int .i64 (Out.length:Nat)],.int .i64 0])∧P.C Z4 w')∨(e=.returned (.tuple #[.agg #[.int .i64 0,.int .i64 0,.int .i64 0,.int .i64 0],.int .i64 6])∧P.N Z4 6 w'))∧
    (∀cs w,P.C cs w→POST (.returned (.tuple #[.agg #[.int .i64 F,.int .i64 N,.int .i64 k,.int .i64 (Out.length:Nat)],.int .i64 0])) w)∧
    (∀cs er w,0<er→P.N cs er w→POST (.returned (.tuple #[.agg #[.int .i64 0,.int .i64 0,.int .i64 0,.int .i64 0],.int .i64 er])) w)):=fun x t W1 e1 e2 e3 e4 e5 hw=>by
  have hP:KP.Ok ⟨X,nz,Ze,Out,Fin,Bad,bd,ct,m,x,t,W.heap.size⟩:=⟨e5,e3,e4,hn⟩
  refine⟨⟨X,nz,Ze,Out,Fin,Bad,bd,ct,m,x,t,W.heap.size⟩,firstOf (KP.tl ⟨X,nz,Ze,Out,Fin,Bad,bd,ct,m,x,t,W.heap.size⟩ Out),blocksN t.h Out.length,rfl,hP,rfl,?_,fun w h1=>?_,fun cs w h1=>?_,fun cs er w her h1=>?_⟩
  ·refine jpour_any (J:=KP.J ⟨X,nz,Ze,Out,Fin,Bad,bd,ct,m,x,t,W.heap.size⟩ Q Z O mu c) (n:=mu s0) hS.ent (fun args w=>by kernel_rfl) (KP.tell hP e1 hS) (KP.take hP e1 hS) ?_ ?_ ?_ ?_
   ·rintro tu n w w' ⟨s,l,q1,q2,q3,q4⟩ hb
    exact⟨s,l,q1,q2,q3,q4.below hb⟩
   ·rintro w w' ⟨z,q1,q2,q3,q4⟩ hb
    exact⟨z,q1,q2,q3,q4.below hb⟩
   ·rintro er w w' ⟨z,a,l,q1,q2,q3,q4,q5,q6⟩ hb
    exact⟨z,a,l,q1,q2,q3,q4,q5,q6.below hb⟩
   ·refine⟨s0,hs0,rfl,?_⟩
    have et:(KP.tl ⟨X,nz,Ze,Out,Fin,Bad,bd,ct,m,x,t,W.heap.size⟩ (O s0))=t:=by unfold KP.tl;rw[ho0,←e4]
    rw[et,ho0,hc0]
    show Wd X (Z s0++[rowO W.heap.size 31 Z4,wrO X.p x t X.sz]) (m+0/t.h+0) W1
    rw[Nat.zero_div]
    simpa using hw
  ·have:=KP.close hP h1
   have e1':((⟨X,nz,Ze,Out,Fin,Bad,bd,ct,m,x,t,W.heap.size⟩:KP).t.k)=k:=e1
   rw[e1']at this
   exact this
  ·obtain⟨z,q1,q2,q3,q4⟩:=h1.fin
   have q3':Out.length≤bd∧(∀u∈Out,TupOk u∧fitsT t.k u=true)∧Fin:=q3
   have q4':Wd X (z++[fiO (firstOf (KP.tl ⟨X,nz,Ze,Out,Fin,Bad,bd,ct,m,x,t,W.heap.size⟩ Out)) (blocksN t.h Out.length) t.k t.h Out X.sz]) (m+blocksN t.h Out.length+ct) w:=q4
   rw[←hPO]
   have hfo:firstOf (KP.tl ⟨X,nz,Ze,Out,Fin,Bad,bd,ct,m,x,t,W.heap.size⟩ Out)≤2000000:=by
    have:=e5.first
    unfold firstOf KP.tl
    split
    ·omega
    ·exact this
   generalize firstOf (KP.tl ⟨X,nz,Ze,Out,Fin,Bad,bd,ct,m,x,t,W.heap.size⟩ Out)=fo at*
   refine .inl ⟨fo,blocksN t.h Out.length,z,rfl,⟨by rw[←e1];exact e5.k,by have h9:=e5.h;rw[e2,e1]at h9;exact h9,rfl,by rw[e2],by omega,hfo,by rw[←e1];exact q3'.2.1⟩,q3'.2.2,q1,q2,?_⟩
   rw[e1]at q4'
   rw[e2]at q4'⊢
   exact q4'
  ·obtain⟨z,q1,q2,q3,q4⟩:=h1.fin
   rw[←hPO]
   exact .inr ⟨er,z,rfl,her,.inl q3,q1,q2,q4⟩
 clear hS hs0 ho0 hc0 h hhol hbd hroom hn hnr hrb hcl hrd hb0 hr0 h0 hgw hrd1 hNO
 replace hPO:=Lib.hid hPO
 go_enter_defers Tryz.func47,Tryz.ntmps47
 go_wp2_with fail
 refine HWR.out.mono ?_
 rintro e w1 (⟨rfl,hno,hw1⟩|⟨x,t,rfl,e1,e2,e3,e4,e5,hw1⟩)
 ·obtain⟨P,hp,hrow,hst,hfin⟩:=HNF.out w1 hno hw1
  have HP0:=Lib.hid hp
  have HRW:=Lib.hid hrow
  have HST:=Lib.hid hst
  have HFI:=Lib.hid hfin
  clear hp hrow hst hfin hno hw1 HNF HINIT HWR
  have HR0:=Lib.hid (HRW.out _ HP0.out)
  have z0:w1.cell? ⟨W.heap.size,0,none⟩=some (.int .i64 0):=HR0.out.cell 0
  have z1:w1.cell? ⟨W.heap.size,1,none⟩=some (.int .i64 0):=HR0.out.cell 1
  have z2:w1.cell? ⟨W.heap.size,2,none⟩=some (.int .i64 0):=HR0.out.cell 2
  have z3:w1.cell? ⟨W.heap.size,3,none⟩=some (.int .i64 0):=HR0.out.cell 3
  have f0:=HR0.out.free 0
  have f1:=HR0.out.free 1
  have f2:=HR0.out.free 2
  have f3:=HR0.out.free 3
  have HP9:=Lib.hid (HST.out _ HP0.out)
  have HR9:=Lib.hid (HRW.out _ HP9.out)
  go_wp2
  have r0:=HR9.out.cell 0
  have r1:=HR9.out.cell 1
  have r2:=HR9.out.cell 2
  have r3:=HR9.out.cell 3
  simp only[Z4,List.getElem?_cons_zero,List.getElem?_cons_succ]at r0 r1 r2 r3
  exact⟨.tuple #[.agg #[.int .i64 0,.int .i64 0,.int .i64 0,.int .i64 0],.int .i64 5],by simp[results,Tryz.results47,go_sem,r0,r1,r2,r3],HFI.out _ HP9.out⟩
 obtain⟨P,F,N,hR,hP,hx,hpour,hclose,hC,hN⟩:=HINIT.out x t w1 e1 e2 e3 e4 e5 hw1
 have HPOUR:=Lib.hid hpour
 have HCL:=Lib.hid hclose
 have HC:=Lib.hid hC
 have HN:=Lib.hid hN
 have HOK:=Lib.hid hP
 have HSTE:Hid (∀er w,P.Er Z4 er w→Row w W.heap.size 31 Z4∧P.Er Z4 er ((((w.setCell ⟨W.heap.size,0,none⟩ (.int .i64 0)).setCell ⟨W.heap.size,1,none⟩ (.int .i64 0)).setCell ⟨W.heap.size,2,none⟩ (.int .i64 0)).setCell ⟨W.heap.size,3,none⟩ (.int .i64 0))):=fun er w h1=>by
  have q1:=h1.row
  have q2:=h1.store rfl (.int .i64 0) (.int .i64 0) (.int .i64 0) (.int .i64 0)
  rw[hR]at q1 q2
  exact⟨q1,q2⟩
 have HSTN:Hid (∀er w,P.N Z4 er w→Row w W.heap.size 31 Z4∧P.N Z4 er ((((w.setCell ⟨W.heap.size,0,none⟩ (.int .i64 0)).setCell ⟨W.heap.size,1,none⟩ (.int .i64 0)).setCell ⟨W.heap.size,2,none⟩ (.int .i64 0)).setCell ⟨W.heap.size,3,none⟩ (.int .i64 0))):=fun er w h1=>by
  have q1:=h1.row
  have q2:=h1.store rfl (.int .i64 0) (.int .i64 0) (.int .i64 0) (.int .i64 0)
  rw[hR]at q1 q2
  exact⟨q1,q2⟩
 have HSTC:Hid (∀w x1 x2 x3 x4,P.C Z4 w→Row w W.heap.size 31 Z4∧P.C [x1,x2,x3,x4] ((((w.setCell ⟨W.heap.size,0,none⟩ x1).setCell ⟨W.heap.size,1,none⟩ x2).setCell ⟨W.heap.size,2,none⟩ x3).setCell ⟨W.heap.size,3,none⟩ x4)):=fun w x1 x2 x3 x4 h1=>by
  have q1:=h1.row
  have q2:=h1.store rfl x1 x2 x3 x4
  rw[hR]at q1 q2
  exact⟨q1,q2⟩
 have HRC:Hid (∀cs w,P.C cs w→Row w W.heap.size 31 cs):=fun cs w h1=>by have:=h1.row;rw[hR]at this;exact this
 have HRN:Hid (∀cs er w,P.N cs er w→Row w W.heap.size 31 cs):=fun cs er w h1=>by have:=h1.row;rw[hR]at this;exact this
 have HDE:Hid (∀u er w,P.Er Z4 er w→CallsD Tryz.prog 53 #[.pointer (some ⟨x,0,none⟩)] u w fun e u' w'=>u'=u∧(e=.returned (.tuple #[])∧P.N Z4 er w')):=fun u er w h1=>by have:=KP.drop u hP h1;rw[hx]at this;exact this
 have HDN:Hid (∀u er w,P.N Z4 er w→CallsD Tryz.prog 53 #[.pointer (some ⟨x,0,none⟩)] u w fun e u' w'=>u'=u∧(e=.returned (.tuple #[])∧w'=w)):=fun u er w h1=>by have:=KP.N.drop u h1;rw[hx]at this;exact this
 have HDC:Hid (∀u cs w,P.C cs w→CallsD Tryz.prog 53 #[.pointer (some ⟨x,0,none⟩)] u w fun e u' w'=>u'=u∧(e=.returned (.tuple #[])∧w'=w)):=fun u cs w h1=>by have:=KP.C.drop u h1;rw[hx]at this;exact this
 clear hpour hclose hC hN hP hx hR hw1 e1 e2 e3 e4 e5 HINIT HNF HWR
 generalize hol9:Out.length=ol at*
 go_wp2_with fail
 refine HPOUR.out.mono ?_
 rintro e w2 (⟨rfl,h2⟩|⟨er,rfl,hpos,h2⟩)
 ·have H2:=Lib.hid h2
  clear h2
  go_wp2_with fail
  refine(HCL.out _ H2.out).mono ?_
  rintro e w3 (⟨rfl,h3⟩|⟨rfl,h3⟩)
  ·obtain⟨hr3,h4⟩:=HSTC.out w3 (.int .i64 F) (.int .i64 N) (.int .i64 k) (.int .i64 ol) h3
   have HR3:=Lib.hid hr3
   have H4:=Lib.hid h4
   clear h3 hr3 h4
   have z0:w3.cell? ⟨W.heap.size,0,none⟩=some (.int .i64 0):=HR3.out.cell 0
   have z1:w3.cell? ⟨W.heap.size,1,none⟩=some (.int .i64 0):=HR3.out.cell 1
   have z2:w3.cell? ⟨W.heap.size,2,none⟩=some (.int .i64 0):=HR3.out.cell 2
   have z3:w3.cell? ⟨W.heap.size,3,none⟩=some (.int .i64 0):=HR3.out.cell 3
   have f0:=HR3.out.free 0
   have f1:=HR3.out.free 1
   have f2:=HR3.out.free 2
   have f3:=HR3.out.free 3
   go_wp2
   refine leaves_cons (f:=53) (args:=#[.pointer (some ⟨x,0,none⟩)]) (by simp) (by simp[go_sem]) ?_
   refine(HDC.out _ _ _ H4.out).mono ?_
   rintro e u' w'' ⟨rfl,rfl,rfl⟩
   have HR9:=Lib.hid (HRC.out _ _ H4.out)
   have r0:=HR9.out.cell 0
   have r1:=HR9.out.cell 1
   have r2:=HR9.out.cell 2
   have r3:=HR9.out.cell 3
   simp only[List.getElem?_cons_zero,List.getElem?_cons_succ]at r0 r1 r2 r3
   exact⟨.tuple #[.agg #[.int .i64 F,.int .i64 N,.int .i64 k,.int .i64 ol],.int .i64 0],by simp[results,Tryz.results47,go_sem,r0,r1,r2,r3],HC.out _ _ H4.out⟩
  ·obtain⟨hr3,h4⟩:=HSTN.out 6 w3 h3
   have HR3:=Lib.hid hr3
   have H4:=Lib.hid h4
   clear h3 hr3 h4
   have z0:w3.cell? ⟨W.heap.size,0,none⟩=some (.int .i64 0):=HR3.out.cell 0
   have z1:w3.cell? ⟨W.heap.size,1,none⟩=some (.int .i64 0):=HR3.out.cell 1
   have z2:w3.cell? ⟨W.heap.size,2,none⟩=some (.int .i64 0):=HR3.out.cell 2
   have z3:w3.cell? ⟨W.heap.size,3,none⟩=some (.int .i64 0):=HR3.out.cell 3
   have f0:=HR3.out.free 0
   have f1:=HR3.out.free 1
   have f2:=HR3.out.free 2
   have f3:=HR3.out.free 3
   go_wp2
   refine leaves_cons (f:=53) (args:=#[.pointer (some ⟨x,0,none⟩)]) (by simp) (by simp[go_sem]) ?_
   refine(HDN.out _ _ _ H4.out).mono ?_
   rintro e u' w'' ⟨rfl,rfl,rfl⟩
   have HR9:=Lib.hid (HRN.out _ _ _ H4.out)
   have r0:=HR9.out.cell 0
   have r1:=HR9.out.cell 1
   have r2:=HR9.out.cell 2
   have r3:=HR9.out.cell 3
   simp only[Z4,List.getElem?_cons_zero,List.getElem?_cons_succ]at r0 r1 r2 r3
   exact⟨.tuple #[.agg #[.int .i64 0,.int .i64 0,.int .i64 0,.int .i64 0],.int .i64 6],by simp[results,Tryz.results47,go_sem,r0,r1,r2,r3],HN.out _ 6 _ (by omega) H4.out⟩
 ·obtain⟨hr3,h4⟩:=HSTE.out er w2 h2
  have HR3:=Lib.hid hr3
  have H4:=Lib.hid h4
  have hne:¬(er:Int)=0:=by omega
  have HPO:=Lib.hid hpos
  clear h2 hr3 h4 hpos
  have z0:w2.cell? ⟨W.heap.size,0,none⟩=some (.int .i64 0):=HR3.out.cell 0
  have z1:w2.cell? ⟨W.heap.size,1,none⟩=some (.int .i64 0):=HR3.out.cell 1
  have z2:w2.cell? ⟨W.heap.size,2,none⟩=some (.int .i64 0):=HR3.out.cell 2
  have z3:w2.cell? ⟨W.heap.size,3,none⟩=some (.int .i64 0):=HR3.out.cell 3
  have f0:=HR3.out.free 0
  have f1:=HR3.out.free 1
  have f2:=HR3.out.free 2
  have f3:=HR3.out.free 3
  go_wp2
  refine leaves_cons (f:=53) (args:=#[.pointer (some ⟨x,0,none⟩)]) (by simp) (by simp[go_sem]) ?_
  refine(HDE.out _ _ _ H4.out).mono ?_
  rintro e u' w'' ⟨rfl,rfl,h5⟩
  have HR9:=Lib.hid (HRN.out _ _ _ h5)
  have r0:=HR9.out.cell 0
  have r1:=HR9.out.cell 1
  have r2:=HR9.out.cell 2
  have r3:=HR9.out.cell 3
  simp only[Z4,List.getElem?_cons_zero,List.getElem?_cons_succ]at r0 r1 r2 r3
  exact⟨.tuple #[.agg #[.int .i64 0,.int .i64 0,.int .i64 0,.int .i64 0],.int .i64 er],by simp[results,Tryz.results47,go_sem,r0,r1,r2,r3],HN.out _ er _ HPO.out h5⟩
end
def CP.Ze(P:CP)(z:List Asn):Prop:=∃i a,z=P.Z i a∧RdE P.X P.x P.r P.l a
theorem CP.src_{P:CP}{k:Nat}(hP:P.Ok)(hout:∀j t u,P.l[j]?=some t→P.chg j t=some u→TupOk u∧fitsT k u=true):
  SrcC P.X 58 (.agg P.vF.toArray) (fun i=>i≤P.l.length) (fun i=>P.Z i (P.rd i)) (outL P.chg P.l) (fun i=>P.l.length-i) (fun i=>blocksN P.r.h i) (P.np+1) P.Ze (outL P.chg P.l P.l.length) True (fun _=>False) P.l.length (blocksN P.r.h P.l.length) k where
 ent:=fun args w=>by kernel_rfl
 len:=fun s=>CP.zlen hP _
 out:=fun s hs=>⟨Nat.le_trans (outL_len _ _ s) hs,fun u hu=>by
  obtain⟨j,t,h1,h2⟩:=outL_mem hu
  exact hout j t u h1 h2⟩
 cost:=fun s hs=>blocks_mono hP.rd.ok.h.1 hs
 zok:=fun s _=>⟨s,_,rfl,s,.inl rfl⟩
 next:=fun s zz m W hs hw hn=>by
  refine(cnext_any hP hw hs hn).mono ?_
  rintro e w' (⟨t,i',he,h1,h2,h3,h4⟩|⟨he,h1,h2⟩|⟨i',he,h1,h2⟩)
  ·exact .inl ⟨t,i',he,h2,by omega,h3,h4⟩
  ·exact .inr (.inl ⟨_,he,h1,trivial,CP.zlen hP _,⟨_,_,rfl,_,.inl rfl⟩,h2⟩)
  ·exact .inr (.inr ⟨6,_,he,by omega,.inr ⟨rfl,h1⟩,CP.zlen hP _,⟨_,_,rfl,_,.inr rfl⟩,h2⟩)
def ChgRes(X:Cx)(pre post:List Asn)(H:Nat→List Asn)(Out:List Tup)(m nb bd k:Nat)(e:Ending)(w':World):Prop:=
 (∃F N i:Nat,e=.returned (.tuple #[.agg #[.int .i64 F,.int .i64 N,.int .i64 k,.int .i64 (Out.length:Nat)],.int .i64 0])∧FOk F N k (holdsI X.sz k) Out X.sz∧Wd X (pre++H i++post++[fiO F N k (holdsI X.sz k) Out X.sz]) (m+N+nb) w')∨
 (∃er i:Nat,e=.returned (.tuple #[.agg #[.int .i64 0,.int .i64 0,.int .i64 0,.int .i64 0],.int .i64 er])∧0<er∧(er=6∧¬X.cm∨er=5∧∀q,¬Rm X (pre++H 0++post) q (blocksN (holdsI X.sz k) bd))∧Wd X (pre++H i++post) (m+nb+bd+2) w')
def chZ(Y:List Asn)(fb R:Nat)(fc cs:List Value)(a:Asn)(tail:List Asn):List Asn:=Y++[rowO fb 31 fc,rowO R 31 cs,a]++tail
section
variable {X : Cx} {Y tail : List Asn} {fb R M : Nat} {fc cs cs' : List Value} {a b : Asn} {W : World}
theorem chZ_R:(chZ Y fb R fc cs a tail)[Y.length+1]?=some (rowO R 31 cs):=by simp[chZ]
theorem chZ_F:(chZ Y fb R fc cs a tail)[Y.length]?=some (rowO fb 31 fc):=by simp[chZ]
theorem chZ_rd:(chZ Y fb R fc cs a tail)[Y.length+2]?=some a:=by simp[chZ]
theorem chZ_setR:(chZ Y fb R fc cs a tail).set (Y.length+1) (rowO R 31 cs')=chZ Y fb R fc cs' a tail:=by simp[chZ]
theorem chZ_setrd:(chZ Y fb R fc cs a tail).set (Y.length+2) b=chZ Y fb R fc cs b tail:=by simp[chZ]
theorem chZ_store(hcs:cs.length=4)(h:Wd X (chZ Y fb R fc cs a tail) M W)(x1 x2 x3 x4:Value):Wd X (chZ Y fb R fc [x1,x2,x3,x4] a tail) M ((((W.setCell ⟨R,0,none⟩ x1).setCell ⟨R,1,none⟩ x2).setCell ⟨R,2,none⟩ x3).setCell ⟨R,3,none⟩ x4):=by
 have h1:=Wd.store h chZ_R (by decide) 0 x1
 rw[chZ_setR]at h1
 have h2:=h1.store chZ_R (by decide) 1 x2
 rw[chZ_setR]at h2
 have h3:=h2.store chZ_R (by decide) 2 x3
 rw[chZ_setR]at h3
 have h4:=h3.store chZ_R (by decide) 3 x4
 rw[chZ_setR]at h4
 match cs,hcs with
 |[c1,c2,c3,c4],_=>exact h4
theorem chZ_cut(ha:a.gr=none∧a.ex.2=0)(h:Wd X (chZ Y fb R fc cs a tail) M W):Wd X (Y++tail) M W:=
 Wd.cuts _ (fun q hq=>by simp at hq;rcases hq with rfl|rfl|rfl<;>first|exact⟨rfl,rfl⟩|exact ha) h
end
section
variable {X : Cx} {m : Nat} {W : World}
theorem wd_change{pre post:List Asn}{H:Nat→List Asn}{nh fH first nb k hh count width:Nat}{caps:Array Value}{l:List Tup}{chg:Nat→Tup→Option Tup}
  (hH:HowC X pre fH caps l chg H nh) (h:Wd X (pre++H 0++post) m W) (hf:FOk first nb k hh l X.sz) (hmem:fiO first nb k hh l X.sz∈pre++post) (hc:l.length=count) (hwd:0<holdsI X.sz width)
  (hout:∀j t u,l[j]?=some t→chg j t=some u→TupOk u∧fitsT width u=true) (hroom:2*X.sz+sumN Asn.gw (pre++H 0++post)≤X.rm) (hn:X.N+m+nb+count+2≤1000000):
  Calls Tryz.prog 32 #[.pointer (some ⟨X.p.w,0,none⟩),.agg #[.int .i64 first,.int .i64 nb,.int .i64 k,.int .i64 count],.int .i64 width,.func (.func fH) #[] caps] W (ChgRes X pre post H (outL chg l count) m nb count width):=by
 obtain⟨W2,hW2⟩:∃W2,W2=(W.alloc (.cells #[.int .i64 first,.int .i64 nb,.int .i64 k,.int .i64 count] 31)).alloc (.cells #[.int .i64 0,.int .i64 0,.int .i64 0,.int .i64 0] 31):=⟨_,rfl⟩
 have hb1:Below W.heap.size W (W.alloc (.cells #[.int .i64 first,.int .i64 nb,.int .i64 k,.int .i64 count] 31)):=(Below.refl _ _).alloc (Nat.le_refl _) _
 have h1:=h.new hb1 (heap_alloc_new _ _:Row _ _ 31 [.int .i64 first,.int .i64 nb,.int .i64 k,.int .i64 count]) (Nat.le_refl _)
 have hb2:=(Below.refl (W.alloc (.cells #[.int .i64 first,.int .i64 nb,.int .i64 k,.int .i64 count] 31)).heap.size (W.alloc (.cells #[.int .i64 first,.int .i64 nb,.int .i64 k,.int .i64 count] 31))).alloc (Nat.le_refl _) (.cells #[.int .i64 0,.int .i64 0,.int .i64 0,.int .i64 0] 31)
 have h2:=h1.new hb2 (heap_alloc_new _ _:Row _ _ 31 Z4) (Nat.le_refl _)
 rw[←hW2]at h2
 rw[show (W.alloc (.cells #[.int .i64 first,.int .i64 nb,.int .i64 k,.int .i64 count] 31)).heap.size=W.heap.size+1 by simp]at h2
 obtain⟨fb,hfb⟩:∃fb,fb=W.heap.size:=⟨_,rfl⟩
 rw[←hfb]at h2
 obtain⟨fc,hfc⟩:∃fc:List Value,fc=[.int .i64 first,.int .i64 nb,.int .i64 k,.int .i64 count]:=⟨_,rfl⟩
 rw[←hfc]at h2
 have h2:Wd X (pre++H 0++(post++[rowO fb 31 fc,rowO (fb+1) 31 Z4])) m W2:=by simpa [List.append_assoc]using h2
 have hgw:sumN Asn.gw (pre++H 0++(post++[rowO fb 31 fc,rowO (fb+1) 31 Z4]))=sumN Asn.gw (pre++H 0++post):=by
  rw[←List.append_assoc,sumN_app,gw_bare [rowO fb 31 fc,rowO (fb+1) 31 Z4] (fun q hq=>by simp at hq;rcases hq with rfl|rfl<;>exact⟨rfl,rfl⟩)];omega
 have HRD:Hid (∀w,Below W2.heap.size W2 w→Calls Tryz.prog 39 #[.pointer (some ⟨X.p.w,0,none⟩),.agg #[.int .i64 first,.int .i64 nb,.int .i64 k,.int .i64 count]] w fun e w'=>∃x b g,e=.returned (.tuple #[.pointer (some ⟨x,0,none⟩),.int .i64 0])∧RtOk ⟨k,hh,first,nb,count,0,b,g⟩ X.sz∧Wd X (pre++H 0++(post++[rowO fb 31 fc,rowO (fb+1) 31 Z4])++[rdO X.p x ⟨k,hh,first,nb,count,0,b,g⟩ X.sz l]) m w'):=fun w hb=>
  wd_read (h2.below hb) first nb k hh count l hf.hol hf.hh.1 (by rw[hf.bn,hc]) (by rw[←hc];exact hf.len) hf.fst (by rw[hgw];omega)
 have HF2:Hid (Row W2 fb 31 fc):=h2.row (i:=(pre++H 0++post).length) (by rw[←List.append_assoc,List.getElem?_append_right (Nat.le_refl _),Nat.sub_self];rfl)
 have HINIT:Hid (∀x b g w0,RtOk ⟨k,hh,first,nb,count,0,b,g⟩ X.sz→Wd X (pre++H 0++(post++[rowO fb 31 fc,rowO (fb+1) 31 Z4])++[rdO X.p x ⟨k,hh,first,nb,count,0,b,g⟩ X.sz l]) m w0→
   ∃(A:World→Prop) (C:Nat→Nat→List Value→World→Prop) (N:Nat→List Value→World→Prop),A w0∧(∀w w',A w→Below w.heap.size w w'→A w')∧(∀w,A w→Row w fb 31 fc)∧
    (∀w rb,A w→Row w rb 31 fc→Calls Tryz.prog 47 #[.pointer (some ⟨X.p.w,0,none⟩),.int .i64 width,.func (.func 58) #[.agg #[.func (.func 41) #[.pointer (some ⟨x,0,none⟩)] #[],.func (.func fH) #[] caps]] #[],.slice (some ⟨rb,0,none⟩) 1 1] w fun e w'=>
     (∃F M:Nat,e=.returned (.tuple #[.agg #[.int .i64 F,.int .i64 M,.int .i64 width,.int .i64 ((outL chg l count).length:Nat)],.int .i64 0])∧C F M Z4 w')∨
     (∃er:Nat,e=.returned (.tuple #[.agg #[.int .i64 0,.int .i64 0,.int .i64 0,.int .i64 0],.int .i64 er])∧0<er∧N er Z4 w'))∧
    (∀F M cs w x1 x2 x3 x4,cs.length=4→C F M cs w→C F M [x1,x2,x3,x4] ((((w.setCell ⟨fb+1,0,none⟩ x1).setCell ⟨fb+1,1,none⟩ x2).setCell ⟨fb+1,2,none⟩ x3).setCell ⟨fb+1,3,none⟩ x4))∧
    (∀er cs w x1 x2 x3 x4,cs.length=4→N er cs w→N er [x1,x2,x3,x4] ((((w.setCell ⟨fb+1,0,none⟩ x1).setCell ⟨fb+1,1,none⟩ x2).setCell ⟨fb+1,2,none⟩ x3).setCell ⟨fb+1,3,none⟩ x4))∧
    (∀F M cs w,C F M cs w→Row w (fb+1) 31 cs)∧(∀er cs w,N er cs w→Row w (fb+1) 31 cs)∧
    (∀F M cs w u,C F M cs w→CallsD Tryz.prog 40 #[.pointer (some ⟨x,0,none⟩)] u w fun e u' w'=>u'=u∧(e=.returned (.tuple #[])∧Row w' (fb+1) 31 cs∧ChgRes X pre post H (outL chg l count) m nb count width (.returned (.tuple #[.agg #[.int .i64 F,.int .i64 M,.int .i64 width,.int .i64 ((outL chg l count).length:Nat)],.int .i64 0])) w'))∧
    (∀er cs w u,0<er→N er cs w→CallsD Tryz.prog 40 #[.pointer (some ⟨x,0,none⟩)] u w fun e u' w'=>u'=u∧(e=.returned (.tuple #[])∧Row w' (fb+1) 31 cs∧ChgRes X pre post H (outL chg l count) m nb count width (.returned (.tuple #[.agg #[.int .i64 0,.int .i64 0,.int .i64 0,.int .i64 0],.int .i64 er])) w'))):=fun x b g w0 hrt hw0=>by
  obtain⟨P,hPd⟩:∃P:CP,P=⟨X,pre,H,nh,post++[rowO fb 31 fc,rowO (fb+1) 31 Z4],l,chg,⟨k,hh,first,nb,count,0,b,g⟩,x,fH,caps⟩:=⟨_,rfl⟩
  have hP:P.Ok:=by
   rw[hPd]
   refine⟨hH,⟨hrt,hc,fun u hu=>hf.fit u hu,hf.bn⟩,fun j a zz=>src_mem (nb:=nb) ?_ hf.bn⟩
   show fiO first nb k hh l X.sz∈pre++H j++(post++[rowO fb 31 fc,rowO (fb+1) 31 Z4])++[a]++zz
   rcases List.mem_append.1 hmem with hm|hm<;>simp[hm]
  have hS:=CP.src_ (k:=width) hP (by rw[hPd];exact hout)
  have hZ:∀(i:Nat) (a:Asn) (tail:List Asn),P.Z i a++tail=chZ (pre++H i++post) fb (fb+1) fc Z4 a tail:=fun i a tail=>by rw[hPd];simp[CP.Z,chZ,List.append_assoc]
  have hll:P.l.length=count:=by rw[hPd];exact hc
  have hol:outL P.chg P.l P.l.length=outL chg l count:=by rw[hPd,←hc]
  have hbn:blocksN P.r.h P.l.length=nb:=by rw[hPd];exact hf.bn.symm
  have hPX:P.X=X:=by rw[hPd]
  have hZe:∀z,P.Ze z→∃i a,z=P.Z i a∧RdE X x ⟨k,hh,first,nb,count,0,b,g⟩ l a:=fun z hz=>by rw[hPd]at hz⊢;exact hz
  have hvF:P.vF.toArray=#[.func (.func 41) #[.pointer (some ⟨x,0,none⟩)] #[],.func (.func fH) #[] caps]:=by rw[hPd];rfl
  have hZ0:P.Z 0 (P.rd 0)=pre++H 0++(post++[rowO fb 31 fc,rowO (fb+1) 31 Z4])++[rdO X.p x ⟨k,hh,first,nb,count,0,b,g⟩ X.sz l]:=by rw[hPd];rfl
  rw[hvF,hol,hbn,hll,hPX]at hS
  refine⟨fun w=>Wd X (P.Z 0 (P.rd 0)) m w,
   fun F M cs w=>FOk F M width (holdsI X.sz width) (outL chg l count) X.sz∧∃i a,RdE X x ⟨k,hh,first,nb,count,0,b,g⟩ l a∧Wd X (chZ (pre++H i++post) fb (fb+1) fc cs a [fiO F M width (holdsI X.sz width) (outL chg l count) X.sz]) (m+M+nb) w,
   fun er cs w=>(er=6∧¬X.cm∨er=5∧∀q,¬Rm X (pre++H 0++post) q (blocksN (holdsI X.sz width) count))∧∃i a,RdE X x ⟨k,hh,first,nb,count,0,b,g⟩ l a∧Wd X (chZ (pre++H i++post) fb (fb+1) fc cs a []) (m+nb+count+2) w,
   by rw[hZ0];exact hw0,fun w w' q hb=>q.below hb,fun w q=>?_,fun w rb q hr=>?_,?_,?_,?_,?_,?_,?_⟩
  ·have q2:Wd X (chZ (pre++H 0++post) fb (fb+1) fc Z4 (P.rd 0) []) m w:=by rw[←hZ,List.append_nil];exact q
   exact q2.row chZ_F
  ·have hcf:=hc
   have hrc:Row w rb 31 [.int .i64 first,.int .i64 nb,.int .i64 k,.int .i64 count]:=by rw[←hfc];exact hr
   refine(wd_jlay (nr:=1) (rb:=rb) (cr:=1) hS (Nat.zero_le _) rfl (blocks_zero _) q hwd (by rw[←hc];exact hf.len) ?_ (by omega) ⟨by omega,by omega⟩ hrc.lt (hrc.cell 3) ?_).mono ?_
   ·rw[hZ0,sumN_snoc,hgw]
    show X.sz+(sumN Asn.gw (pre++H 0++post)+X.sz)≤X.rm
    omega
   ·intro i hi
    obtain rfl:i=0:=by omega
    refine⟨first,nb,k,count,⟨hrc.cell 0,hrc.cell 1,hrc.cell 2,hrc.cell 3⟩,by have:=hf.fst;omega,?_,.inr ?_⟩
    ·have h7:=hf.len
     have h8:=blocks_le hh l.length
     have h9:=hf.bn
     omega
    ·have hm2:fiO first nb k hh l X.sz∈P.Z 0 (P.rd 0):=by
      rw[hZ0]
      rcases List.mem_append.1 hmem with hm|hm<;>simp[hm]
     obtain⟨j,hj⟩:=List.mem_iff_getElem?.1 hm2
     exact⟨j,_,hj,rfl⟩
   ·rintro e w' (⟨F,M,z,he,q1,-,q2,q3,q4⟩|⟨er,z,he,q0,q1,q2,q3,q4⟩)
    ·obtain⟨i,a,rfl,ha⟩:=hZe z q3
     rw[hZ]at q4
     exact .inl ⟨F,M,he,q1,i,a,ha,q4⟩
    ·obtain⟨i,a,rfl,ha⟩:=hZe z q3
     have q5:Wd X (chZ (pre++H i++post) fb (fb+1) fc Z4 a []) (m+nb+count+2) w':=by rw[←hZ,List.append_nil];exact q4
     refine .inr ⟨er,he,q0,?_,i,a,ha,q5⟩
     rcases q1 with(q1|q1)|⟨q1,q6⟩
     ·exact q1.elim
     ·exact .inl q1
     ·refine .inr ⟨q1,fun qq hq=>q6 qq ?_⟩
      rw[hZ0,←List.append_assoc,List.append_assoc _ [rowO fb 31 fc,rowO (fb+1) 31 Z4]]
      exact rm_none hq fun y hy=>by
       simp at hy
       rcases hy with rfl|rfl|rfl<;>rfl
  ·rintro F M cs w x1 x2 x3 x4 hcs ⟨q1,i,a,ha,q2⟩
   exact⟨q1,i,a,ha,chZ_store hcs q2 x1 x2 x3 x4⟩
  ·rintro er cs w x1 x2 x3 x4 hcs ⟨q1,i,a,ha,q2⟩
   exact⟨q1,i,a,ha,chZ_store hcs q2 x1 x2 x3 x4⟩
  ·rintro F M cs w ⟨q1,i,a,ha,q2⟩
   exact q2.row chZ_R
  ·rintro er cs w ⟨q1,i,a,ha,q2⟩
   exact q2.row chZ_R
  ·rintro F M cs w u ⟨q1,i,a,ha,q2⟩
   refine(rd_close u q2 chZ_rd ha).mono ?_
   rintro e u' w' ⟨k1,k2,j,k3⟩
   rw[chZ_setrd]at k3
   exact⟨k1,k2,k3.row chZ_R,.inl ⟨F,M,i,rfl,q1,chZ_cut ⟨rfl,rfl⟩ k3⟩⟩
  ·rintro er cs w u her ⟨q1,i,a,ha,q2⟩
   refine(rd_close u q2 chZ_rd ha).mono ?_
   rintro e u' w' ⟨k1,k2,j,k3⟩
   rw[chZ_setrd]at k3
   have k4:=chZ_cut ⟨rfl,rfl⟩ k3
   rw[List.append_nil]at k4
   exact⟨k1,k2,k3.row chZ_R,.inr ⟨er,i,rfl,her,q1,k4⟩⟩
 have HW2:=Lib.hid hW2
 have HFC:=Lib.hid hfc
 generalize hPO:ChgRes X pre post H (outL chg l count) m nb count width=POST at*
 generalize(outL chg l count).length=ol at*
 clear hH h hf hmem hc hwd hout hroom hn hb1 h1 hb2 h2 hgw hW2 hPO
 subst hfb
 go_enter_defers Tryz.func32,Tryz.ntmps32
 go_upto_region 1 with(fail)
 rw[←HW2.out]
 clear HW2
 generalize hs0:W.heap.size=s0 at*
 have hF2:=HF2.out
 rw[HFC.out]at hF2
 have a0:W2.cell? ⟨s0,0,none⟩=some (.int .i64 first):=hF2.cell 0
 have a1:W2.cell? ⟨s0,1,none⟩=some (.int .i64 nb):=hF2.cell 1
 have a2:W2.cell? ⟨s0,2,none⟩=some (.int .i64 k):=hF2.cell 2
 have a3:W2.cell? ⟨s0,3,none⟩=some (.int .i64 count):=hF2.cell 3
 have HR2:=Lib.hid (HRD.out W2 (Below.refl _ _))
 clear hF2
 go_wp2_with fail
 refine HR2.out.mono ?_
 rintro e w3 ⟨x,b,g,rfl,hrt,hw3⟩
 obtain⟨A,C,N,hA,hAb,hAr,hlay,hCs,hNs,hCr,hNr,hCc,hNc⟩:=HINIT.out x b g w3 hrt hw3
 have HA:=Lib.hid hA
 have HAB:=Lib.hid hAb
 have HAR:=Lib.hid hAr
 have HLAY:=Lib.hid hlay
 have HCS:=Lib.hid hCs
 have HNS:=Lib.hid hNs
 have HCR:=Lib.hid hCr
 have HNR:=Lib.hid hNr
 have HCC:=Lib.hid hCc
 have HNC:=Lib.hid hNc
 clear hA hAb hAr hlay hCs hNs hCr hNr hCc hNc hrt hw3 HINIT HRD HR2 HF2 a0 a1 a2 a3
 have HA4:=Lib.hid (HAB.out w3 _ HA.out ((Below.refl w3.heap.size w3).alloc (Nat.le_refl _) (.cells #[.func (.func 41) #[.pointer (some ⟨x,0,none⟩)] #[],.func (.func fH) #[] caps] 118)))
 have hch:Row (w3.alloc (.cells #[.func (.func 41) #[.pointer (some ⟨x,0,none⟩)] #[],.func (.func fH) #[] caps] 118)) w3.heap.size 118 [.func (.func 41) #[.pointer (some ⟨x,0,none⟩)] #[],.func (.func fH) #[] caps]:=heap_alloc_new _ _
 have HCH:=Lib.hid hch
 clear hch
 go_upto_region 6 with(fail)
 generalize w3.alloc (.cells #[.func (.func 41) #[.pointer (some ⟨x,0,none⟩)] #[],.func (.func fH) #[] caps] 118)=w4 at*
 generalize w3.heap.size=cb at*
 have hr4:=HAR.out _ HA4.out
 rw[HFC.out]at hr4
 have a0:w4.cell? ⟨s0,0,none⟩=some (.int .i64 first):=hr4.cell 0
 have a1:w4.cell? ⟨s0,1,none⟩=some (.int .i64 nb):=hr4.cell 1
 have a2:w4.cell? ⟨s0,2,none⟩=some (.int .i64 k):=hr4.cell 2
 have a3:w4.cell? ⟨s0,3,none⟩=some (.int .i64 count):=hr4.cell 3
 have b0:w4.cell? ⟨cb,0,none⟩=some (.func (.func 41) #[.pointer (some ⟨x,0,none⟩)] #[]):=HCH.out.cell 0
 have b1:w4.cell? ⟨cb,1,none⟩=some (.func (.func fH) #[] caps):=HCH.out.cell 1
 have HA5:=Lib.hid (HAB.out w4 _ HA4.out ((Below.refl w4.heap.size w4).alloc (Nat.le_refl _) (.cells #[.int .i64 first,.int .i64 nb,.int .i64 k,.int .i64 count] 31)))
 have hr5:Row (w4.alloc (.cells #[.int .i64 first,.int .i64 nb,.int .i64 k,.int .i64 count] 31)) w4.heap.size 31 fc:=by rw[HFC.out];exact heap_alloc_new _ _
 have HL:=Lib.hid (HLAY.out _ _ HA5.out hr5)
 clear hr4 hr5
 go_wp2_with fail
 refine HL.out.mono ?_
 rintro e w6 (⟨F,M,rfl,hc⟩|⟨er,rfl,hpos,hn⟩)
 ·have HR6:=Lib.hid (HCR.out _ _ _ _ hc)
  have H9:=Lib.hid (HCS.out F M Z4 w6 (.int .i64 F) (.int .i64 M) (.int .i64 width) (.int .i64 ol) rfl hc)
  clear hc a0 a1 a2 a3 b0 b1 HL HA5
  have z0:w6.cell? ⟨s0+1,0,none⟩=some (.int .i64 0):=HR6.out.cell 0
  have z1:w6.cell? ⟨s0+1,1,none⟩=some (.int .i64 0):=HR6.out.cell 1
  have z2:w6.cell? ⟨s0+1,2,none⟩=some (.int .i64 0):=HR6.out.cell 2
  have z3:w6.cell? ⟨s0+1,3,none⟩=some (.int .i64 0):=HR6.out.cell 3
  have f0:=HR6.out.free 0
  have f1:=HR6.out.free 1
  have f2:=HR6.out.free 2
  have f3:=HR6.out.free 3
  go_wp2
  refine leaves_cons (f:=40) (args:=#[.pointer (some ⟨x,0,none⟩)]) (by simp) (by simp[go_sem]) ?_
  refine(HCC.out _ _ _ _ _ H9.out).mono ?_
  rintro e u' w'' ⟨rfl,rfl,hr9,hpost⟩
  have r0:=hr9.cell 0
  have r1:=hr9.cell 1
  have r2:=hr9.cell 2
  have r3:=hr9.cell 3
  simp only[List.getElem?_cons_zero,List.getElem?_cons_succ]at r0 r1 r2 r3
  exact⟨.tuple #[.agg #[.int .i64 F,.int .i64 M,.int .i64 width,.int .i64 ol],.int .i64 0],by simp[results,Tryz.results32,go_sem,r0,r1,r2,r3],hpost⟩
 ·have HPO:=Lib.hid hpos
  have HR6:=Lib.hid (HNR.out _ _ _ hn)
  have H9:=Lib.hid (HNS.out er Z4 w6 (.int .i64 0) (.int .i64 0) (.int .i64 0) (.int .i64 0) rfl hn)
  clear hn hpos a0 a1 a2 a3 b0 b1 HL HA5
  have z0:w6.cell? ⟨s0+1,0,none⟩=some (.int .i64 0):=HR6.out.cell 0
  have z1:w6.cell? ⟨s0+1,1,none⟩=some (.int .i64 0):=HR6.out.cell 1
  have z2:w6.cell? ⟨s0+1,2,none⟩=some (.int .i64 0):=HR6.out.cell 2
  have z3:w6.cell? ⟨s0+1,3,none⟩=some (.int .i64 0):=HR6.out.cell 3
  have f0:=HR6.out.free 0
  have f1:=HR6.out.free 1
  have f2:=HR6.out.free 2
  have f3:=HR6.out.free 3
  go_wp2
  refine leaves_cons (f:=40) (args:=#[.pointer (some ⟨x,0,none⟩)]) (by simp) (by simp[go_sem]) ?_
  refine(HNC.out _ _ _ _ HPO.out H9.out).mono ?_
  rintro e u' w'' ⟨rfl,rfl,hr9,hpost⟩
  have r0:=hr9.cell 0
  have r1:=hr9.cell 1
  have r2:=hr9.cell 2
  have r3:=hr9.cell 3
  simp only[List.getElem?_cons_zero,List.getElem?_cons_succ]at r0 r1 r2 r3
  exact⟨.tuple #[.agg #[.int .i64 0,.int .i64 0,.int .i64 0,.int .i64 0],.int .i64 er],by simp[results,Tryz.results32,go_sem,r0,r1,r2,r3],hpost⟩
end
def colT(t:Tup)(i:Nat):Int:=t.cols.getD i 0
def kol(k:Int):Nat:=k.natAbs-1
theorem kol_pos{k:Int}(h:0<k):((kol k:Nat):Int)=k-1:=by unfold kol;omega
theorem kol_min{k:Int}(h:k<0):((kol k:Nat):Int)=-k-1:=by unfold kol;omega
def Fm(o:Tup):Prop:=∀i,i<5→(-5≤colT o i∧colT o i≤5)∧∀k,k<i→colT o i≠0→colT o k≠0∧kol (colT o k)≠kol (colT o i)
instance fmDec (o : Tup) : Decidable (Fm o) := by unfold Fm; exact inferInstance
def cutO(ks:List Int)(t:Tup):List Int:=(ks.takeWhile fun k=>k≠0).map fun k=>colT t (kol k)
def tupL(l:List Int):Tup:=⟨l.getD 0 0,l.getD 1 0,l.getD 2 0,l.getD 3 0,l.getD 4 0⟩
def cutT(o t:Tup):Tup:=if Fm o then tupL (cutO o.cols t)else tup0
theorem cutO_len(ks:List Int)(t:Tup):(cutO ks t).length=(ks.takeWhile fun k=>k≠0).length:=by unfold cutO;rw[List.length_map]
def setT(t:Tup)(k:Nat)(v:Int):Tup:=match k with
 |0=>{t with a:=v}
 |1=>{t with b:=v}
 |2=>{t with c:=v}
 |3=>{t with d:=v}
 |4=>{t with e:=v}
 | _=>t
theorem lt5{k:Nat}(h:k<5):k=0∨k=1∨k=2∨k=3∨k=4:=by omega
theorem setT_cells{t:Tup}{k:Nat}(hk:k<5)(v:Int):(tupC t).set k (.int .i64 v)=tupC (setT t k v):=by
 rcases lt5 hk with rfl|rfl|rfl|rfl|rfl<;>rfl
theorem tupC_at(t:Tup){k:Nat}(hk:k<5):(tupC t)[k]?=some (.int .i64 (colT t k)):=by
 rcases lt5 hk with rfl|rfl|rfl|rfl|rfl<;>rfl
theorem setT_ok{t:Tup}{k:Nat}(hk:k<5){v:Int}(h:TupOk t)(hv:I64 v):TupOk (setT t k v):=by
 have h0:=h t.a (by simp[Tup.cols])
 have h1:=h t.b (by simp[Tup.cols])
 have h2:=h t.c (by simp[Tup.cols])
 have h3:=h t.d (by simp[Tup.cols])
 have h4:=h t.e (by simp[Tup.cols])
 intro x hx
 rcases lt5 hk with rfl|rfl|rfl|rfl|rfl<;>
  (simp[setT,Tup.cols]at hx;rcases hx with rfl|rfl|rfl|rfl|rfl<;>assumption)
theorem setT_fits{t:Tup}{k:Nat}(hk:k<5){v:Int}(h:fitsT k t=true):fitsT (k+1) (setT t k v)=true:=by
 unfold fitsT at*
 rcases lt5 hk with rfl|rfl|rfl|rfl|rfl<;>simp[setT,Tup.cols]at h⊢<;>simp[h]
section
variable {X : Cx} {m : Nat} {W : World}
def numH(gF gI:Nat)(fc:List Value)(fr:Int)(j:Nat):List Asn:=[rowO gF 31 fc,rowO gI 2 [.int .i64 (fr+j)]]
def numC(k:Nat)(fr:Int)(j:Nat)(t:Tup):Option Tup:=some (setT t k (fr+j))
theorem ix_len(Y zz:List Asn)(n:Nat)(h:Y.length=n):n+zz.length=(Y++zz).length:=by subst h;simp
theorem ix_at1{Y zz:List Asn}{c d:Asn}{n:Nat}(h:Y.length=n):(Y++(zz++[c,d]))[n+zz.length]?=some c:=by
 rw[ix_len Y zz n h,←List.append_assoc];simp
theorem ix_at2{Y zz:List Asn}{c d:Asn}{n:Nat}(h:Y.length=n):(Y++(zz++[c,d]))[n+zz.length+1]?=some d:=by
 rw[ix_len Y zz n h,←List.append_assoc,List.getElem?_append_right (by omega),show (Y++zz).length+1-(Y++zz).length=1 by omega];rfl
theorem ix_set1{Y zz:List Asn}{c d x:Asn}{n:Nat}(h:Y.length=n):(Y++(zz++[c,d])).set (n+zz.length) x=Y++(zz++[x,d]):=by
 rw[ix_len Y zz n h,←List.append_assoc,List.set_append_right _ _ (Nat.le_refl _),Nat.sub_self,List.append_assoc];rfl
theorem ix_set2{Y zz:List Asn}{c d x:Asn}{n:Nat}(h:Y.length=n):(Y++(zz++[c,d])).set (n+zz.length+1) x=Y++(zz++[c,x]):=by
 rw[ix_len Y zz n h,←List.append_assoc,List.set_append_right _ _ (by omega),show (Y++zz).length+1-(Y++zz).length=1 by omega,List.append_assoc];rfl
theorem snd_store{Y Z:List Asn}{a b:Asn}:(Y++[a,b]++Z)[Y.length+1]?=some b:=by simp
theorem fst_store{Y Z:List Asn}{a b:Asn}:(Y++[a,b]++Z)[Y.length]?=some a:=by simp
theorem num_how{pre:List Asn}{gF gI k:Nat}{f0 f1 f3:Value}{fr:Int}{l:List Tup}(hk:k<5)(hfr:-9223372036854775808≤fr∧fr+l.length≤9223372036854775807):
  HowC X pre 50 #[.pointer (some ⟨gI,0,none⟩),.pointer (some ⟨gF,0,none⟩)] l (numC k fr) (numH gF gI [f0,f1,.int .i64 k,f3] fr) 2 where
 ent:=fun args w=>by kernel_rfl
 len:=fun _=>rfl
 how:=fun j zz m W t ht h=>by
  have hj:j<l.length:=by
   rcases Nat.lt_or_ge j l.length with hl|hl
   ·exact hl
   ·rw[List.getElem?_eq_none hl]at ht;cases ht
  obtain⟨v,hv⟩:∃v:Int,v=fr+j:=⟨_,rfl⟩
  obtain⟨W2,hW2⟩:∃W2,W2=(W.alloc (.cells #[.int .i64 t.a,.int .i64 t.b,.int .i64 t.c,.int .i64 t.d,.int .i64 t.e] 56)).alloc (.cells #[.int .i64 0,.int .i64 0,.int .i64 0,.int .i64 0,.int .i64 0] 56):=⟨_,rfl⟩
  have h1:=h.new ((Below.refl W.heap.size W).alloc (Nat.le_refl _) (.cells #[.int .i64 t.a,.int .i64 t.b,.int .i64 t.c,.int .i64 t.d,.int .i64 t.e] 56)) (heap_alloc_new _ _:Row _ _ 56 (tupC t)) (Nat.le_refl _)
  have h2:=h1.new ((Below.refl _ _).alloc (Nat.le_refl _) (.cells #[.int .i64 0,.int .i64 0,.int .i64 0,.int .i64 0,.int .i64 0] 56)) (heap_alloc_new _ _:Row _ _ 56 Z5) (Nat.le_refl _)
  rw[←hW2,show (W.alloc (.cells #[.int .i64 t.a,.int .i64 t.b,.int .i64 t.c,.int .i64 t.d,.int .i64 t.e] 56)).heap.size=W.heap.size+1 by simp]at h2
  obtain⟨s0,hs0⟩:∃s0,s0=W.heap.size:=⟨_,rfl⟩
  rw[←hs0]at h2
  obtain⟨A,hA⟩:∃A:Int→List Value→List Value→World→Prop,∀v c1 c2 w,A v c1 c2 w↔Wd X (pre++[rowO gF 31 [f0,f1,.int .i64 k,f3],rowO gI 2 [.int .i64 v]]++(zz++[rowO s0 56 c1,rowO (s0+1) 56 c2])) m w:=⟨_,fun _ _ _ _=>Iff.rfl⟩
  have hpl:∀v,(pre++[rowO gF 31 [f0,f1,.int .i64 k,f3],rowO gI 2 [.int .i64 v]]).length=pre.length+2:=fun v=>by simp
  have HA0:Hid (A v (tupC t) Z5 W2):=(hA _ _ _ _).2 (by rw[hv];simpa [List.append_assoc,numH]using h2)
  have HROW:Hid (∀v c1 c2 w,A v c1 c2 w→Row w gF 31 [f0,f1,.int .i64 k,f3]∧Row w gI 2 [.int .i64 v]∧Row w s0 56 c1∧Row w (s0+1) 56 c2):=fun v c1 c2 w q=>by
   have q:=(hA _ _ _ _).1 q
   exact⟨q.row fst_store,q.row snd_store,q.row (ix_at1 (hpl _)),q.row (ix_at2 (hpl _))⟩
  have HS1:Hid (∀v c1 c2 w j x,A v c1 c2 w→A v (c1.set j x) c2 (w.setCell ⟨s0,j,none⟩ x)):=fun v c1 c2 w j x q=>by
   have q1:=((hA _ _ _ _).1 q).store (ix_at1 (hpl _)) (by decide) j x
   rw[ix_set1 (hpl _)]at q1
   exact(hA _ _ _ _).2 q1
  have HS2:Hid (∀v c1 c2 w j x,A v c1 c2 w→A v c1 (c2.set j x) (w.setCell ⟨s0+1,j,none⟩ x)):=fun v c1 c2 w j x q=>by
   have q1:=((hA _ _ _ _).1 q).store (ix_at2 (hpl _)) (by decide) j x
   rw[ix_set2 (hpl _)]at q1
   exact(hA _ _ _ _).2 q1
  have HS3:Hid (∀v c1 c2 w x,A v c1 c2 w→A x c1 c2 (w.setCell ⟨gI,0,none⟩ (.int .i64 x))):=fun v c1 c2 w x q=>by
   have q1:=((hA _ _ _ _).1 q).store snd_store (by decide) 0 (.int .i64 x)
   refine(hA _ _ _ _).2 ?_
   have e:∀(Q:List Asn) (a b c:Asn),(pre++[a,b]++Q).set (pre.length+1) c=pre++[a,c]++Q:=fun Q a b c=>by simp
   rw[e]at q1
   exact q1
  have HEND:Hid (∀c1 c2 w,A (v+1) c1 c2 w→Wd X (pre++numH gF gI [f0,f1,.int .i64 k,f3] fr (j+1)++zz) m w):=fun c1 c2 w q=>by
   have q:=(hA _ _ _ _).1 q
   rw[←List.append_assoc]at q
   have q2:=Wd.cuts (b:=[]) [rowO s0 56 c1,rowO (s0+1) 56 c2] (fun y hy=>by simp at hy;rcases hy with rfl|rfl<;>exact⟨rfl,rfl⟩) (by rw[List.append_nil];exact q)
   rw[List.append_nil]at q2
   have e:fr+((j+1:Nat):Int)=v+1:=by rw[hv];omega
   unfold numH
   rw[e]
   exact q2
  have hc:numC k fr j t=some (setT t k v):=by unfold numC;rw[hv]
  have hvb:-9223372036854775808≤v∧v+1≤9223372036854775807:=by omega
  obtain⟨v1,hv1⟩:∃v1:Int,v1=v+1:=⟨_,rfl⟩
  have hv2:v+1=v1:=hv1.symm
  rw[hv2]at HEND
  have hvb1:-9223372036854775808≤v1∧v1≤9223372036854775807:=by omega
  have HC:=Lib.hid hc
  have HW2:=Lib.hid hW2
  have HT:=Lib.hid (setT_cells (t:=t) hk v)
  have HU:Hid (∃u,u=setT t k v):=⟨_,rfl⟩
  obtain⟨u,hu⟩:=HU.out
  have HT2:Hid (∀v,(tupC t).set k (.int .i64 v)=tupC (setT t k v)):=fun v=>setT_cells hk v
  have HT3:=Lib.hid (tupC_at t hk)
  rw[←hu]at HC HT
  have hki:(k:Int)<5:=by omega
  have hk0:(0:Int)≤(k:Int):=by omega
  clear h1 h2 h hpl hA hW2 hc hv hv1 hu HU hfr ht hj
  replace hs0:=Lib.hid hs0
  unfold tupV
  go_enter Tryz.func50,Tryz.ntmps50
  go_upto_region 1 with(fail)
  rw[←HW2.out,←hs0.out]
  clear HW2
  obtain⟨p1,p2,p3,p4⟩:=HROW.out _ _ _ _ HA0.out
  have q2:W2.cell? ⟨gF,2,none⟩=some (.int .i64 k):=p1.cell 2
  have q1:W2.cell? ⟨gI,0,none⟩=some (.int .i64 v):=p2.cell 0
  have qk:W2.cell? ⟨s0,k,none⟩=some (.int .i64 (colT t k)):=(p3.cell k).trans HT3.out
  have fk:=p3.free k
  have ha1:=HS1.out v (tupC t) Z5 W2 k (.int .i64 v) HA0.out
  rw[HT.out]at ha1
  have HA1:=Lib.hid ha1
  clear ha1 p1 p2 p3 p4
  go_upto_region 2 with(fail)
  generalize W2.setCell ⟨s0,k,none⟩ (.int .i64 v)=W3 at*
  clear q1 q2 qk fk
  obtain⟨p1,p2,p3,p4⟩:=HROW.out _ _ _ _ HA1.out
  have q1:W3.cell? ⟨gI,0,none⟩=some (.int .i64 v):=p2.cell 0
  have f1:=p2.free 0
  have HA2:=Lib.hid (HS3.out v _ _ W3 v1 HA1.out)
  clear p1 p2 p3 p4
  go_upto_region 3 with(fail)
  generalize W3.setCell ⟨gI,0,none⟩ (.int .i64 v1)=W4 at*
  clear q1 f1
  obtain⟨p1,p2,p3,p4⟩:=HROW.out _ _ _ _ HA2.out
  have d0:W4.cell? ⟨s0,0,none⟩=some (.int .i64 u.a):=p3.cell 0
  have d1:W4.cell? ⟨s0,1,none⟩=some (.int .i64 u.b):=p3.cell 1
  have d2:W4.cell? ⟨s0,2,none⟩=some (.int .i64 u.c):=p3.cell 2
  have d3:W4.cell? ⟨s0,3,none⟩=some (.int .i64 u.d):=p3.cell 3
  have d4:W4.cell? ⟨s0,4,none⟩=some (.int .i64 u.e):=p3.cell 4
  have z0:W4.cell? ⟨s0+1,0,none⟩=some (.int .i64 0):=p4.cell 0
  have z1:W4.cell? ⟨s0+1,1,none⟩=some (.int .i64 0):=p4.cell 1
  have z2:W4.cell? ⟨s0+1,2,none⟩=some (.int .i64 0):=p4.cell 2
  have z3:W4.cell? ⟨s0+1,3,none⟩=some (.int .i64 0):=p4.cell 3
  have z4:W4.cell? ⟨s0+1,4,none⟩=some (.int .i64 0):=p4.cell 4
  have f0:=p4.free 0
  have f1:=p4.free 1
  have f2:=p4.free 2
  have f3:=p4.free 3
  have f4:=p4.free 4
  have HA3:=Lib.hid (HS2.out _ _ _ _ 4 (.int .i64 u.e) (HS2.out _ _ _ _ 3 (.int .i64 u.d) (HS2.out _ _ _ _ 2 (.int .i64 u.c) (HS2.out _ _ _ _ 1 (.int .i64 u.b) (HS2.out v1 _ _ W4 0 (.int .i64 u.a) HA2.out)))))
  have HR9:=Lib.hid (HROW.out _ _ _ _ HA3.out).2.2.2
  clear p1 p2 p3 p4
  go_wp2
  have r0:=HR9.out.cell 0
  have r1:=HR9.out.cell 1
  have r2:=HR9.out.cell 2
  have r3:=HR9.out.cell 3
  have r4:=HR9.out.cell 4
  simp only[Z5,List.set_cons_zero,List.set_cons_succ,List.getElem?_cons_zero,List.getElem?_cons_succ]at r0 r1 r2 r3 r4
  refine bodyPost_ret (v:=.tuple #[tupV u,.bool true]) (by unfold tupV;simp[results,Tryz.results50,go_sem,r0,r1,r2,r3,r4]) rfl ?_
  exact⟨u,true,rfl,HC.out,HEND.out _ _ _ HA3.out⟩
def OpRes(X:Cx)(os:List Asn)(Out:List Tup)(m nb bd k:Nat)(e:Ending)(w':World):Prop:=
 (∃F N:Nat,e=.returned (.tuple #[.agg #[.int .i64 F,.int .i64 N,.int .i64 k,.int .i64 (Out.length:Nat)],.int .i64 0])∧FOk F N k (holdsI X.sz k) Out X.sz∧Wd X (os++[fiO F N k (holdsI X.sz k) Out X.sz]) (m+N+nb) w')∨
 (∃er:Nat,e=.returned (.tuple #[.agg #[.int .i64 0,.int .i64 0,.int .i64 0,.int .i64 0],.int .i64 er])∧0<er∧(er=6∧¬X.cm∨er=5∧∀q,¬Rm X os q (blocksN (holdsI X.sz k) bd))∧Wd X os (m+nb+bd+2) w')
theorem op_states{os:List Asn}{H:Nat→List Asn}{R nb bd k:Nat}{Out:List Tup}{e:Ending}{w':World}(hH:∀i,Bare (H i))(h:ChgRes X os [rowO R 31 Z4] H Out m nb bd k e w'):
  ∃C:List Value→World→Prop,∃F N K L er:Nat,e=.returned (.tuple #[.agg #[.int .i64 F,.int .i64 N,.int .i64 K,.int .i64 L],.int .i64 er])∧C Z4 w'∧(∀cs w,C cs w→Row w R 31 cs)∧
   (∀cs w x1 x2 x3 x4,cs.length=4→C cs w→C [x1,x2,x3,x4] ((((w.setCell ⟨R,0,none⟩ x1).setCell ⟨R,1,none⟩ x2).setCell ⟨R,2,none⟩ x3).setCell ⟨R,3,none⟩ x4))∧
   (∀cs w,C cs w→OpRes X os Out m nb bd k (.returned (.tuple #[.agg #[.int .i64 F,.int .i64 N,.int .i64 K,.int .i64 L],.int .i64 er])) w):=by
 rcases h with⟨F,N,i,he,hfo,hw⟩|⟨er,i,he,hpos,hwhy,hw⟩
 ·refine⟨fun cs w=>Wd X (os++H i++[rowO R 31 cs]++[fiO F N k (holdsI X.sz k) Out X.sz]) (m+N+nb) w,F,N,k,Out.length,0,he,hw,fun cs w q=>opn_row q,fun cs w x1 x2 x3 x4 hcs q=>opn_store hcs q x1 x2 x3 x4,fun cs w q=>.inl ⟨F,N,rfl,hfo,opn_cut (hH i) q⟩⟩
 ·refine⟨fun cs w=>Wd X (os++H i++[rowO R 31 cs]++[]) (m+nb+bd+2) w,0,0,0,0,er,he,by show Wd X (os++H i++[rowO R 31 Z4]++[]) (m+nb+bd+2) w';rw[List.append_nil];exact hw,fun cs w q=>opn_row q,fun cs w x1 x2 x3 x4 hcs q=>opn_store hcs q x1 x2 x3 x4,fun cs w q=>.inr ⟨er,rfl,hpos,?_,by have q2:=opn_cut (hH i) q;rwa [List.append_nil]at q2⟩⟩
  refine hwhy.imp_right fun⟨q1,q2⟩=>⟨q1,fun z hz=>q2 z ?_⟩
  rw[List.append_assoc]
  refine rm_none hz fun a ha=>?_
  rcases List.mem_append.1 ha with ha|ha
  ·exact(hH 0 a ha).2
  ·simp at ha;subst ha;rfl
theorem wd_number{os:List Asn}{first nb k hh count:Nat}{l:List Tup}{fr:Int}(h:Wd X os m W)(hf:FOk first nb k hh l X.sz)(hmem:fiO first nb k hh l X.sz∈os)(hc:l.length=count)(hk:k<5)(hfr:-9223372036854775808≤fr∧fr+count≤9223372036854775807)
  (hroom:2*X.sz+sumN Asn.gw os≤X.rm) (hn:X.N+m+nb+count+2≤1000000) (hwd:0<holdsI X.sz ((k+1:Nat):Int)):
  Calls Tryz.prog 21 #[.pointer (some ⟨X.p.w,0,none⟩),.agg #[.int .i64 first,.int .i64 nb,.int .i64 k,.int .i64 count],.int .i64 fr] W (OpRes X os (outL (numC k fr) l count) m nb count (k+1)):=by
 obtain⟨W3,hW3⟩:∃W3,W3=((W.alloc (.cells #[.int .i64 first,.int .i64 nb,.int .i64 k,.int .i64 count] 31)).alloc (.cells #[.int .i64 fr] 2)).alloc (.cells #[.int .i64 0,.int .i64 0,.int .i64 0,.int .i64 0] 31):=⟨_,rfl⟩
 have h1:=h.new ((Below.refl W.heap.size W).alloc (Nat.le_refl _) (.cells #[.int .i64 first,.int .i64 nb,.int .i64 k,.int .i64 count] 31)) (heap_alloc_new _ _:Row _ _ 31 [.int .i64 first,.int .i64 nb,.int .i64 k,.int .i64 count]) (Nat.le_refl _)
 have h2:=h1.new ((Below.refl _ _).alloc (Nat.le_refl _) (.cells #[.int .i64 fr] 2)) (heap_alloc_new _ _:Row _ _ 2 [.int .i64 fr]) (Nat.le_refl _)
 have h3:=h2.new ((Below.refl _ _).alloc (Nat.le_refl _) (.cells #[.int .i64 0,.int .i64 0,.int .i64 0,.int .i64 0] 31)) (heap_alloc_new _ _:Row _ _ 31 Z4) (Nat.le_refl _)
 rw[←hW3]at h3
 have hsz:∀(w:World) (o:Obj),(w.alloc o).heap.size=w.heap.size+1:=fun w o=>by simp
 simp only[hsz]at h3
 obtain⟨s0,hs0⟩:∃s0,s0=W.heap.size:=⟨_,rfl⟩
 rw[←hs0]at h3
 have h3:Wd X (os++numH s0 (s0+1) [.int .i64 first,.int .i64 nb,.int .i64 k,.int .i64 count] fr 0++[rowO (s0+1+1) 31 Z4]) m W3:=by
  unfold numH;simpa [List.append_assoc]using h3
 have hrow:Row W3 s0 31 [.int .i64 first,.int .i64 nb,.int .i64 k,.int .i64 count]:=h3.row (i:=os.length) (by unfold numH;simp)
 have hcg:=wd_change (width:=k+1) (num_how (X:=X) (pre:=os) (gF:=s0) (gI:=s0+1) (k:=k) (f0:=.int .i64 first) (f1:=.int .i64 nb) (f3:=.int .i64 count) (fr:=fr) (l:=l) hk (by rw[hc];exact hfr)) h3 hf (by simp[hmem]) hc hwd (fun j t u ht hu=>by
   have hj:j<l.length:=by
    rcases Nat.lt_or_ge j l.length with hl|hl
    ·exact hl
    ·rw[List.getElem?_eq_none hl]at ht;cases ht
   have hft:=hf.fit t (List.mem_of_getElem? ht)
   unfold numC at hu
   injection hu with hu
   subst hu
   refine⟨setT_ok hk hft.1 ?_,setT_fits hk hft.2⟩
   rw[hc]at hj
   exact I64.of (by omega) (by omega)) (by rw[sumN_app,sumN_app,gw_bare (numH s0 (s0+1) [.int .i64 first,.int .i64 nb,.int .i64 k,.int .i64 count] fr 0) (fun q hq=>by simp[numH]at hq;rcases hq with rfl|rfl<;>exact⟨rfl,rfl⟩),gw_bare [rowO (s0+1+1) 31 Z4] (fun q hq=>by simp at hq;subst hq;exact⟨rfl,rfl⟩)];omega) hn
 have HCG:=Lib.hid hcg
 have HST:Hid (∀e w',ChgRes X os [rowO (s0+1+1) 31 Z4] (numH s0 (s0+1) [.int .i64 first,.int .i64 nb,.int .i64 k,.int .i64 count] fr) (outL (numC k fr) l count) m nb count (k+1) e w'→ _):=fun e w' q=>op_states (fun i q hq=>by simp[numH]at hq;rcases hq with rfl|rfl<;>exact⟨rfl,rfl⟩) q
 obtain⟨k1,hk1⟩:∃k1,k1=k+1:=⟨_,rfl⟩
 have hk2:(k:Int)+1=(k1:Int):=by omega
 have hk5:¬(k:Int)=5:=by omega
 have hkb:k1≤5:=by omega
 rw[←hk1]at HCG HST⊢
 generalize ChgRes X os [rowO (s0+1+1) 31 Z4] (numH s0 (s0+1) [.int .i64 first,.int .i64 nb,.int .i64 k,.int .i64 count] fr) (outL (numC k fr) l count) m nb count k1=CRES at*
 generalize OpRes X os (outL (numC k fr) l count) m nb count k1=POST at*
 have HW3:=Lib.hid hW3
 have a0:W3.cell? ⟨s0,0,none⟩=some (.int .i64 first):=hrow.cell 0
 have a1:W3.cell? ⟨s0,1,none⟩=some (.int .i64 nb):=hrow.cell 1
 have a2:W3.cell? ⟨s0,2,none⟩=some (.int .i64 k):=hrow.cell 2
 have a3:W3.cell? ⟨s0,3,none⟩=some (.int .i64 count):=hrow.cell 3
 replace hs0:=Lib.hid hs0
 clear h1 h2 h3 h hW3 hsz hrow hcg hf hmem hc hk hfr hroom hn hwd hk1
 go_enter Tryz.func21,Tryz.ntmps21
 go_upto_region 1 with(fail)
 rw[←HW3.out,←hs0.out]
 clear HW3
 go_wp2_with fail
 refine HCG.out.mono ?_
 rintro e w6 h6
 obtain⟨C,F,N,K,L,er,rfl,hC,hCr,hCs,hCe⟩:=HST.out e w6 h6
 have HR6:=Lib.hid (hCr _ _ hC)
 have H9:=Lib.hid (hCs Z4 w6 (.int .i64 F) (.int .i64 N) (.int .i64 K) (.int .i64 L) rfl hC)
 have HR9:=Lib.hid (hCr _ _ H9.out)
 have HE:=Lib.hid (hCe _ _ H9.out)
 clear h6 hC hCr hCs hCe a0 a1 a2 a3
 have z0:w6.cell? ⟨s0+1+1,0,none⟩=some (.int .i64 0):=HR6.out.cell 0
 have z1:w6.cell? ⟨s0+1+1,1,none⟩=some (.int .i64 0):=HR6.out.cell 1
 have z2:w6.cell? ⟨s0+1+1,2,none⟩=some (.int .i64 0):=HR6.out.cell 2
 have z3:w6.cell? ⟨s0+1+1,3,none⟩=some (.int .i64 0):=HR6.out.cell 3
 have f0:=HR6.out.free 0
 have f1:=HR6.out.free 1
 have f2:=HR6.out.free 2
 have f3:=HR6.out.free 3
 go_wp2
 have r0:=HR9.out.cell 0
 have r1:=HR9.out.cell 1
 have r2:=HR9.out.cell 2
 have r3:=HR9.out.cell 3
 simp only[List.getElem?_cons_zero,List.getElem?_cons_succ]at r0 r1 r2 r3
 refine bodyPost_ret (v:=.tuple #[.agg #[.int .i64 F,.int .i64 N,.int .i64 K,.int .i64 L],.int .i64 er]) (by simp[results,Tryz.results21,go_sem,r0,r1,r2,r3]) rfl ?_
 exact HE.out
end
section
variable {X : Cx} {os : List Asn} {m : Nat} {W : World}
theorem rm_law(hS:X.S0=newSp 0 5000)(hl:os.length≤11)(hos:∀a∈os,a.ex.2≤200){n:Nat}(hn:n≤200):∃z,Rm X os z n:=
 rm_many (b:=5000) hS (q:=200) (c:=os.length) (os.map Asn.ex) (fun e he=>by
  obtain⟨a,ha,rfl⟩:=List.mem_map.1 he
  exact hos a ha) (by simp) (fun a ha=>.inr (List.mem_map_of_mem ha)) (by
  have:os.length*(n+200)≤11*400:=Nat.mul_le_mul hl (by omega)
  omega)
theorem op_good{Out:List Tup}{nb bd k:Nat}{e:Ending}{w':World}(h:OpRes X os Out m nb bd k e w')(hcm:X.cm)(hz:∃z,Rm X os z (blocksN (holdsI X.sz k) bd)):
  ∃F N:Nat,e=.returned (.tuple #[.agg #[.int .i64 F,.int .i64 N,.int .i64 k,.int .i64 (Out.length:Nat)],.int .i64 0])∧FOk F N k (holdsI X.sz k) Out X.sz∧Wd X (os++[fiO F N k (holdsI X.sz k) Out X.sz]) (m+N+nb) w':=by
 rcases h with h|⟨er,_,_,⟨_,hno⟩|⟨_,hno⟩,_⟩
 ·exact h
 ·exact absurd hcm hno
 ·obtain⟨z,hz⟩:=hz
  exact absurd hz (hno z)
end
def l57:List Tup:=[⟨5,0,0,0,0⟩,⟨7,0,0,0,0⟩]
theorem readsT_57{W:World}{b:Nat}(h:Row W b 56 (flatV l57)):ReadsT W W.heap.size (some ⟨b,0,none⟩) 2 l57:=by
 have ho:W.ownsRow 0 56 5 (.slice (some ⟨b,0,none⟩) 2 2) 2 (flatV l57):=⟨rfl,.inr ⟨b,2,(flatV l57).toArray,rfl,Nat.zero_le _,h,Nat.le_refl _,by decide,rfl,rfl⟩⟩
 obtain⟨A,c,he,hr,_⟩:=ownT_reads ho (fun u hu=>small_ok (by
  simp[l57]at hu
  rcases hu with rfl|rfl<;>simp[Tup.cols]))
 injection he with e1 e2 e3
 subst e1
 exact hr
theorem awake13_any(w:World):Calls Tryz.prog 8 #[] w fun e w'=>e=.returned (.bool true)∧Below w.heap.size w w':=by
 have HW:=Lib.hid (work13_any w)
 go_enter Tryz.func8,Tryz.ntmps8
 go_wp2_with fail
 refine HW.out.mono ?_
 rintro e w1 ⟨p,G,rfl,hs,hG,hb⟩
 have h1:Wd (cxL w p 60 12 5000 True 0) [] 0 w1:=cx_start hs hG hb (by omega) (by omega)
 have h2:=h1.new ((Below.refl w1.heap.size w1).alloc (Nat.le_refl _) (.cells #[.int .i64 5,.int .i64 0,.int .i64 0,.int .i64 0,.int .i64 0,.int .i64 7,.int .i64 0,.int .i64 0,.int .i64 0,.int .i64 0] 56)) (heap_alloc_new _ _:Row _ _ 56 (flatV l57)) (Nat.le_refl _)
 have h2:Wd (cxL w p 60 12 5000 True 0) [rowO w1.heap.size 56 (flatV l57)] 0 (w1.alloc (.cells #[.int .i64 5,.int .i64 0,.int .i64 0,.int .i64 0,.int .i64 0,.int .i64 7,.int .i64 0,.int .i64 0,.int .i64 0,.int .i64 0] 56)):=h2
 have HL:Hid (Calls Tryz.prog 26 #[.pointer (some ⟨p.w,0,none⟩),.int .i64 1,.slice (some ⟨w1.heap.size,0,none⟩) 2 2] (w1.alloc (.cells #[.int .i64 5,.int .i64 0,.int .i64 0,.int .i64 0,.int .i64 0,.int .i64 7,.int .i64 0,.int .i64 0,.int .i64 0,.int .i64 0] 56)) fun e w'=>
   ∃F N:Nat,e=.returned (.tuple #[.agg #[.int .i64 F,.int .i64 N,.int .i64 1,.int .i64 2],.int .i64 0])∧FOk F N 1 (holdsI 12 ((1:Nat):Int)) l57 12∧Wd (cxL w p 60 12 5000 True 0) [rowO w1.heap.size 56 (flatV l57),fiO F N 1 (holdsI 12 ((1:Nat):Int)) l57 12] (0+N) w'):=
  wd_lay (k:=1) (n:=2) (c:=2) h2 trivial (by omega) (fun z m' W' q=>readsT_57 (q.row (i:=0) (by simp))) (by decide) (by decide) (by show 12+0≤60;omega) (by show 0+0+2+1≤1000000;omega) (rm_law rfl (by simp) (fun a ha=>by simp at ha;subst ha;exact Nat.zero_le _) (Nat.le_trans (blocks_le _ _) (by decide)))
 clear hs hG hb HW h1 h2
 go_wp2_with fail
 refine HL.out.mono ?_
 rintro e w2 ⟨F,N,rfl,hfo,hw2⟩
 have hN:N≤2:=by rw[hfo.bn];exact blocks_le _ _
 have HNU:Hid (∀W,Below w2.heap.size w2 W→Calls Tryz.prog 21 #[.pointer (some ⟨p.w,0,none⟩),.agg #[.int .i64 F,.int .i64 N,.int .i64 1,.int .i64 2],.int .i64 3] W fun e w'=>
   ∃F' N':Nat,e=.returned (.tuple #[.agg #[.int .i64 F',.int .i64 N',.int .i64 2,.int .i64 2],.int .i64 0])∧Below w.heap.size w w'):=fun W hb=>by
  refine(wd_number (X:=cxL w p 60 12 5000 True 0) (fr:=3) (hw2.below hb) hfo (List.mem_cons_of_mem _ List.mem_cons_self) (count:=2) rfl (by omega) (by omega) (by show 2*12+0≤60;omega) (by show 0+(0+N)+N+2+2≤1000000;omega) (hol_pos (by omega) (by show 8≤12∧12≤256;omega)).1).mono ?_
  rintro e w' h9
  obtain⟨F',N',he,_,hw⟩:=op_good h9 trivial (rm_law rfl (by simp) (fun a ha=>by
   simp at ha
   rcases ha with rfl|rfl
   ·exact Nat.zero_le _
   ·exact(show N≤200 by omega)) (Nat.le_trans (blocks_le _ _) (by omega)))
  exact⟨F',N',he,hw.bel⟩
 have HB2:=Lib.hid hw2.size
 clear HL hfo hw2 hN
 go_wp2_with fail
 refine(HNU.out _ ((Below.refl _ _).alloc (Nat.le_refl _) _)).mono ?_
 rintro e w4 ⟨F',N',rfl,hb4⟩
 have HB4:=Lib.hid (hb4.alloc hb4.size (.cells #[.int .i64 F',.int .i64 N',.int .i64 2,.int .i64 2] 31))
 clear hb4 HNU
 go_wp2
 go_ret
 exact⟨rfl,HB4.out⟩
section
variable {X : Cx} {os : List Asn} {m : Nat} {W : World}
def sumTo(bs:Nat→Nat):Nat→Nat
 |0=>0
 |i+1=>sumTo bs i+bs i
theorem clean13_any{rb n c:Nat}{bs:Nat→Nat}(h:Wd X os m W)(hS:X.S0=newSp 0 5000)(hgw:sumN Asn.gw os=0)(hxw:sumN Asn.xw os=sumTo bs n)(hn:n≤10)(hbs:∀i,i<n→bs i≤5000∧W.cell? ⟨rb,i*4+1,none⟩=some (.int .i64 (bs i:Nat)))(hrb:0<n→rb<W.heap.size):
  Calls Tryz.prog 13 #[.pointer (some ⟨X.p.w,0,none⟩),.slice (some ⟨rb,0,none⟩) n c] W fun e w'=>e=.returned (.bool true)∧Wd X os m w':=by
 have hle:sumTo bs n≤5000:=by
  obtain⟨G,D,A,S,hF⟩:=id h
  have h1:=hF.sum
  rw[hS,newsp_sum]at h1
  omega
 have hmono:∀i j,i≤j→sumTo bs i≤sumTo bs j:=fun i j hij=>by
  induction j with
  |zero=>rw[show i=0 by omega];exact Nat.le_refl _
  |succ j ih=>
   rcases Nat.lt_or_ge i (j+1)with h1|h1
   ·exact Nat.le_trans (ih (by omega)) (Nat.le_add_right _ _)
   ·rw[show i=j+1 by omega];exact Nat.le_refl _
 have HAR:=Lib.hid (wd_arn h)
 have HUS:Hid (Calls Tryz.prog 36 #[.pointer (some ⟨X.p.a,0,none⟩)] W fun e w'=>e=.returned (.int .i64 0)∧w'=W):=by
  have:=wd_used h;rw[hgw]at this;exact this
 have HSP:=Lib.hid (wd_spc h)
 have HFR:Hid (Calls Tryz.prog 38 #[.pointer (some ⟨X.p.s,0,none⟩)] W fun e w'=>e=.returned (.int .i64 ((5000-sumTo bs n:Nat):Int))∧Wd X os m w'):=by
  have:=wd_nfree h;rw[hS,newsp_sum,hxw]at this;exact this
 have HBS:=Lib.hid hbs
 have HRB:=Lib.hid hrb
 have HMO:=Lib.hid hmono
 have HLE:=Lib.hid hle
 clear h hS hgw hxw hbs hmono hle hrb
 go_enter Tryz.func13,Tryz.ntmps13
 go_wp2_with fail
 go_loopw [5,6] (fun sv iv wr=>∃i:Nat,i≤n∧iv=.int .i64 (i:Int)∧sv=.int .i64 (sumTo bs i:Nat)∧wr=W) (fun _ iv _=>n-(intOf iv).toNat)
 case atStart=>exact⟨0,Nat.zero_le _,rfl,rfl,rfl⟩
 case round=>
  obtain⟨i,hi,rfl,rfl,rfl⟩:=hrel
  by_cases hlt:i<n
  ·have g0:decide ((i:Int)<(n:Int))=true:=by simpa using hlt
   have hi0:(0:Int)≤(i:Int):=by omega
   have hi1:(i:Int)<(n:Int):=by omega
   obtain⟨hb,q1⟩:=HBS.out i hlt
   have hrb:=HRB.out (by omega)
   have hs1:=HMO.out i n hi
   have hs2:=HLE.out
   obtain⟨s,hs⟩:∃s,s=sumTo bs i:=⟨_,rfl⟩
   obtain⟨b,hb'⟩:∃b,b=bs i:=⟨_,rfl⟩
   obtain⟨t,ht⟩:∃t,t=s+b:=⟨_,rfl⟩
   have HT:Hid (sumTo bs (i+1)=t):=by unfold Hid;rw[ht,hs,hb'];rfl
   rw[←hb']at q1 hb
   rw[←hs]at hs1⊢
   have s1:(s:Int)+(b:Int)=(t:Int):=by omega
   have htb:t≤20000:=by omega
   clear hs hb' ht hs1 hs2
   go_wp2
   go_roundw
   case rel=>exact⟨i+1,by omega,by go_num,by rw[HT.out],by trivial⟩
   case measure=>simp[intOf];omega
  ·obtain rfl:i=n:=by omega
   have g0:decide ((i:Int)<(i:Int))=false:=by simp
   have hs2:=HLE.out
   obtain⟨s,hs⟩:∃s,s=sumTo bs i:=⟨_,rfl⟩
   obtain⟨d,hd⟩:∃d,d=5000-s:=⟨_,rfl⟩
   rw[←hs]at HFR hs2⊢
   rw[←hd]at HFR
   have s1:(5000:Int)-(s:Int)=(d:Int):=by omega
   clear hs hd
   go_wp2_with fail
   refine HAR.out.mono ?_
   rintro e w1 ⟨rfl,rfl⟩
   go_wp2_with fail
   refine HUS.out.mono ?_
   rintro e w1 ⟨rfl,rfl⟩
   go_wp2_with fail
   refine HSP.out.mono ?_
   rintro e w1 ⟨rfl,rfl⟩
   go_wp2_with fail
   refine HFR.out.mono ?_
   rintro e w1 ⟨rfl,h1⟩
   have H1:=Lib.hid h1
   clear h1
   go_wp2
   go_ret
   exact⟨rfl,H1.out⟩
end
def RL(W:World)(v:Value)(out:List Tup)(w:World):Prop:=Below W.heap.size W w∧w.ownsRow W.heap.size 56 5 v out.length (flatV out)
section
variable {W w w' : World} {v v' : Value} {out : List Tup} {t : Tup}
theorem RL.nil(W:World):RL W (.slice none 0 0) [] W:=⟨Below.refl _ _,ownT_nil _ _ _⟩
theorem RL.below(h:RL W v out w)(hb:Below w.heap.size w w'):RL W v out w':=⟨h.1.trans (hb.mono h.1.size),ownT_keep h.2 hb⟩
theorem RL.far{F:Nat→Prop}(h:RL W v out w)(hf:Far F w w')(hF:∀k,F k→W.heap.size≤k∧v.ownBlock≠some k):RL W v out w':=
 ⟨h.1.trans (hf.below h.1.size fun k hk=>(hF k hk).1),ownsRow_same h.2 fun k hk=>hf.block k (h.2.lt k hk).2 fun hk2=>(hF k hk2).2 hk⟩
theorem RL.push(h:RL W v out w)(hf:Far (fun k=>v.ownBlock=some k) w w')(ho:w'.ownsRow W.heap.size 56 5 v' (out.length+1) (flatV (out++[t]))):RL W v' (out++[t]) w':=
 ⟨h.1.trans (hf.below h.1.size fun k hk=>(h.2.lt k hk).1),by rw[List.length_append];exact ho⟩
end
section
variable {H : Type} {enc : TypeId × Value → H} {P : Program} {w : World} {base b0 : Nat} {spare : Nat → Bool} {held : Bool} {r : Reach}
theorem nat_u8{z:Int}(h:(Lit.int .u8 z).wf=true):∃u:Nat,z=(u:Int)∧u≤255:=by
 have:=bounds_u8 h
 exact⟨z.toNat,by omega,by omega⟩
end
section
variable {H : Type} {enc : TypeId × Value → H} {P : Program} {w : World} {base b0 : Nat} {spare : Nat → Bool} {held : Bool} {r : Reach}
theorem open_table{g t e i u:TypeId}{g0 g1:Field}{v:Value}{d:DataW H}{p:List MemPlace}(hg:P.underlying g=some (.struct #[g0,g1]))(hgo:oneCellFields P #[g0,g1]=true)(hgC:P.cellsOf g=2)(hg0:g0.type=u)(hg1:g1.type=t)(hu:P.underlying u=some (.int .u8))
  (ht:P.underlying t=some (.slice e)) (he:P.underlying e=some (.array 5 i)) (hi:P.underlying i=some (.int .i64)) (hce:P.cellsOf i=1) (hC:P.cellsOf e=5)
  (hv:Value.okWide P w r b0 g v) (h:DataW.Trod enc P w base spare held g v d p):
  ∃(N:Nat) (a:Option Addr) (len cap:Nat) (l:List Tup),v=.agg #[.int .u8 N,.slice a len cap]∧N≤255∧ReadsT w w.heap.size a len l∧len≤maxLen:=by
 obtain⟨v0,v1,y0,y1,n,rfl,_,_,k0,k1⟩:=open_agg2 hg hgo hgC hv h
 obtain⟨N,hN,_,wN⟩:=DataW.trod_int (hg0▸hu) k0
 injection hN with hN;subst hN
 obtain⟨N,rfl,hN⟩:=nat_u8 wN
 obtain⟨a,len,cap,l,rfl,hr,hm⟩:=open_tups ht he hi hce hC (hg1▸k1)
 exact⟨N,a,len,cap,l,rfl,hN,hr,hm⟩
end
def clm(k:Int):Int:=if k<0 then -k-1 else k-1
theorem clm_kol{k:Int}(h:k≠0):clm k=((kol k:Nat):Int):=by
 unfold clm
 split
 ·rw[kol_min (by omega)]
 ·rw[kol_pos (by omega)]
theorem kol_lt{k:Int}(_h0:k≠0)(h:-5≤k∧k≤5):kol k<5:=by unfold kol;omega
def arrV(t:Tup):List Value:=[.int .i64 t.a,.int .i64 t.b,.int .i64 t.c,.int .i64 t.d,.int .i64 t.e]
theorem arr_cell{W:World}{g:Nat}{T:TypeId}{t:Tup}(h:Row W g T (arrV t)){i:Nat}(hi:i<5):W.cell? ⟨g,i,none⟩=some (.int .i64 (colT t i)):=by
 rw[h.cell i]
 match i,hi with
 |0,_=>rfl
 |1,_=>rfl
 |2,_=>rfl
 |3,_=>rfl
 |4,_=>rfl
theorem below_dN{B:Nat}{a w:World}(h:Below B a w)(q:Nat):Below B a (w.drewN q):=⟨h.os,h.tape,h.output,h.size,h.block⟩
theorem rcol_any(k:Int)(hk:-5≤k∧k≤5)(w:World):Calls Tryz.prog 28 #[.int .i64 k] w fun e w'=>e=.returned (.int .i64 (clm k))∧w'=w:=by
 by_cases h:k<0
 ·have g:decide (k<0)=true:=by simpa using h
  have e:clm k=-k-1:=by unfold clm;rw[if_pos h]
  rw[e]
  go_enter Tryz.func28,Tryz.ntmps28
  go_wp2
  go_ret
  exact⟨rfl,rfl⟩
 ·have g:decide (k<0)=false:=by simpa using h
  have e:clm k=k-1:=by unfold clm;rw[if_neg h]
  rw[e]
  go_enter Tryz.func28,Tryz.ntmps28
  go_wp2
  go_ret
  exact⟨rfl,rfl⟩
def FmAt(o:Tup)(i:Nat):Prop:=(-5≤colT o i∧colT o i≤5)∧∀k,k<i→colT o i≠0→colT o k≠0∧kol (colT o k)≠kol (colT o i)
theorem rformed_any(o:Tup)(w:World):Calls Tryz.prog 10 #[.agg #[.int .i64 o.a,.int .i64 o.b,.int .i64 o.c,.int .i64 o.d,.int .i64 o.e]] w fun e w'=>e=.returned (.bool (decide (Fm o)))∧Below w.heap.size w w':=by
 have hr:Row (w.alloc (.cells #[.int .i64 o.a,.int .i64 o.b,.int .i64 o.c,.int .i64 o.d,.int .i64 o.e] 34)) w.heap.size 34 (arrV o):=heap_alloc_new _ _
 have HB:Hid (∀q,Below w.heap.size w ((w.alloc (.cells #[.int .i64 o.a,.int .i64 o.b,.int .i64 o.c,.int .i64 o.d,.int .i64 o.e] 34)).drewN q)):=fun q=>below_dN ((Below.refl w.heap.size w).alloc (Nat.le_refl _) _) q
 have HC:Hid (∀q i,i<5→((w.alloc (.cells #[.int .i64 o.a,.int .i64 o.b,.int .i64 o.c,.int .i64 o.d,.int .i64 o.e] 34)).drewN q).cell? ⟨w.heap.size,i,none⟩=some (.int .i64 (colT o i))):=fun q i hi=>arr_cell hr hi
 have HNO:Hid (∀i,i<5→¬FmAt o i→decide (Fm o)=false):=fun i hi h=>decide_eq_false fun hf=>h (hf i hi)
 have HYES:Hid ((∀i,i<5→FmAt o i)→decide (Fm o)=true):=fun h=>decide_eq_true h
 generalize decide (Fm o)=res at*
 clear hr
 go_enter Tryz.func10,Tryz.ntmps10
 go_upto_region 1 with(fail)
 generalize w.alloc (.cells #[.int .i64 o.a,.int .i64 o.b,.int .i64 o.c,.int .i64 o.d,.int .i64 o.e] 34)=W1 at*
 go_wp2_with fail
 go_loopw [3] (fun iv wr=>∃i q:Nat,i≤5∧iv=.int .i64 (i:Int)∧W1.drewN q=wr∧Hid (∀j,j<i→FmAt o j)) (fun iv _=>5-(intOf iv).toNat)
 case atStart=>exact⟨0,0,by omega,rfl,rfl,fun j hj=>by omega⟩
 case round=>
  obtain⟨i,q,hi,rfl,rfl,HF⟩:=hrel
  by_cases hlt:i<5
  ·have g1:decide ((i:Int)<5)=true:=by simp;omega
   have i0:(0:Int)≤(i:Int):=by omega
   have i1:(i:Int)<5:=by omega
   obtain⟨x,hx⟩:∃x,x=colT o i:=⟨_,rfl⟩
   have Hx:=Lib.hid hx
   have cx:∀q,(W1.drewN q).cell? ⟨w.heap.size,i,none⟩=some (.int .i64 x):=fun q=>by rw[hx];exact HC.out q i hlt
   clear hx
   by_cases h1:x< -5
   ·have hres:res=false:=HNO.out i hlt fun h=>by have:=h.1;rw[←Hx.out]at this;omega
    have g2:decide (x< -5)=true:=by simpa using h1
    subst hres
    go_wp2
    go_ret
    exact⟨rfl,(by first|exact HB.out _|exact below_dN (HB.out _) _)⟩
   ·have g2:decide (x< -5)=false:=by simpa using h1
    by_cases h2:x>5
    ·have hres:res=false:=HNO.out i hlt fun h=>by have:=h.1;rw[←Hx.out]at this;omega
     have g3:decide (x>5)=true:=by simpa using h2
     subst hres
     go_wp2
     go_ret
     exact⟨rfl,(by first|exact HB.out _|exact below_dN (HB.out _) _)⟩
    ·have g3:decide (x>5)=false:=by simpa using h2
     have Hrx:Hid (-5≤x∧x≤5):=⟨by omega,by omega⟩
     clear h1 h2
     go_wp2_with fail
     go_loopw [4] (fun kv wr=>∃k q2:Nat,k≤i∧kv=.int .i64 (k:Int)∧W1.drewN q2=wr∧Hid (∀j,j<k→x≠0→colT o j≠0∧kol (colT o j)≠kol x)) (fun kv _=>i-(intOf kv).toNat)
     case atStart=>exact⟨0,q,by omega,rfl,rfl,fun j hj=>by omega⟩
     case round=>
      obtain⟨k,q2,hk,rfl,rfl,HK⟩:=hrel
      by_cases hkl:k<i
      ·have g4:decide ((k:Int)<(i:Int))=true:=by simp;omega
       have k0:(0:Int)≤(k:Int):=by omega
       have k1:(k:Int)<5:=by omega
       have k2:k<5:=by omega
       obtain⟨y,hy⟩:∃y,y=colT o k:=⟨_,rfl⟩
       have Hy:=Lib.hid hy
       have cy:∀q,(W1.drewN q).cell? ⟨w.heap.size,k,none⟩=some (.int .i64 y):=fun q=>by rw[hy];exact HC.out q k (by omega)
       have Hry:Hid (-5≤y∧y≤5):=by have:=(HF.out k hkl).1;rw[←Hy.out]at this;exact this
       clear hy
       by_cases hy0:y=0
       ·have gy:(y==0)=true:=by simpa using hy0
        by_cases hx0:x=0
        ·have gx:(x !=0)=false:=by simpa using hx0
         have HK2:Hid (∀j,j<k+1→x≠0→colT o j≠0∧kol (colT o j)≠kol x):=fun j _ h=>absurd hx0 h
         clear hy0 hx0 HK
         go_wp2
         go_quiet (fail)
         go_wp2
         go_roundw
         case rel=>exact⟨k+1,_,by omega,by go_num,rfl,HK2.out⟩
         case measure=>simp[intOf];omega
        ·have gx:(x !=0)=true:=by simpa using hx0
         have hres:res=false:=HNO.out i hlt fun h=>by
          have:=(h.2 k hkl (by rw[←Hx.out];exact hx0)).1
          rw[←Hy.out]at this;exact this hy0
         subst hres
         clear hy0 hx0 HK
         go_wp2
         go_quiet (fail)
         go_wp2
         go_ret
         exact⟨rfl,(by first|exact HB.out _|exact below_dN (HB.out _) _)⟩
       ·have gy:(y==0)=false:=by simpa using hy0
        by_cases hx0:x=0
        ·have gx:(x !=0)=false:=by simpa using hx0
         have HK2:Hid (∀j,j<k+1→x≠0→colT o j≠0∧kol (colT o j)≠kol x):=fun j _ h=>absurd hx0 h
         clear hy0 hx0 HK
         go_wp2
         go_quiet (fail)
         go_wp2
         go_roundw
         case rel=>exact⟨k+1,_,by omega,by go_num,rfl,HK2.out⟩
         case measure=>simp[intOf];omega
        ·have gx:(x !=0)=true:=by simpa using hx0
         have HQx:Hid (∀q r,Calls Tryz.prog 28 #[.int .i64 x] (W1.drewN (q+r)) fun e w''=>e=.returned (.int .i64 (clm x))∧∃n,w''=W1.drewN (q+n)):=fun q r=>(rcol_any x Hrx.out _).mono fun _ _ ⟨he,hw⟩=>⟨he,r,hw⟩
         have HQy:Hid (∀q r,Calls Tryz.prog 28 #[.int .i64 y] (W1.drewN (q+r)) fun e w''=>e=.returned (.int .i64 (clm y))∧∃n,w''=W1.drewN (q+n)):=fun q r=>(rcol_any y Hry.out _).mono fun _ _ ⟨he,hw⟩=>⟨he,r,hw⟩
         rw[clm_kol hx0]at HQx
         rw[clm_kol hy0]at HQy
         by_cases hc:kol y=kol x
         ·have hres:res=false:=HNO.out i hlt fun h=>by
           have:=(h.2 k hkl (by rw[←Hx.out];exact hx0)).2
           rw[←Hy.out,←Hx.out]at this;exact this hc
          have gc:((kol y:Nat):Int)=((kol x:Nat):Int):=by rw[hc]
          rw[hc]at HQy
          subst hres
          clear hy0 hx0 HK hc gc
          generalize kol x=cx' at*
          go_wp2
          go_quiet ((with_reducible first|exact HQx.out _ _|exact HQy.out _ _))
          go_wp2
          go_ret
          exact⟨rfl,(by first|exact HB.out _|exact below_dN (HB.out _) _)⟩
         ·have HK2:Hid (∀j,j<k+1→x≠0→colT o j≠0∧kol (colT o j)≠kol x):=fun j hj h=>by
           by_cases e:j=k
           ·rw[e,←Hy.out];exact⟨hy0,hc⟩
           ·exact HK.out j (by omega) h
          have gc:decide (((kol y:Nat):Int)=((kol x:Nat):Int))=false:=by simp;omega
          have gc2:(((kol y:Nat):Int)==((kol x:Nat):Int))=false:=by simp;omega
          clear hy0 hx0 HK hc
          generalize kol x=cx' at*
          generalize kol y=cy' at*
          go_wp2
          go_quiet ((with_reducible first|exact HQx.out _ _|exact HQy.out _ _))
          go_wp2
          go_roundw
          case rel=>exact⟨k+1,_,by omega,by go_num,rfl,HK2.out⟩
          case measure=>simp[intOf];omega
      ·have hkk:k=i:=by omega
       have g4:decide ((k:Int)<(i:Int))=false:=by simp;omega
       have HF2:Hid (∀j,j<i+1→FmAt o j):=fun j hj=>by
        by_cases e:j=i
        ·rw[e]
         refine⟨by rw[←Hx.out];exact Hrx.out,fun k' hk' hne=>?_⟩
         rw[←Hx.out]at hne⊢
         exact HK.out k' (by omega) hne
        ·exact HF.out j (by omega)
       clear HK HF hkk
       go_wp2
       go_roundw
       case rel=>exact⟨i+1,_,by omega,by go_num,rfl,HF2.out⟩
       case measure=>simp[intOf];omega
  ·have g1:decide ((i:Int)<5)=false:=by simp;omega
   have hres:res=true:=HYES.out fun j hj=>HF.out j (by omega)
   subst hres
   go_wp2
   go_ret
   exact⟨rfl,(by first|exact HB.out _|exact below_dN (HB.out _) _)⟩
theorem col_any(k:Int)(hk:-5≤k∧k≤5)(w:World):Calls Tryz.prog 57 #[.int .i64 k] w fun e w'=>e=.returned (.int .i64 (clm k))∧w'=w:=by
 by_cases h:k<0
 ·have g:decide (k<0)=true:=by simpa using h
  have e:clm k=-k-1:=by unfold clm;rw[if_pos h]
  rw[e]
  go_enter Tryz.func57,Tryz.ntmps57
  go_wp2
  go_ret
  exact⟨rfl,rfl⟩
 ·have g:decide (k<0)=false:=by simpa using h
  have e:clm k=k-1:=by unfold clm;rw[if_neg h]
  rw[e]
  go_enter Tryz.func57,Tryz.ntmps57
  go_wp2
  go_ret
  exact⟨rfl,rfl⟩
theorem boxes2(w:World)(a b:List Value)(A B:TypeId):∃W1,W1=(w.alloc (.cells a.toArray A)).alloc (.cells b.toArray B)∧Below w.heap.size w W1∧W1.heap.size=w.heap.size+2∧Row W1 w.heap.size A a∧Row W1 (w.heap.size+1) B b:=by
 have b1:Below w.heap.size w (w.alloc (.cells a.toArray A)):=(Below.refl _ _).alloc (Nat.le_refl _) _
 have r1:Row (w.alloc (.cells a.toArray A)) w.heap.size A a:=heap_alloc_new _ _
 have s1:(w.alloc (.cells a.toArray A)).heap.size=w.heap.size+1:=by simp
 refine⟨_,rfl,b1.alloc (by omega) _,by simp,r1.alloc _,?_⟩
 rw[←s1];exact heap_alloc_new _ _
theorem boxes3(w:World)(a b c:List Value)(A B C:TypeId):∃W1,W1=((w.alloc (.cells a.toArray A)).alloc (.cells b.toArray B)).alloc (.cells c.toArray C)∧Below w.heap.size w W1∧W1.heap.size=w.heap.size+3∧Row W1 w.heap.size A a∧Row W1 (w.heap.size+1) B b∧Row W1 (w.heap.size+2) C c:=by
 obtain⟨W,e,b1,s1,r1,r2⟩:=boxes2 w a b A B
 refine⟨_,rfl,?_⟩
 rw[←e]
 refine⟨b1.alloc (by omega) _,by simp[s1],r1.alloc _,r2.alloc _,?_⟩
 rw[←s1];exact heap_alloc_new _ _
theorem boxes4(w:World)(a b c d:List Value)(A B C D:TypeId):∃W1,W1=(((w.alloc (.cells a.toArray A)).alloc (.cells b.toArray B)).alloc (.cells c.toArray C)).alloc (.cells d.toArray D)∧Below w.heap.size w W1∧W1.heap.size=w.heap.size+4∧Row W1 w.heap.size A a∧Row W1 (w.heap.size+1) B b∧Row W1 (w.heap.size+2) C c∧Row W1 (w.heap.size+3) D d:=by
 obtain⟨W,e,b1,s1,r1,r2,r3⟩:=boxes3 w a b c A B C
 refine⟨_,rfl,?_⟩
 rw[←e]
 refine⟨b1.alloc (by omega) _,by simp[s1],r1.alloc _,r2.alloc _,r3.alloc _,?_⟩
 rw[←s1];exact heap_alloc_new _ _
theorem index_any(T:TypeId)(hT:T=26)(o:Tup){i:Nat}(hi:i<5)(w:World):(Instr.index T (.agg #[.int .i64 o.a,.int .i64 o.b,.int .i64 o.c,.int .i64 o.d,.int .i64 o.e]) (.int .i64 (i:Int))).run Tryz.prog w=.ok (.int .i64 (colT o i)) w:=by
 subst hT
 match i,hi with
 |0,_=>exact(by kernel_rfl:(Instr.index 26 (.agg #[.int .i64 o.a,.int .i64 o.b,.int .i64 o.c,.int .i64 o.d,.int .i64 o.e]) (.int .i64 0)).run Tryz.prog w=.ok (.int .i64 o.a) w)
 |1,_=>exact(by kernel_rfl:(Instr.index 26 (.agg #[.int .i64 o.a,.int .i64 o.b,.int .i64 o.c,.int .i64 o.d,.int .i64 o.e]) (.int .i64 1)).run Tryz.prog w=.ok (.int .i64 o.b) w)
 |2,_=>exact(by kernel_rfl:(Instr.index 26 (.agg #[.int .i64 o.a,.int .i64 o.b,.int .i64 o.c,.int .i64 o.d,.int .i64 o.e]) (.int .i64 2)).run Tryz.prog w=.ok (.int .i64 o.c) w)
 |3,_=>exact(by kernel_rfl:(Instr.index 26 (.agg #[.int .i64 o.a,.int .i64 o.b,.int .i64 o.c,.int .i64 o.d,.int .i64 o.e]) (.int .i64 3)).run Tryz.prog w=.ok (.int .i64 o.d) w)
 |4,_=>exact(by kernel_rfl:(Instr.index 26 (.agg #[.int .i64 o.a,.int .i64 o.b,.int .i64 o.c,.int .i64 o.d,.int .i64 o.e]) (.int .i64 4)).run Tryz.prog w=.ok (.int .i64 o.e) w)
def boolV(s:List Bool):List Value:=s.map Value.bool
theorem boolV_at{s:List Bool}{c:Nat}(h:c<s.length):(boolV s)[c]?=some (.bool (s.getD c false)):=by
 unfold boolV
 rw[List.getElem?_map,List.getElem?_eq_getElem h,List.getD_eq_getElem?_getD,List.getElem?_eq_getElem h];rfl
theorem boolV_set(s:List Bool)(c:Nat)(b:Bool):(boolV s).set c (.bool b)=boolV (s.set c b):=by
 unfold boolV;rw[List.map_set]
theorem formed_any(o:Tup)(w:World):Calls Tryz.prog 30 #[.agg #[.int .i64 o.a,.int .i64 o.b,.int .i64 o.c,.int .i64 o.d,.int .i64 o.e]] w fun e w'=>e=.returned (.bool (decide (Fm o)))∧Below w.heap.size w w':=by
 obtain⟨W1,hW1,b1,s1,r1,r2⟩:=boxes2 w [.int .i64 o.a,.int .i64 o.b,.int .i64 o.c,.int .i64 o.d,.int .i64 o.e] [.bool false,.bool false,.bool false,.bool false,.bool false] 26 116
 have HW1:=Lib.hid hW1
 have HB:=Lib.hid b1
 have HSZ:=Lib.hid s1
 have HR2:Hid (Row W1 (w.heap.size+1) 116 (boolV [false,false,false,false,false])):=r2
 have d0:W1.cell? ⟨w.heap.size,0,none⟩=some (.int .i64 o.a):=r1.cell 0
 have d1:W1.cell? ⟨w.heap.size,1,none⟩=some (.int .i64 o.b):=r1.cell 1
 have d2:W1.cell? ⟨w.heap.size,2,none⟩=some (.int .i64 o.c):=r1.cell 2
 have d3:W1.cell? ⟨w.heap.size,3,none⟩=some (.int .i64 o.d):=r1.cell 3
 have d4:W1.cell? ⟨w.heap.size,4,none⟩=some (.int .i64 o.e):=r1.cell 4
 have HNO:Hid (∀i,i<5→¬FmAt o i→decide (Fm o)=false):=fun i hi h=>decide_eq_false fun hf=>h (hf i hi)
 have HYES:Hid ((∀i,i<5→FmAt o i)→decide (Fm o)=true):=fun h=>decide_eq_true h
 have HIX:Hid (∀i:Nat,i<5→∀W:World,(Instr.index 26 (.agg #[.int .i64 o.a,.int .i64 o.b,.int .i64 o.c,.int .i64 o.d,.int .i64 o.e]) (.int .i64 (i:Int))).run Tryz.prog W=.ok (.int .i64 (colT o i)) W):=fun i hi W=>index_any _ rfl o hi W
 generalize decide (Fm o)=res at*
 clear r1 r2 b1 s1 hW1
 go_enter Tryz.func30,Tryz.ntmps30
 go_upto_region 2 with(fail)
 rw[←HW1.out]
 clear HW1
 go_wp2_with fail
 go_loopw [4,8] (fun ev iv wr=>∃(i:Nat) (e:Bool) (s:List Bool),i≤5∧iv=.int .i64 (i:Int)∧ev=.bool e∧Hid (Below w.heap.size w wr)∧Hid (w.heap.size+2≤wr.heap.size)∧Hid (Row wr (w.heap.size+1) 116 (boolV s))∧Hid (s.length=5)∧Hid (∀j,j<i→FmAt o j)∧Hid (e=true↔∃j,j<i∧colT o j=0)∧Hid (∀c,c<5→(s.getD c false=true↔∃j,j<i∧colT o j≠0∧kol (colT o j)=c))) (fun _ iv _=>5-(intOf iv).toNat)
 case atStart=>
  refine⟨0,false,[false,false,false,false,false],by omega,rfl,rfl,HB.out,Nat.le_of_eq HSZ.out.symm,HR2.out,rfl,fun j hj=>by omega,⟨fun h=>(by cases h),fun⟨j,hj,_⟩=>(by omega)⟩,fun c hc=>⟨fun h=>?_,fun⟨j,hj,_⟩=>(by omega)⟩⟩
  match c,hc with
  |0,_=>cases h
  |1,_=>cases h
  |2,_=>cases h
  |3,_=>cases h
  |4,_=>cases h
 case round=>
  obtain⟨i,e,s,hi,rfl,rfl,HW,HZ,HR,HSL,HF,HE,HS⟩:=hrel
  clear HB HSZ HR2
  by_cases hlt:i<5
  ·have g1:decide ((i:Int)<5)=true:=by simp;omega
   have i0:(0:Int)≤(i:Int):=by omega
   have i1:(i:Int)<5:=by omega
   obtain⟨x,hx⟩:∃x,x=colT o i:=⟨_,rfl⟩
   have Hx:=Lib.hid hx
   have hix:∀W:World,(Instr.index 26 (.agg #[.int .i64 o.a,.int .i64 o.b,.int .i64 o.c,.int .i64 o.d,.int .i64 o.e]) (.int .i64 (i:Int))).run Tryz.prog W=.ok (.int .i64 x) W:=fun W=>by rw[hx];exact HIX.out i hlt W
   clear hx
   by_cases hx0:x=0
   ·have gx:(x==0)=true:=by simpa using hx0
    have gx':decide (x=0)=true:=by simpa using hx0
    have HF2:Hid (∀j,j<i+1→FmAt o j):=fun j hj=>by
     by_cases e:j=i
     ·rw[e];unfold FmAt;rw[←Hx.out,hx0];exact⟨by omega,fun k _ h=>absurd rfl h⟩
     ·exact HF.out j (by omega)
    have HE2:Hid (true=true↔∃j,j<i+1∧colT o j=0):=⟨fun _=>⟨i,by omega,by rw[←Hx.out,hx0]⟩,fun _=>rfl⟩
    have HS2:Hid (∀c,c<5→(s.getD c false=true↔∃j,j<i+1∧colT o j≠0∧kol (colT o j)=c)):=fun c hc=>by
     rw[HS.out c hc]
     refine⟨fun⟨j,hj,h⟩=>⟨j,by omega,h⟩,fun⟨j,hj,h⟩=>⟨j,?_,h⟩⟩
     by_cases e:j=i
     ·rw[e,←Hx.out]at h;exact absurd hx0 h.1
     ·omega
    clear hx0 HF HE HS
    go_wp2
    go_roundw
    case rel=>exact⟨i+1,true,s,by omega,by go_num,rfl,HW.out,HZ.out,HR.out,HSL.out,HF2.out,HE2.out,HS2.out⟩
    case measure=>simp[intOf];omega
   ·have gx:(x==0)=false:=by simpa using hx0
    have gx':decide (x=0)=false:=by simpa using hx0
    cases e with
    |true=>
     have hres:res=false:=HNO.out i hlt fun h=>by
      obtain⟨j,hj,h0⟩:=HE.out.1 rfl
      exact(h.2 j hj (by rw[←Hx.out];exact hx0)).1 h0
     subst hres
     clear hx0
     go_wp2
     go_ret
     exact⟨rfl,HW.out⟩
    |false=>
     by_cases h1:x< -5
     ·have hres:res=false:=HNO.out i hlt fun h=>by have:=h.1;rw[←Hx.out]at this;omega
      have g2:decide (x< -5)=true:=by simpa using h1
      subst hres
      clear hx0
      go_wp2
      go_ret
      exact⟨rfl,HW.out⟩
     ·have g2:decide (x< -5)=false:=by simpa using h1
      by_cases h2:x>5
      ·have hres:res=false:=HNO.out i hlt fun h=>by have:=h.1;rw[←Hx.out]at this;omega
       have g3:decide (x>5)=true:=by simpa using h2
       subst hres
       clear hx0
       go_wp2
       go_ret
       exact⟨rfl,HW.out⟩
      ·have g3:decide (x>5)=false:=by simpa using h2
       have hrx:-5≤x∧x≤5:=⟨by omega,by omega⟩
       have Hrx:=Lib.hid hrx
       have hk5:=kol_lt hx0 hrx
       have HQ:=Lib.hid (col_any x hrx)
       rw[clm_kol hx0]at HQ
       obtain⟨b,hb⟩:∃b,b=s.getD (kol x) false:=⟨_,rfl⟩
       have cb:wr.cell? ⟨w.heap.size+1,kol x,none⟩=some (.bool b):=by rw[HR.out.cell,boolV_at (by rw[HSL.out];exact hk5),hb]
       have fz:=HR.out.free (kol x)
       have HSX:=HS.out (kol x) hk5
       rw[←hb]at HSX
       have k0:(0:Int)≤((kol x:Nat):Int):=by omega
       have k1:((kol x:Nat):Int)<5:=by omega
       cases b with
       |true=>
        have hres:res=false:=HNO.out i hlt fun h=>by
         obtain⟨j,hj,h0,hk⟩:=HSX.1 rfl
         exact(h.2 j hj (by rw[←Hx.out];exact hx0)).2 (by rw[hk,←Hx.out])
        subst hres
        clear hx0 h1 h2 HSX hrx hb
        generalize kol x=c at*
        go_wp2_with fail
        refine(HQ.out _).mono ?_;rintro e w2 ⟨rfl,rfl⟩
        go_wp2
        go_ret
        exact⟨rfl,HW.out⟩
       |false=>
        have hne:∀j,j<i→colT o j≠0:=fun j hj h=>by have:=HE.out.2 ⟨j,hj,h⟩;cases this
        have HF2:Hid (∀j,j<i+1→FmAt o j):=fun j hj=>by
         by_cases e:j=i
         ·rw[e];unfold FmAt;rw[←Hx.out]
          exact⟨hrx,fun k hk _=>⟨hne k hk,fun h=>by have:=HSX.2 ⟨k,hk,hne k hk,h⟩;cases this⟩⟩
         ·exact HF.out j (by omega)
        have HE2:Hid (false=true↔∃j,j<i+1∧colT o j=0):=⟨fun h=>(by cases h),fun⟨j,hj,h⟩=>by
         by_cases e:j=i
         ·rw[e,←Hx.out]at h;exact absurd h hx0
         ·exact absurd h (hne j (by omega))⟩
        have HS2:Hid (∀c,c<5→((s.set (kol x) true).getD c false=true↔∃j,j<i+1∧colT o j≠0∧kol (colT o j)=c)):=fun c hc=>by
         rw[List.getD_eq_getElem?_getD,List.getElem?_set]
         by_cases ec:kol x=c
         ·rw[if_pos ec,if_pos (by have:=HSL.out;omega)]
          exact⟨fun _=>⟨i,by omega,by rw[←Hx.out];exact hx0,by rw[←Hx.out];exact ec⟩,fun _=>rfl⟩
         ·rw[if_neg ec,←List.getD_eq_getElem?_getD,HS.out c hc]
          refine⟨fun⟨j,hj,h⟩=>⟨j,by omega,h⟩,fun⟨j,hj,h⟩=>⟨j,?_,h⟩⟩
          by_cases e:j=i
          ·rw[e,←Hx.out]at h;exact absurd h.2 ec
          ·omega
        have HL2:Hid ((s.set (kol x) true).length=5):=by unfold Hid;rw[List.length_set];exact HSL.out
        have HR3:Hid (Row (wr.setCell ⟨w.heap.size+1,kol x,none⟩ (.bool true)) (w.heap.size+1) 116 (boolV (s.set (kol x) true))):=by
         have:=HR.out.set (kol x) (.bool true)
         rw[boolV_set]at this
         exact this
        have HW3:Hid (Below w.heap.size w (wr.setCell ⟨w.heap.size+1,kol x,none⟩ (.bool true))):=HW.out.setCell (p:=⟨w.heap.size+1,kol x,none⟩) (by simp) _
        have HZ3:Hid (w.heap.size+2≤(wr.setCell ⟨w.heap.size+1,kol x,none⟩ (.bool true)).heap.size):=by unfold Hid;simp;exact HZ.out
        clear hx0 h1 h2 HSX hrx hb hne HF HE HS HSL HR HW HZ
        generalize s.set (kol x) true=s2 at*
        generalize kol x=c at*
        go_wp2_with fail
        refine(HQ.out _).mono ?_;rintro e w2 ⟨rfl,rfl⟩
        go_wp2_with fail
        refine(HQ.out _).mono ?_;rintro e w2 ⟨rfl,rfl⟩
        go_wp2
        go_roundw
        case rel=>exact⟨i+1,false,s2,by omega,by go_num,rfl,HW3.out,HZ3.out,HR3.out,HL2.out,HF2.out,HE2.out,HS2.out⟩
        case measure=>simp[intOf];omega
  ·have g1:decide ((i:Int)<5)=false:=by simp;omega
   have hres:res=true:=HYES.out fun j hj=>HF.out j (by omega)
   subst hres
   go_wp2
   go_ret
   exact⟨rfl,HW.out⟩
theorem cut_stop(o t:Tup):∀i,i≤5→(∀j,j<i→colT o j≠0)→(i=5∨colT o i=0)→cutO o.cols t=(o.cols.take i).map fun k=>colT t (kol k):=by
  obtain⟨a,b,c,d,e⟩:=o
  intro i hi h1 h2
  have e0:colT ⟨a,b,c,d,e⟩ 0=a:=rfl
  have e1:colT ⟨a,b,c,d,e⟩ 1=b:=rfl
  have e2:colT ⟨a,b,c,d,e⟩ 2=c:=rfl
  have e3:colT ⟨a,b,c,d,e⟩ 3=d:=rfl
  have e4:colT ⟨a,b,c,d,e⟩ 4=e:=rfl
  unfold cutO Tup.cols
  match i,hi with
  | 0,_=>
    have:a=0:=by
     rcases h2 with h|h
     ·omega
     · rw[e0]at h;exact h
    simp[this]
  | 1,_=>
    have f0:a≠0:=by have:=h1 0 (by omega);rwa [e0]at this
    have:b=0:=by
     rcases h2 with h|h
     ·omega
     · rw[e1]at h;exact h
    simp[f0,this]
  | 2,_=>
    have f0:a≠0:=by have:=h1 0 (by omega);rwa [e0]at this
    have f1:b≠0:=by have:=h1 1 (by omega);rwa [e1]at this
    have:c=0:=by
     rcases h2 with h|h
     ·omega
     · rw[e2]at h;exact h
    simp[f0,f1,this]
  | 3,_=>
    have f0:a≠0:=by have:=h1 0 (by omega);rwa [e0]at this
    have f1:b≠0:=by have:=h1 1 (by omega);rwa [e1]at this
    have f2:c≠0:=by have:=h1 2 (by omega);rwa [e2]at this
    have:d=0:=by
     rcases h2 with h|h
     ·omega
     · rw[e3]at h;exact h
    simp[f0,f1,f2,this]
  | 4,_=>
    have f0:a≠0:=by have:=h1 0 (by omega);rwa [e0]at this
    have f1:b≠0:=by have:=h1 1 (by omega);rwa [e1]at this
    have f2:c≠0:=by have:=h1 2 (by omega);rwa [e2]at this
    have f3:d≠0:=by have:=h1 3 (by omega);rwa [e3]at this
    have:e=0:=by
     rcases h2 with h|h
     ·omega
     · rw[e4]at h;exact h
    simp[f0,f1,f2,f3,this]
  | 5,_=>
    have f0:a≠0:=by have:=h1 0 (by omega);rwa [e0]at this
    have f1:b≠0:=by have:=h1 1 (by omega);rwa [e1]at this
    have f2:c≠0:=by have:=h1 2 (by omega);rwa [e2]at this
    have f3:d≠0:=by have:=h1 3 (by omega);rwa [e3]at this
    have f4:e≠0:=by have:=h1 4 (by omega);rwa [e4]at this
    simp[f0,f1,f2,f3,f4]
theorem take_snoc{o:Tup}{i:Nat}(hi:i<5):o.cols.take (i+1)=o.cols.take i++[colT o i]:=by
 match i,hi with
 |0,_=>rfl
 |1,_=>rfl
 |2,_=>rfl
 |3,_=>rfl
 |4,_=>rfl
theorem arr_set{l:List Int}{i:Nat}(hl:l.length=i)(hi:i<5)(x:Int):(arrV (tupL l)).set i (.int .i64 x)=arrV (tupL (l++[x])):=by
 subst hl
 match l,hi with
 |[],_=>rfl
 |[_],_=>rfl
 |[_,_],_=>rfl
 |[_,_,_],_=>rfl
 |[_,_,_,_],_=>rfl
theorem set5c{w:World}{g:Nat}{T:TypeId}{a b c d e:Value}(h:Row w g T [a,b,c,d,e])(v0 v1 v2 v3 v4:Value):Row (((((w.setCell ⟨g,0,none⟩ v0).setCell ⟨g,1,none⟩ v1).setCell ⟨g,2,none⟩ v2).setCell ⟨g,3,none⟩ v3).setCell ⟨g,4,none⟩ v4) g T [v0,v1,v2,v3,v4]:=
 ((((h.set 0 v0).set 1 v1).set 2 v2).set 3 v3).set 4 v4
theorem rcut_any(o t:Tup)(w:World):Calls Tryz.prog 42 #[.agg #[.int .i64 t.a,.int .i64 t.b,.int .i64 t.c,.int .i64 t.d,.int .i64 t.e],.agg #[.int .i64 o.a,.int .i64 o.b,.int .i64 o.c,.int .i64 o.d,.int .i64 o.e]] w fun e w'=>e=.returned (.agg #[.int .i64 (cutT o t).a,.int .i64 (cutT o t).b,.int .i64 (cutT o t).c,.int .i64 (cutT o t).d,.int .i64 (cutT o t).e])∧Below w.heap.size w w':=by
 have b1:Below w.heap.size w (w.alloc (.cells #[.int .i64 t.a,.int .i64 t.b,.int .i64 t.c,.int .i64 t.d,.int .i64 t.e] 56)):=(Below.refl _ _).alloc (Nat.le_refl _) _
 have r1:Row (w.alloc (.cells #[.int .i64 t.a,.int .i64 t.b,.int .i64 t.c,.int .i64 t.d,.int .i64 t.e] 56)) w.heap.size 56 (arrV t):=heap_alloc_new _ _
 have s1:(w.alloc (.cells #[.int .i64 t.a,.int .i64 t.b,.int .i64 t.c,.int .i64 t.d,.int .i64 t.e] 56)).heap.size=w.heap.size+1:=by simp
 have b2:Below (w.heap.size+1) (w.alloc (.cells #[.int .i64 t.a,.int .i64 t.b,.int .i64 t.c,.int .i64 t.d,.int .i64 t.e] 56)) ((w.alloc (.cells #[.int .i64 t.a,.int .i64 t.b,.int .i64 t.c,.int .i64 t.d,.int .i64 t.e] 56)).alloc (.cells #[.int .i64 o.a,.int .i64 o.b,.int .i64 o.c,.int .i64 o.d,.int .i64 o.e] 34)):=(Below.refl _ _).alloc (by rw[s1];exact Nat.le_refl _) _
 have r2:Row ((w.alloc (.cells #[.int .i64 t.a,.int .i64 t.b,.int .i64 t.c,.int .i64 t.d,.int .i64 t.e] 56)).alloc (.cells #[.int .i64 o.a,.int .i64 o.b,.int .i64 o.c,.int .i64 o.d,.int .i64 o.e] 34)) (w.heap.size+1) 34 (arrV o):=by rw[←s1];exact heap_alloc_new _ _
 have s2:((w.alloc (.cells #[.int .i64 t.a,.int .i64 t.b,.int .i64 t.c,.int .i64 t.d,.int .i64 t.e] 56)).alloc (.cells #[.int .i64 o.a,.int .i64 o.b,.int .i64 o.c,.int .i64 o.d,.int .i64 o.e] 34)).heap.size=w.heap.size+2:=by simp
 have b3:Below (w.heap.size+2) ((w.alloc (.cells #[.int .i64 t.a,.int .i64 t.b,.int .i64 t.c,.int .i64 t.d,.int .i64 t.e] 56)).alloc (.cells #[.int .i64 o.a,.int .i64 o.b,.int .i64 o.c,.int .i64 o.d,.int .i64 o.e] 34)) (((w.alloc (.cells #[.int .i64 t.a,.int .i64 t.b,.int .i64 t.c,.int .i64 t.d,.int .i64 t.e] 56)).alloc (.cells #[.int .i64 o.a,.int .i64 o.b,.int .i64 o.c,.int .i64 o.d,.int .i64 o.e] 34)).alloc (.cells #[.int .i64 0,.int .i64 0,.int .i64 0,.int .i64 0,.int .i64 0] 56)):=(Below.refl _ _).alloc (by rw[s2];exact Nat.le_refl _) _
 have r3:Row (((w.alloc (.cells #[.int .i64 t.a,.int .i64 t.b,.int .i64 t.c,.int .i64 t.d,.int .i64 t.e] 56)).alloc (.cells #[.int .i64 o.a,.int .i64 o.b,.int .i64 o.c,.int .i64 o.d,.int .i64 o.e] 34)).alloc (.cells #[.int .i64 0,.int .i64 0,.int .i64 0,.int .i64 0,.int .i64 0] 56)) (w.heap.size+2) 56 (arrV tup0):=by rw[←s2];exact heap_alloc_new _ _
 have s3:(((w.alloc (.cells #[.int .i64 t.a,.int .i64 t.b,.int .i64 t.c,.int .i64 t.d,.int .i64 t.e] 56)).alloc (.cells #[.int .i64 o.a,.int .i64 o.b,.int .i64 o.c,.int .i64 o.d,.int .i64 o.e] 34)).alloc (.cells #[.int .i64 0,.int .i64 0,.int .i64 0,.int .i64 0,.int .i64 0] 56)).heap.size=w.heap.size+3:=by simp
 have b4:Below (w.heap.size+3) (((w.alloc (.cells #[.int .i64 t.a,.int .i64 t.b,.int .i64 t.c,.int .i64 t.d,.int .i64 t.e] 56)).alloc (.cells #[.int .i64 o.a,.int .i64 o.b,.int .i64 o.c,.int .i64 o.d,.int .i64 o.e] 34)).alloc (.cells #[.int .i64 0,.int .i64 0,.int .i64 0,.int .i64 0,.int .i64 0] 56)) ((((w.alloc (.cells #[.int .i64 t.a,.int .i64 t.b,.int .i64 t.c,.int .i64 t.d,.int .i64 t.e] 56)).alloc (.cells #[.int .i64 o.a,.int .i64 o.b,.int .i64 o.c,.int .i64 o.d,.int .i64 o.e] 34)).alloc (.cells #[.int .i64 0,.int .i64 0,.int .i64 0,.int .i64 0,.int .i64 0] 56)).alloc (.cells #[.int .i64 0,.int .i64 0,.int .i64 0,.int .i64 0,.int .i64 0] 56)):=(Below.refl _ _).alloc (by rw[s3];exact Nat.le_refl _) _
 have HR0:Hid (Row ((((w.alloc (.cells #[.int .i64 t.a,.int .i64 t.b,.int .i64 t.c,.int .i64 t.d,.int .i64 t.e] 56)).alloc (.cells #[.int .i64 o.a,.int .i64 o.b,.int .i64 o.c,.int .i64 o.d,.int .i64 o.e] 34)).alloc (.cells #[.int .i64 0,.int .i64 0,.int .i64 0,.int .i64 0,.int .i64 0] 56)).alloc (.cells #[.int .i64 0,.int .i64 0,.int .i64 0,.int .i64 0,.int .i64 0] 56)) (w.heap.size+3) 56 (arrV (tupL []))):=by unfold Hid;rw[←s3];exact heap_alloc_new _ _
 have r3':Row ((((w.alloc (.cells #[.int .i64 t.a,.int .i64 t.b,.int .i64 t.c,.int .i64 t.d,.int .i64 t.e] 56)).alloc (.cells #[.int .i64 o.a,.int .i64 o.b,.int .i64 o.c,.int .i64 o.d,.int .i64 o.e] 34)).alloc (.cells #[.int .i64 0,.int .i64 0,.int .i64 0,.int .i64 0,.int .i64 0] 56)).alloc (.cells #[.int .i64 0,.int .i64 0,.int .i64 0,.int .i64 0,.int .i64 0] 56)) (w.heap.size+2) 56 (arrV tup0):=r3.below b4 (by omega)
 have r2':Row ((((w.alloc (.cells #[.int .i64 t.a,.int .i64 t.b,.int .i64 t.c,.int .i64 t.d,.int .i64 t.e] 56)).alloc (.cells #[.int .i64 o.a,.int .i64 o.b,.int .i64 o.c,.int .i64 o.d,.int .i64 o.e] 34)).alloc (.cells #[.int .i64 0,.int .i64 0,.int .i64 0,.int .i64 0,.int .i64 0] 56)).alloc (.cells #[.int .i64 0,.int .i64 0,.int .i64 0,.int .i64 0,.int .i64 0] 56)) (w.heap.size+1) 34 (arrV o):=(r2.below b3 (by omega)).below b4 (by omega)
 have r1':Row ((((w.alloc (.cells #[.int .i64 t.a,.int .i64 t.b,.int .i64 t.c,.int .i64 t.d,.int .i64 t.e] 56)).alloc (.cells #[.int .i64 o.a,.int .i64 o.b,.int .i64 o.c,.int .i64 o.d,.int .i64 o.e] 34)).alloc (.cells #[.int .i64 0,.int .i64 0,.int .i64 0,.int .i64 0,.int .i64 0] 56)).alloc (.cells #[.int .i64 0,.int .i64 0,.int .i64 0,.int .i64 0,.int .i64 0] 56)) w.heap.size 56 (arrV t):=((r1.below b2 (by omega)).below b3 (by omega)).below b4 (by omega)
 have HB:Hid (Below w.heap.size w ((((w.alloc (.cells #[.int .i64 t.a,.int .i64 t.b,.int .i64 t.c,.int .i64 t.d,.int .i64 t.e] 56)).alloc (.cells #[.int .i64 o.a,.int .i64 o.b,.int .i64 o.c,.int .i64 o.d,.int .i64 o.e] 34)).alloc (.cells #[.int .i64 0,.int .i64 0,.int .i64 0,.int .i64 0,.int .i64 0] 56)).alloc (.cells #[.int .i64 0,.int .i64 0,.int .i64 0,.int .i64 0,.int .i64 0] 56))):=((b1.trans (b2.mono (by omega))).trans (b3.mono (by omega))).trans (b4.mono (by omega))
 have HR3:=Lib.hid r3'
 have KC:Hid (∀W,Below (w.heap.size+3) ((((w.alloc (.cells #[.int .i64 t.a,.int .i64 t.b,.int .i64 t.c,.int .i64 t.d,.int .i64 t.e] 56)).alloc (.cells #[.int .i64 o.a,.int .i64 o.b,.int .i64 o.c,.int .i64 o.d,.int .i64 o.e] 34)).alloc (.cells #[.int .i64 0,.int .i64 0,.int .i64 0,.int .i64 0,.int .i64 0] 56)).alloc (.cells #[.int .i64 0,.int .i64 0,.int .i64 0,.int .i64 0,.int .i64 0] 56)) W→Below w.heap.size w W∧∀i,i<5→W.cell? ⟨w.heap.size,i,none⟩=some (.int .i64 (colT t i))∧W.cell? ⟨w.heap.size+1,i,none⟩=some (.int .i64 (colT o i))):=fun W hb=>
  ⟨HB.out.trans (hb.mono (by omega)),fun i hi=>⟨arr_cell (r1'.below hb (by omega)) hi,arr_cell (r2'.below hb (by omega)) hi⟩⟩
 have hsz:((((w.alloc (.cells #[.int .i64 t.a,.int .i64 t.b,.int .i64 t.c,.int .i64 t.d,.int .i64 t.e] 56)).alloc (.cells #[.int .i64 o.a,.int .i64 o.b,.int .i64 o.c,.int .i64 o.d,.int .i64 o.e] 34)).alloc (.cells #[.int .i64 0,.int .i64 0,.int .i64 0,.int .i64 0,.int .i64 0] 56)).alloc (.cells #[.int .i64 0,.int .i64 0,.int .i64 0,.int .i64 0,.int .i64 0] 56)).heap.size=w.heap.size+4:=by simp
 have HSZ:=Lib.hid hsz
 clear b1 r1 s1 b2 r2 s2 b3 r3 s3 b4 r3' r2' r1' HB hsz
 have HFO:=Lib.hid (rformed_any o)
 have HRNG:Hid (Fm o→∀i,i<5→-5≤colT o i∧colT o i≤5):=fun hf i hi=>(hf i hi).1
 obtain⟨fb,hfb⟩:∃fb,fb=decide (Fm o):=⟨_,rfl⟩
 have HF0:Hid (fb=false→tupL []=cutT o t):=fun h=>by
  rw[hfb]at h
  unfold cutT;rw[if_neg (of_decide_eq_false h)];rfl
 have HF1:Hid (∀(i:Nat) (l:List Int),i≤5→l=(o.cols.take i).map (fun k=>colT t (kol k))→fb=true→(∀j,j<i→colT o j≠0)→(i=5∨colT o i=0)→tupL l=cutT o t):=fun i l hi hl h h1 h2=>by
  rw[hfb]at h
  unfold cutT;rw[if_pos (of_decide_eq_true h),cut_stop o t i hi h1 h2,hl]
 have HRNG:Hid (fb=true→∀i,i<5→-5≤colT o i∧colT o i≤5):=fun h=>by
  rw[hfb]at h
  exact HRNG.out (of_decide_eq_true h)
 generalize cutT o t=u at*
 rw[←hfb]at HFO
 clear hfb
 go_enter Tryz.func42,Tryz.ntmps42
 go_upto_region 2 with(fail)
 generalize(((w.alloc (.cells #[.int .i64 t.a,.int .i64 t.b,.int .i64 t.c,.int .i64 t.d,.int .i64 t.e] 56)).alloc (.cells #[.int .i64 o.a,.int .i64 o.b,.int .i64 o.c,.int .i64 o.d,.int .i64 o.e] 34)).alloc (.cells #[.int .i64 0,.int .i64 0,.int .i64 0,.int .i64 0,.int .i64 0] 56)).alloc (.cells #[.int .i64 0,.int .i64 0,.int .i64 0,.int .i64 0,.int .i64 0] 56)=W1 at*
 go_wp2_with fail
 go_loopw [6] (fun iv wr=>∃(i:Nat) (l:List Int),i≤5∧iv=.int .i64 (i:Int)∧Hid (Below (w.heap.size+3) W1 wr)∧Hid (w.heap.size+4≤wr.heap.size)∧Hid (Row wr (w.heap.size+3) 56 (arrV (tupL l)))∧Hid (l=(o.cols.take i).map fun k=>colT t (kol k))∧Hid (∀j,j<i→fb=true∧colT o j≠0)) (fun iv _=>5-(intOf iv).toNat)
 case atStart=>exact⟨0,[],by omega,rfl,Below.refl _ _,Nat.le_of_eq HSZ.out.symm,HR0.out,rfl,fun j hj=>by omega⟩
 case round=>
  obtain⟨i,l,hi,rfl,HW,HZ,HR,HL,HN⟩:=hrel
  clear HR0
  by_cases hlt:i<5
  ·have g1:decide ((i:Int)<5)=true:=by simp;omega
   have i0:(0:Int)≤(i:Int):=by omega
   have i1:(i:Int)<5:=by omega
   have d0:wr.cell? ⟨w.heap.size+1,0,none⟩=some (.int .i64 o.a):=((KC.out _ HW.out).2 0 (by omega)).2
   have d1:wr.cell? ⟨w.heap.size+1,1,none⟩=some (.int .i64 o.b):=((KC.out _ HW.out).2 1 (by omega)).2
   have d2:wr.cell? ⟨w.heap.size+1,2,none⟩=some (.int .i64 o.c):=((KC.out _ HW.out).2 2 (by omega)).2
   have d3:wr.cell? ⟨w.heap.size+1,3,none⟩=some (.int .i64 o.d):=((KC.out _ HW.out).2 3 (by omega)).2
   have d4:wr.cell? ⟨w.heap.size+1,4,none⟩=some (.int .i64 o.e):=((KC.out _ HW.out).2 4 (by omega)).2
   go_wp2_with fail
   refine(HFO.out _).mono ?_;rintro e w2 ⟨rfl,hb⟩
   have HW2:Hid (Below (w.heap.size+3) W1 w2):=HW.out.trans (hb.mono (by have:=HZ.out;omega))
   have HR2:Hid (Row w2 (w.heap.size+3) 56 (arrV (tupL l))):=HR.out.below hb (by have:=HZ.out;omega)
   have HZ2:Hid (w.heap.size+4≤w2.heap.size):=Nat.le_trans HZ.out hb.size
   clear hb HW HZ HR d0 d1 d2 d3 d4
   cases fb with
   |false=>
    have hi0:i=0:=by
     rcases Nat.eq_zero_or_pos i with h|h
     ·exact h
     ·exact absurd (HN.out 0 h).1 (by decide)
    have hl0:l=[]:=by rw[HL.out,hi0];rfl
    have HRX:Hid (Row w2 (w.heap.size+3) 56 (arrV u)):=by
     have:=HR2.out
     rw[hl0,HF0.out rfl]at this
     exact this
    have HWX:=HW2
    clear HR2 HW2 hi0 hl0 HL HN HF0 HF1 HRNG HFO
    have hrx:=HRX.out
    have h2x:=HR3.out.below HWX.out (by omega)
    have q0:w2.cell? ⟨w.heap.size+3,0,none⟩=some (.int .i64 u.a):=hrx.cell 0
    have q1:w2.cell? ⟨w.heap.size+3,1,none⟩=some (.int .i64 u.b):=hrx.cell 1
    have q2:w2.cell? ⟨w.heap.size+3,2,none⟩=some (.int .i64 u.c):=hrx.cell 2
    have q3:w2.cell? ⟨w.heap.size+3,3,none⟩=some (.int .i64 u.d):=hrx.cell 3
    have q4:w2.cell? ⟨w.heap.size+3,4,none⟩=some (.int .i64 u.e):=hrx.cell 4
    have p0:w2.cell? ⟨w.heap.size+2,0,none⟩=some (.int .i64 0):=h2x.cell 0
    have p1:w2.cell? ⟨w.heap.size+2,1,none⟩=some (.int .i64 0):=h2x.cell 1
    have p2:w2.cell? ⟨w.heap.size+2,2,none⟩=some (.int .i64 0):=h2x.cell 2
    have p3:w2.cell? ⟨w.heap.size+2,3,none⟩=some (.int .i64 0):=h2x.cell 3
    have p4:w2.cell? ⟨w.heap.size+2,4,none⟩=some (.int .i64 0):=h2x.cell 4
    have z0:=h2x.free 0
    have z1:=h2x.free 1
    have z2:=h2x.free 2
    have z3:=h2x.free 3
    have z4:=h2x.free 4
    have H5:=Lib.hid (set5c h2x (.int .i64 u.a) (.int .i64 u.b) (.int .i64 u.c) (.int .i64 u.d) (.int .i64 u.e))
    have HBX:Hid (Below w.heap.size w (((((w2.setCell ⟨w.heap.size+2,0,none⟩ (.int .i64 u.a)).setCell ⟨w.heap.size+2,1,none⟩ (.int .i64 u.b)).setCell ⟨w.heap.size+2,2,none⟩ (.int .i64 u.c)).setCell ⟨w.heap.size+2,3,none⟩ (.int .i64 u.d)).setCell ⟨w.heap.size+2,4,none⟩ (.int .i64 u.e))):=by
     have h9:=(KC.out _ HWX.out).1
     exact(((((h9.setCell (p:=⟨w.heap.size+2,0,none⟩) (by simp) _).setCell (p:=⟨w.heap.size+2,1,none⟩) (by simp) _).setCell (p:=⟨w.heap.size+2,2,none⟩) (by simp) _).setCell (p:=⟨w.heap.size+2,3,none⟩) (by simp) _).setCell (p:=⟨w.heap.size+2,4,none⟩) (by simp) _)
    clear hrx h2x HRX HWX HR3
    go_wp2
    have r0:=H5.out.cell 0
    have r1:=H5.out.cell 1
    have r2:=H5.out.cell 2
    have r3:=H5.out.cell 3
    have r4:=H5.out.cell 4
    simp only[List.getElem?_cons_zero,List.getElem?_cons_succ]at r0 r1 r2 r3 r4
    exact bodyPost_ret (v:=.agg #[.int .i64 u.a,.int .i64 u.b,.int .i64 u.c,.int .i64 u.d,.int .i64 u.e]) (by simp[results,Tryz.results42,go_sem,r0,r1,r2,r3,r4]) rfl ⟨rfl,HBX.out⟩
   |true=>
    obtain⟨z,hz⟩:∃z,z=colT o i:=⟨_,rfl⟩
    have y5:w2.cell? ⟨w.heap.size+1,i,none⟩=some (.int .i64 z):=by rw[hz];exact((KC.out _ HW2.out).2 i hlt).2
    by_cases hz0:z=0
    ·have gz:(z !=0)=false:=by simpa using hz0
     have HRX:Hid (Row w2 (w.heap.size+3) 56 (arrV u)):=by
      have:=HR2.out
      rw[HF1.out i l hi HL.out rfl (fun j hj=>(HN.out j hj).2) (.inr (by rw[←hz];exact hz0))]at this
      exact this
     have HWX:=HW2
     clear HR2 HW2 HL HN HF0 HF1 HRNG HFO hz hz0
     have hrx:=HRX.out
     have h2x:=HR3.out.below HWX.out (by omega)
     have q0:w2.cell? ⟨w.heap.size+3,0,none⟩=some (.int .i64 u.a):=hrx.cell 0
     have q1:w2.cell? ⟨w.heap.size+3,1,none⟩=some (.int .i64 u.b):=hrx.cell 1
     have q2:w2.cell? ⟨w.heap.size+3,2,none⟩=some (.int .i64 u.c):=hrx.cell 2
     have q3:w2.cell? ⟨w.heap.size+3,3,none⟩=some (.int .i64 u.d):=hrx.cell 3
     have q4:w2.cell? ⟨w.heap.size+3,4,none⟩=some (.int .i64 u.e):=hrx.cell 4
     have p0:w2.cell? ⟨w.heap.size+2,0,none⟩=some (.int .i64 0):=h2x.cell 0
     have p1:w2.cell? ⟨w.heap.size+2,1,none⟩=some (.int .i64 0):=h2x.cell 1
     have p2:w2.cell? ⟨w.heap.size+2,2,none⟩=some (.int .i64 0):=h2x.cell 2
     have p3:w2.cell? ⟨w.heap.size+2,3,none⟩=some (.int .i64 0):=h2x.cell 3
     have p4:w2.cell? ⟨w.heap.size+2,4,none⟩=some (.int .i64 0):=h2x.cell 4
     have z0:=h2x.free 0
     have z1:=h2x.free 1
     have z2:=h2x.free 2
     have z3:=h2x.free 3
     have z4:=h2x.free 4
     have H5:=Lib.hid (set5c h2x (.int .i64 u.a) (.int .i64 u.b) (.int .i64 u.c) (.int .i64 u.d) (.int .i64 u.e))
     have HBX:Hid (Below w.heap.size w (((((w2.setCell ⟨w.heap.size+2,0,none⟩ (.int .i64 u.a)).setCell ⟨w.heap.size+2,1,none⟩ (.int .i64 u.b)).setCell ⟨w.heap.size+2,2,none⟩ (.int .i64 u.c)).setCell ⟨w.heap.size+2,3,none⟩ (.int .i64 u.d)).setCell ⟨w.heap.size+2,4,none⟩ (.int .i64 u.e))):=by
      have h9:=(KC.out _ HWX.out).1
      exact(((((h9.setCell (p:=⟨w.heap.size+2,0,none⟩) (by simp) _).setCell (p:=⟨w.heap.size+2,1,none⟩) (by simp) _).setCell (p:=⟨w.heap.size+2,2,none⟩) (by simp) _).setCell (p:=⟨w.heap.size+2,3,none⟩) (by simp) _).setCell (p:=⟨w.heap.size+2,4,none⟩) (by simp) _)
     clear hrx h2x HRX HWX HR3
     go_wp2
     have r0:=H5.out.cell 0
     have r1:=H5.out.cell 1
     have r2:=H5.out.cell 2
     have r3:=H5.out.cell 3
     have r4:=H5.out.cell 4
     simp only[List.getElem?_cons_zero,List.getElem?_cons_succ]at r0 r1 r2 r3 r4
     exact bodyPost_ret (v:=.agg #[.int .i64 u.a,.int .i64 u.b,.int .i64 u.c,.int .i64 u.d,.int .i64 u.e]) (by simp[results,Tryz.results42,go_sem,r0,r1,r2,r3,r4]) rfl ⟨rfl,HBX.out⟩
    ·have gz:(z !=0)=true:=by simpa using hz0
     have hrz:-5≤z∧z≤5:=by rw[hz];exact HRNG.out rfl i hlt
     have hk5:=kol_lt hz0 hrz
     have HQ:=Lib.hid (rcol_any z hrz w2)
     rw[clm_kol hz0]at HQ
     obtain⟨x,hx⟩:∃x,x=colT t (kol z):=⟨_,rfl⟩
     have yx:w2.cell? ⟨w.heap.size,kol z,none⟩=some (.int .i64 x):=by rw[hx];exact((KC.out _ HW2.out).2 _ hk5).1
     have hll:l.length=i:=by rw[HL.out,List.length_map,List.length_take,Tup.cols_len];omega
     have HL2:Hid (l++[x]=(o.cols.take (i+1)).map fun k=>colT t (kol k)):=by
      unfold Hid
      rw[take_snoc hlt,List.map_append,←HL.out,hx,hz];rfl
     have HN2:Hid (∀j,j<i+1→true=true∧colT o j≠0):=fun j hj=>by
      by_cases e:j=i
      ·rw[e,←hz];exact⟨rfl,hz0⟩
      ·exact HN.out j (by omega)
     have HRS:Hid (Row (w2.setCell ⟨w.heap.size+3,i,none⟩ (.int .i64 x)) (w.heap.size+3) 56 (arrV (tupL (l++[x])))):=by
      have:=HR2.out.set i (.int .i64 x)
      rw[arr_set hll hlt]at this
      exact this
     have HWS:Hid (Below (w.heap.size+3) W1 (w2.setCell ⟨w.heap.size+3,i,none⟩ (.int .i64 x))):=HW2.out.setCell (p:=⟨w.heap.size+3,i,none⟩) (by simp) _
     have HZS:Hid (w.heap.size+4≤(w2.setCell ⟨w.heap.size+3,i,none⟩ (.int .i64 x)).heap.size):=by unfold Hid;simp;exact HZ2.out
     have cs:∃v,w2.cell? ⟨w.heap.size+3,i,none⟩=some v:=⟨_,arr_cell HR2.out hlt⟩
     obtain⟨v9,cs⟩:=cs
     have fz:=HR2.out.free i
     have k0:(0:Int)≤((kol z:Nat):Int):=by omega
     have k1:((kol z:Nat):Int)<5:=by omega
     generalize kol z=c at*
     clear hx hz hz0 hrz hll HR2 HW2 HL HN HZ2
     go_wp2_with fail
     refine HQ.out.mono ?_;rintro e w3 ⟨rfl,rfl⟩
     go_wp2
     go_roundw
     case rel=>exact⟨i+1,_,by omega,by go_num,HWS.out,HZS.out,HRS.out,HL2.out,HN2.out⟩
     case measure=>simp[intOf];omega
  ·obtain rfl:i=5:=by omega
   have hfb:=(HN.out 0 (by omega)).1
   have HRX:Hid (Row wr (w.heap.size+3) 56 (arrV u)):=by
    have:=HR.out
    rw[HF1.out 5 l hi HL.out hfb (fun j hj=>(HN.out j hj).2) (.inl rfl)]at this
    exact this
   have HWX:=HW
   clear HR HW HL HN HZ HF0 HF1 HRNG HFO hfb
   have hrx:=HRX.out
   have h2x:=HR3.out.below HWX.out (by omega)
   have q0:wr.cell? ⟨w.heap.size+3,0,none⟩=some (.int .i64 u.a):=hrx.cell 0
   have q1:wr.cell? ⟨w.heap.size+3,1,none⟩=some (.int .i64 u.b):=hrx.cell 1
   have q2:wr.cell? ⟨w.heap.size+3,2,none⟩=some (.int .i64 u.c):=hrx.cell 2
   have q3:wr.cell? ⟨w.heap.size+3,3,none⟩=some (.int .i64 u.d):=hrx.cell 3
   have q4:wr.cell? ⟨w.heap.size+3,4,none⟩=some (.int .i64 u.e):=hrx.cell 4
   have p0:wr.cell? ⟨w.heap.size+2,0,none⟩=some (.int .i64 0):=h2x.cell 0
   have p1:wr.cell? ⟨w.heap.size+2,1,none⟩=some (.int .i64 0):=h2x.cell 1
   have p2:wr.cell? ⟨w.heap.size+2,2,none⟩=some (.int .i64 0):=h2x.cell 2
   have p3:wr.cell? ⟨w.heap.size+2,3,none⟩=some (.int .i64 0):=h2x.cell 3
   have p4:wr.cell? ⟨w.heap.size+2,4,none⟩=some (.int .i64 0):=h2x.cell 4
   have z0:=h2x.free 0
   have z1:=h2x.free 1
   have z2:=h2x.free 2
   have z3:=h2x.free 3
   have z4:=h2x.free 4
   have H5:=Lib.hid (set5c h2x (.int .i64 u.a) (.int .i64 u.b) (.int .i64 u.c) (.int .i64 u.d) (.int .i64 u.e))
   have HBX:Hid (Below w.heap.size w (((((wr.setCell ⟨w.heap.size+2,0,none⟩ (.int .i64 u.a)).setCell ⟨w.heap.size+2,1,none⟩ (.int .i64 u.b)).setCell ⟨w.heap.size+2,2,none⟩ (.int .i64 u.c)).setCell ⟨w.heap.size+2,3,none⟩ (.int .i64 u.d)).setCell ⟨w.heap.size+2,4,none⟩ (.int .i64 u.e))):=by
    have h9:=(KC.out _ HWX.out).1
    exact(((((h9.setCell (p:=⟨w.heap.size+2,0,none⟩) (by simp) _).setCell (p:=⟨w.heap.size+2,1,none⟩) (by simp) _).setCell (p:=⟨w.heap.size+2,2,none⟩) (by simp) _).setCell (p:=⟨w.heap.size+2,3,none⟩) (by simp) _).setCell (p:=⟨w.heap.size+2,4,none⟩) (by simp) _)
   clear hrx h2x HRX HWX HR3
   go_wp2
   have r0:=H5.out.cell 0
   have r1:=H5.out.cell 1
   have r2:=H5.out.cell 2
   have r3:=H5.out.cell 3
   have r4:=H5.out.cell 4
   simp only[List.getElem?_cons_zero,List.getElem?_cons_succ]at r0 r1 r2 r3 r4
   exact bodyPost_ret (v:=.agg #[.int .i64 u.a,.int .i64 u.b,.int .i64 u.c,.int .i64 u.d,.int .i64 u.e]) (by simp[results,Tryz.results42,go_sem,r0,r1,r2,r3,r4]) rfl ⟨rfl,HBX.out⟩
theorem tcut_any(o t:Tup)(w:World):Calls Tryz.prog 34 #[.agg #[.int .i64 t.a,.int .i64 t.b,.int .i64 t.c,.int .i64 t.d,.int .i64 t.e],.agg #[.int .i64 o.a,.int .i64 o.b,.int .i64 o.c,.int .i64 o.d,.int .i64 o.e]] w fun e w'=>e=.returned (.agg #[.int .i64 (cutT o t).a,.int .i64 (cutT o t).b,.int .i64 (cutT o t).c,.int .i64 (cutT o t).d,.int .i64 (cutT o t).e])∧Below w.heap.size w w':=by
 obtain⟨W1,hW1,hb1,s1,r1,r2,r3,r4⟩:=boxes4 w [.int .i64 t.a,.int .i64 t.b,.int .i64 t.c,.int .i64 t.d,.int .i64 t.e] [.int .i64 o.a,.int .i64 o.b,.int .i64 o.c,.int .i64 o.d,.int .i64 o.e] [.int .i64 0,.int .i64 0,.int .i64 0,.int .i64 0,.int .i64 0] [.int .i64 0,.int .i64 0,.int .i64 0,.int .i64 0,.int .i64 0] 56 26 56 56
 have HW1:=Lib.hid hW1
 have HSZ:=Lib.hid s1
 have HR3:=Lib.hid r3
 have HR0:Hid (Row W1 (w.heap.size+3) 56 (arrV (tupL []))):=r4
 have KC:Hid (∀W,Below (w.heap.size+3) W1 W→Below w.heap.size w W∧∀i,i<5→W.cell? ⟨w.heap.size,i,none⟩=some (.int .i64 (colT t i))):=fun W hb=>
  ⟨hb1.trans (hb.mono (by omega)),fun i hi=>arr_cell (r1.below hb (by omega)) hi⟩
 have d0:W1.cell? ⟨w.heap.size+1,0,none⟩=some (.int .i64 o.a):=r2.cell 0
 have d1:W1.cell? ⟨w.heap.size+1,1,none⟩=some (.int .i64 o.b):=r2.cell 1
 have d2:W1.cell? ⟨w.heap.size+1,2,none⟩=some (.int .i64 o.c):=r2.cell 2
 have d3:W1.cell? ⟨w.heap.size+1,3,none⟩=some (.int .i64 o.d):=r2.cell 3
 have d4:W1.cell? ⟨w.heap.size+1,4,none⟩=some (.int .i64 o.e):=r2.cell 4
 have HRO:=Lib.hid r2
 have HFO:=Lib.hid (formed_any o)
 have HIX:Hid (∀i:Nat,i<5→∀W:World,(Instr.index 26 (.agg #[.int .i64 o.a,.int .i64 o.b,.int .i64 o.c,.int .i64 o.d,.int .i64 o.e]) (.int .i64 (i:Int))).run Tryz.prog W=.ok (.int .i64 (colT o i)) W):=fun i hi W=>index_any _ rfl o hi W
 have HEND:Hid (∀(W:World) (u:Tup),Below (w.heap.size+3) W1 W→Row W (w.heap.size+2) 56 (arrV tup0)→Row (((((W.setCell ⟨w.heap.size+2,0,none⟩ (.int .i64 u.a)).setCell ⟨w.heap.size+2,1,none⟩ (.int .i64 u.b)).setCell ⟨w.heap.size+2,2,none⟩ (.int .i64 u.c)).setCell ⟨w.heap.size+2,3,none⟩ (.int .i64 u.d)).setCell ⟨w.heap.size+2,4,none⟩ (.int .i64 u.e)) (w.heap.size+2) 56 (arrV u)∧Below w.heap.size w (((((W.setCell ⟨w.heap.size+2,0,none⟩ (.int .i64 u.a)).setCell ⟨w.heap.size+2,1,none⟩ (.int .i64 u.b)).setCell ⟨w.heap.size+2,2,none⟩ (.int .i64 u.c)).setCell ⟨w.heap.size+2,3,none⟩ (.int .i64 u.d)).setCell ⟨w.heap.size+2,4,none⟩ (.int .i64 u.e))):=fun W u hb hr=>by
  refine⟨set5c hr (.int .i64 u.a) (.int .i64 u.b) (.int .i64 u.c) (.int .i64 u.d) (.int .i64 u.e),?_⟩
  exact(((((KC.out _ hb).1.setCell (p:=⟨w.heap.size+2,0,none⟩) (by simp) _).setCell (p:=⟨w.heap.size+2,1,none⟩) (by simp) _).setCell (p:=⟨w.heap.size+2,2,none⟩) (by simp) _).setCell (p:=⟨w.heap.size+2,3,none⟩) (by simp) _).setCell (p:=⟨w.heap.size+2,4,none⟩) (by simp) _
 by_cases hf:Fm o
 ·rw[decide_eq_true hf]at HFO
  have HRNG:Hid (∀i,i<5→-5≤colT o i∧colT o i≤5):=fun i hi=>(hf i hi).1
  have HF1:Hid (∀(i:Nat) (l:List Int),i≤5→l=(o.cols.take i).map (fun k=>colT t (kol k))→(∀j,j<i→colT o j≠0)→(i=5∨colT o i=0)→tupL l=cutT o t):=fun i l hi hl h1 h2=>by
   unfold cutT;rw[if_pos hf,cut_stop o t i hi h1 h2,hl]
  generalize cutT o t=u at*
  clear hf r1 r2 r3 r4 hb1 s1 hW1
  go_enter Tryz.func34,Tryz.ntmps34
  go_upto_region 2 with(fail)
  rw[←HW1.out]
  clear HW1
  go_wp2_with fail
  refine(HFO.out _).mono ?_;rintro e w1 ⟨rfl,hb⟩
  have HW2:Hid (Below (w.heap.size+4) W1 w1):=hb.mono (Nat.le_of_eq HSZ.out.symm)
  have hro:=HRO.out.below HW2.out (by omega)
  have e0:w1.cell? ⟨w.heap.size+1,0,none⟩=some (.int .i64 o.a):=hro.cell 0
  have e1:w1.cell? ⟨w.heap.size+1,1,none⟩=some (.int .i64 o.b):=hro.cell 1
  have e2:w1.cell? ⟨w.heap.size+1,2,none⟩=some (.int .i64 o.c):=hro.cell 2
  have e3:w1.cell? ⟨w.heap.size+1,3,none⟩=some (.int .i64 o.d):=hro.cell 3
  have e4:w1.cell? ⟨w.heap.size+1,4,none⟩=some (.int .i64 o.e):=hro.cell 4
  clear hro hb d0 d1 d2 d3 d4 HRO HFO
  go_wp2_with fail
  go_loopw [13] (fun iv wr=>∃(i:Nat) (l:List Int),i≤5∧iv=.int .i64 (i:Int)∧Hid (Below (w.heap.size+3) W1 wr)∧Hid (Row wr (w.heap.size+3) 56 (arrV (tupL l)))∧Hid (l=(o.cols.take i).map fun k=>colT t (kol k))∧Hid (∀j,j<i→colT o j≠0)) (fun iv _=>5-(intOf iv).toNat)
  case atStart=>exact⟨0,[],by omega,rfl,HW2.out.mono (by omega),HR0.out.below HW2.out (by omega),rfl,fun j hj=>by omega⟩
  case round=>
   obtain⟨i,l,hi,rfl,HW,HR,HL,HN⟩:=hrel
   clear HR0 HW2 HSZ
   by_cases hlt:i<5
   ·have g1:decide ((i:Int)<5)=true:=by simp;omega
    have i0:(0:Int)≤(i:Int):=by omega
    have i1:(i:Int)<5:=by omega
    obtain⟨z,hz⟩:∃z,z=colT o i:=⟨_,rfl⟩
    have hix:∀W:World,(Instr.index 26 (.agg #[.int .i64 o.a,.int .i64 o.b,.int .i64 o.c,.int .i64 o.d,.int .i64 o.e]) (.int .i64 (i:Int))).run Tryz.prog W=.ok (.int .i64 z) W:=fun W=>by rw[hz];exact HIX.out i hlt W
    by_cases hz0:z=0
    ·have gz:(z==0)=true:=by simpa using hz0
     have gz':decide (z=0)=true:=by simpa using hz0
     have HRX:Hid (Row wr (w.heap.size+3) 56 (arrV u)):=by
      have:=HR.out
      rw[HF1.out i l hi HL.out HN.out (.inr (by rw[←hz];exact hz0))]at this
      exact this
     clear HR HL HN HF1 HRNG hz hz0
     have hrx:=HRX.out
     have h2x:=HR3.out.below HW.out (by omega)
     have q0:wr.cell? ⟨w.heap.size+3,0,none⟩=some (.int .i64 u.a):=hrx.cell 0
     have q1:wr.cell? ⟨w.heap.size+3,1,none⟩=some (.int .i64 u.b):=hrx.cell 1
     have q2:wr.cell? ⟨w.heap.size+3,2,none⟩=some (.int .i64 u.c):=hrx.cell 2
     have q3:wr.cell? ⟨w.heap.size+3,3,none⟩=some (.int .i64 u.d):=hrx.cell 3
     have q4:wr.cell? ⟨w.heap.size+3,4,none⟩=some (.int .i64 u.e):=hrx.cell 4
     have p0:wr.cell? ⟨w.heap.size+2,0,none⟩=some (.int .i64 0):=h2x.cell 0
     have p1:wr.cell? ⟨w.heap.size+2,1,none⟩=some (.int .i64 0):=h2x.cell 1
     have p2:wr.cell? ⟨w.heap.size+2,2,none⟩=some (.int .i64 0):=h2x.cell 2
     have p3:wr.cell? ⟨w.heap.size+2,3,none⟩=some (.int .i64 0):=h2x.cell 3
     have p4:wr.cell? ⟨w.heap.size+2,4,none⟩=some (.int .i64 0):=h2x.cell 4
     have z0:=h2x.free 0
     have z1:=h2x.free 1
     have z2:=h2x.free 2
     have z3:=h2x.free 3
     have z4:=h2x.free 4
     have H5:=Lib.hid (HEND.out wr u HW.out h2x)
     clear hrx h2x HRX HW HR3
     go_wp2
     have r0:=H5.out.1.cell 0
     have r1:=H5.out.1.cell 1
     have r2:=H5.out.1.cell 2
     have r3:=H5.out.1.cell 3
     have r4:=H5.out.1.cell 4
     simp only[arrV,List.getElem?_cons_zero,List.getElem?_cons_succ]at r0 r1 r2 r3 r4
     exact bodyPost_ret (v:=.agg #[.int .i64 u.a,.int .i64 u.b,.int .i64 u.c,.int .i64 u.d,.int .i64 u.e]) (by simp[results,Tryz.results34,go_sem,r0,r1,r2,r3,r4]) rfl ⟨rfl,H5.out.2⟩
    ·have gz:(z==0)=false:=by simpa using hz0
     have gz':decide (z=0)=false:=by simpa using hz0
     have hrz:-5≤z∧z≤5:=by rw[hz];exact HRNG.out i hlt
     have hk5:=kol_lt hz0 hrz
     have HQ:=Lib.hid (col_any z hrz wr)
     rw[clm_kol hz0]at HQ
     obtain⟨x,hx⟩:∃x,x=colT t (kol z):=⟨_,rfl⟩
     have yx:wr.cell? ⟨w.heap.size,kol z,none⟩=some (.int .i64 x):=by rw[hx];exact(KC.out _ HW.out).2 _ hk5
     have hll:l.length=i:=by rw[HL.out,List.length_map,List.length_take,Tup.cols_len];omega
     have HL2:Hid (l++[x]=(o.cols.take (i+1)).map fun k=>colT t (kol k)):=by
      unfold Hid
      rw[take_snoc hlt,List.map_append,←HL.out,hx,hz];rfl
     have HN2:Hid (∀j,j<i+1→colT o j≠0):=fun j hj=>by
      by_cases e:j=i
      ·rw[e,←hz];exact hz0
      ·exact HN.out j (by omega)
     have HRS:Hid (Row (wr.setCell ⟨w.heap.size+3,i,none⟩ (.int .i64 x)) (w.heap.size+3) 56 (arrV (tupL (l++[x])))):=by
      have:=HR.out.set i (.int .i64 x)
      rw[arr_set hll hlt]at this
      exact this
     have HWS:Hid (Below (w.heap.size+3) W1 (wr.setCell ⟨w.heap.size+3,i,none⟩ (.int .i64 x))):=HW.out.setCell (p:=⟨w.heap.size+3,i,none⟩) (by simp) _
     have cs:∃v,wr.cell? ⟨w.heap.size+3,i,none⟩=some v:=⟨_,arr_cell HR.out hlt⟩
     obtain⟨v9,cs⟩:=cs
     have fz:=HR.out.free i
     have k0:(0:Int)≤((kol z:Nat):Int):=by omega
     have k1:((kol z:Nat):Int)<5:=by omega
     generalize kol z=c at*
     clear hx hz hz0 hrz hll HR HW HL HN
     go_wp2_with fail
     refine HQ.out.mono ?_;rintro e w3 ⟨rfl,rfl⟩
     go_wp2
     go_roundw
     case rel=>exact⟨i+1,_,by omega,by go_num,HWS.out,HRS.out,HL2.out,HN2.out⟩
     case measure=>simp[intOf];omega
   ·obtain rfl:i=5:=by omega
    have HRX:Hid (Row wr (w.heap.size+3) 56 (arrV u)):=by
     have:=HR.out
     rw[HF1.out 5 l hi HL.out HN.out (.inl rfl)]at this
     exact this
    clear HR HL HN HF1 HRNG
    have hrx:=HRX.out
    have h2x:=HR3.out.below HW.out (by omega)
    have q0:wr.cell? ⟨w.heap.size+3,0,none⟩=some (.int .i64 u.a):=hrx.cell 0
    have q1:wr.cell? ⟨w.heap.size+3,1,none⟩=some (.int .i64 u.b):=hrx.cell 1
    have q2:wr.cell? ⟨w.heap.size+3,2,none⟩=some (.int .i64 u.c):=hrx.cell 2
    have q3:wr.cell? ⟨w.heap.size+3,3,none⟩=some (.int .i64 u.d):=hrx.cell 3
    have q4:wr.cell? ⟨w.heap.size+3,4,none⟩=some (.int .i64 u.e):=hrx.cell 4
    have p0:wr.cell? ⟨w.heap.size+2,0,none⟩=some (.int .i64 0):=h2x.cell 0
    have p1:wr.cell? ⟨w.heap.size+2,1,none⟩=some (.int .i64 0):=h2x.cell 1
    have p2:wr.cell? ⟨w.heap.size+2,2,none⟩=some (.int .i64 0):=h2x.cell 2
    have p3:wr.cell? ⟨w.heap.size+2,3,none⟩=some (.int .i64 0):=h2x.cell 3
    have p4:wr.cell? ⟨w.heap.size+2,4,none⟩=some (.int .i64 0):=h2x.cell 4
    have z0:=h2x.free 0
    have z1:=h2x.free 1
    have z2:=h2x.free 2
    have z3:=h2x.free 3
    have z4:=h2x.free 4
    have H5:=Lib.hid (HEND.out wr u HW.out h2x)
    clear hrx h2x HRX HW HR3
    go_wp2
    have r0:=H5.out.1.cell 0
    have r1:=H5.out.1.cell 1
    have r2:=H5.out.1.cell 2
    have r3:=H5.out.1.cell 3
    have r4:=H5.out.1.cell 4
    simp only[arrV,List.getElem?_cons_zero,List.getElem?_cons_succ]at r0 r1 r2 r3 r4
    exact bodyPost_ret (v:=.agg #[.int .i64 u.a,.int .i64 u.b,.int .i64 u.c,.int .i64 u.d,.int .i64 u.e]) (by simp[results,Tryz.results34,go_sem,r0,r1,r2,r3,r4]) rfl ⟨rfl,H5.out.2⟩
 ·have hres:cutT o t=tup0:=by unfold cutT;rw[if_neg hf]
  rw[decide_eq_false hf]at HFO
  rw[hres]
  clear hf hres r1 r2 r3 r4 hb1 s1 hW1
  go_enter Tryz.func34,Tryz.ntmps34
  go_upto_region 2 with(fail)
  rw[←HW1.out]
  clear HW1
  go_wp2_with fail
  refine(HFO.out _).mono ?_;rintro e wr ⟨rfl,hb⟩
  have HW:Hid (Below (w.heap.size+4) W1 wr):=hb.mono (Nat.le_of_eq HSZ.out.symm)
  have hrx:=HR0.out.below HW.out (by omega)
  have h2x:=HR3.out.below HW.out (by omega)
  have q0:wr.cell? ⟨w.heap.size+3,0,none⟩=some (.int .i64 0):=hrx.cell 0
  have q1:wr.cell? ⟨w.heap.size+3,1,none⟩=some (.int .i64 0):=hrx.cell 1
  have q2:wr.cell? ⟨w.heap.size+3,2,none⟩=some (.int .i64 0):=hrx.cell 2
  have q3:wr.cell? ⟨w.heap.size+3,3,none⟩=some (.int .i64 0):=hrx.cell 3
  have q4:wr.cell? ⟨w.heap.size+3,4,none⟩=some (.int .i64 0):=hrx.cell 4
  have p0:wr.cell? ⟨w.heap.size+2,0,none⟩=some (.int .i64 0):=h2x.cell 0
  have p1:wr.cell? ⟨w.heap.size+2,1,none⟩=some (.int .i64 0):=h2x.cell 1
  have p2:wr.cell? ⟨w.heap.size+2,2,none⟩=some (.int .i64 0):=h2x.cell 2
  have p3:wr.cell? ⟨w.heap.size+2,3,none⟩=some (.int .i64 0):=h2x.cell 3
  have p4:wr.cell? ⟨w.heap.size+2,4,none⟩=some (.int .i64 0):=h2x.cell 4
  have z0:=h2x.free 0
  have z1:=h2x.free 1
  have z2:=h2x.free 2
  have z3:=h2x.free 3
  have z4:=h2x.free 4
  have H5:Hid (Row (((((wr.setCell ⟨w.heap.size+2,0,none⟩ (.int .i64 0)).setCell ⟨w.heap.size+2,1,none⟩ (.int .i64 0)).setCell ⟨w.heap.size+2,2,none⟩ (.int .i64 0)).setCell ⟨w.heap.size+2,3,none⟩ (.int .i64 0)).setCell ⟨w.heap.size+2,4,none⟩ (.int .i64 0)) (w.heap.size+2) 56 [.int .i64 0,.int .i64 0,.int .i64 0,.int .i64 0,.int .i64 0]∧Below w.heap.size w (((((wr.setCell ⟨w.heap.size+2,0,none⟩ (.int .i64 0)).setCell ⟨w.heap.size+2,1,none⟩ (.int .i64 0)).setCell ⟨w.heap.size+2,2,none⟩ (.int .i64 0)).setCell ⟨w.heap.size+2,3,none⟩ (.int .i64 0)).setCell ⟨w.heap.size+2,4,none⟩ (.int .i64 0))):=HEND.out wr tup0 (HW.out.mono (by omega)) h2x
  clear hrx h2x HW HR3 hb d0 d1 d2 d3 d4
  go_wp2
  have r0:=H5.out.1.cell 0
  have r1:=H5.out.1.cell 1
  have r2:=H5.out.1.cell 2
  have r3:=H5.out.1.cell 3
  have r4:=H5.out.1.cell 4
  simp only[List.getElem?_cons_zero,List.getElem?_cons_succ]at r0 r1 r2 r3 r4
  exact bodyPost_ret (v:=.agg #[.int .i64 tup0.a,.int .i64 tup0.b,.int .i64 tup0.c,.int .i64 tup0.d,.int .i64 tup0.e]) (by simp[results,Tryz.results34,go_sem,r0,r1,r2,r3,r4,tup0]) rfl ⟨rfl,H5.out.2⟩
def nameN(o:Tup):Nat:=(o.cols.takeWhile fun k=>k≠0).length
theorem nameN_le(o:Tup):nameN o≤5:=Nat.le_trans (List.takeWhile_prefix _).length_le (by simp[Tup.cols])
theorem nameN_at{o:Tup}{n:Nat}(hn:n≤5)(h1:∀j,j<n→colT o j≠0)(h2:n=5∨colT o n=0):nameN o=n:=by
 have h:=cut_stop o o n hn h1 h2
 have h3:=cutO_len o.cols o
 rw[h]at h3
 unfold nameN
 rw[←h3]
 simp[Tup.cols];omega
theorem nameN_nz{o:Tup}:∀j,j<nameN o→colT o j≠0:=fun j hj h0=>by
 have hp:(o.cols.takeWhile fun k=>k≠0)<+:o.cols:=List.takeWhile_prefix _
 unfold nameN at hj
 have h1:(o.cols.takeWhile fun k=>k≠0)[j]≠0:=by
  have:=List.all_eq_true.1 (List.all_takeWhile (p:=fun k:Int=>decide (k≠0)) (l:=o.cols)) _ (List.getElem_mem hj)
  simpa using this
 have h2:=hp.getElem hj
 apply h1
 rw[h2]
 unfold colT at h0
 rw[List.getD_eq_getElem?_getD,List.getElem?_eq_getElem (Nat.lt_of_lt_of_le hj hp.length_le)]at h0
 exact h0
theorem nameN_stop(o:Tup):nameN o=5∨colT o (nameN o)=0:=by
 have h0:=@nameN_nz o
 by_cases h:nameN o=5
 ·exact .inl h
 ·refine .inr ?_
  have h5:=nameN_le o
  by_cases h1:colT o (nameN o)=0
  ·exact h1
  ·exfalso
   have key:∀n,n≤5→(∀j,j<n→colT o j≠0)→n≤nameN o:=fun n hn hz=>by
    obtain⟨a,b,c,d,e⟩:=o
    unfold nameN Tup.cols
    have z:∀j,j<n→colT ⟨a,b,c,d,e⟩ j≠0:=hz
    match n,hn with
    |0,_=>omega
    |1,_=>have f0:a≠0:=z 0 (by omega);simp[f0]
    |2,_=>have f0:a≠0:=z 0 (by omega);have f1:b≠0:=z 1 (by omega);simp[f0,f1]
    |3,_=>have f0:a≠0:=z 0 (by omega);have f1:b≠0:=z 1 (by omega);have f2:c≠0:=z 2 (by omega);simp[f0,f1,f2]
    |4,_=>have f0:a≠0:=z 0 (by omega);have f1:b≠0:=z 1 (by omega);have f2:c≠0:=z 2 (by omega);have f3:d≠0:=z 3 (by omega);simp[f0,f1,f2,f3]
    |5,_=>have f0:a≠0:=z 0 (by omega);have f1:b≠0:=z 1 (by omega);have f2:c≠0:=z 2 (by omega);have f3:d≠0:=z 3 (by omega);have f4:e≠0:=z 4 (by omega);simp[f0,f1,f2,f3,f4]
   have:=key (nameN o+1) (by omega) (fun j hj=>by
    rcases Nat.lt_or_ge j (nameN o)with hl|hl
    ·exact h0 j hl
    ·rw[show j=nameN o by omega];exact h1)
   omega
theorem tupL_fits{l:List Int}{n:Nat}(h:l.length=n)(_hn:n≤5):fitsT n (tupL l)=true:=by
 subst h
 unfold fitsT tupL Tup.cols
 match l with
 |[]=>rfl
 |[_]=>rfl
 |[_,_]=>rfl
 |[_,_,_]=>rfl
 |[_,_,_,_]=>rfl
 | _:: _:: _:: _:: _::l=>simp
theorem cutT_fits{o t:Tup}(hf:Fm o):fitsT (nameN o) (cutT o t)=true:=by
 unfold cutT
 rw[if_pos hf]
 exact tupL_fits (by rw[cutO_len];rfl) (nameN_le o)
theorem colT_ok{t:Tup}(h:TupOk t)(i:Nat):I64 (colT t i):=by
 unfold colT
 rw[List.getD_eq_getElem?_getD]
 rcases hi:t.cols[i]?with _|x
 ·exact I64.of (by simp) (by simp)
 ·exact h x (List.mem_of_getElem? hi)
theorem cutT_ok{o t:Tup}(h:TupOk t):TupOk (cutT o t):=by
 unfold cutT
 split
 ·have hz:I64 0:=I64.of (by omega) (by omega)
  have hall:∀x∈cutO o.cols t,I64 x:=fun x hx=>by
   unfold cutO at hx
   obtain⟨k,_,rfl⟩:=List.mem_map.1 hx
   exact colT_ok h _
  have hg:∀i,I64 ((cutO o.cols t).getD i 0):=fun i=>by
   rw[List.getD_eq_getElem?_getD]
   rcases hi:(cutO o.cols t)[i]?with _|x
   ·exact hz
   ·exact hall x (List.mem_of_getElem? hi)
  generalize cutO o.cols t=L at*
  intro x hx
  simp[tupL,Tup.cols]at hx
  rcases hx with rfl|rfl|rfl|rfl|rfl
  ·have:=hg 0;simpa [List.getD_eq_getElem?_getD]using this
  ·have:=hg 1;simpa [List.getD_eq_getElem?_getD]using this
  ·have:=hg 2;simpa [List.getD_eq_getElem?_getD]using this
  ·have:=hg 3;simpa [List.getD_eq_getElem?_getD]using this
  ·have:=hg 4;simpa [List.getD_eq_getElem?_getD]using this
 ·intro x hx
  simp[tup0,Tup.cols]at hx
  subst hx
  exact I64.of (by omega) (by omega)
theorem named_any(o:Tup)(w:World):Calls Tryz.prog 29 #[.agg #[.int .i64 o.a,.int .i64 o.b,.int .i64 o.c,.int .i64 o.d,.int .i64 o.e]] w fun e w'=>e=.returned (.int .i64 (nameN o:Nat))∧Below w.heap.size w w':=by
 have hr:Row (w.alloc (.cells #[.int .i64 o.a,.int .i64 o.b,.int .i64 o.c,.int .i64 o.d,.int .i64 o.e] 26)) w.heap.size 26 (tupC o):=heap_alloc_new _ _
 have HCE:Hid (∀n,n<5→(w.alloc (.cells #[.int .i64 o.a,.int .i64 o.b,.int .i64 o.c,.int .i64 o.d,.int .i64 o.e] 26)).cell? ⟨w.heap.size,n,none⟩=some (.int .i64 (colT o n))):=fun n hn=>(hr.cell n).trans (tupC_at o hn)
 have HB:Hid (Below w.heap.size w (w.alloc (.cells #[.int .i64 o.a,.int .i64 o.b,.int .i64 o.c,.int .i64 o.d,.int .i64 o.e] 26))):=(Below.refl _ _).alloc (Nat.le_refl _) _
 clear hr
 go_enter Tryz.func29,Tryz.ntmps29
 go_wp2_with fail
 generalize w.alloc (.cells #[.int .i64 o.a,.int .i64 o.b,.int .i64 o.c,.int .i64 o.d,.int .i64 o.e] 26)=W1 at*
 go_loopw [3] (fun iv wr=>∃n:Nat,n≤5∧iv=.int .i64 (n:Int)∧Hid (∀j,j<n→colT o j≠0)∧wr=W1) (fun iv _=>5-(intOf iv).toNat)
 case atStart=>exact⟨0,by omega,rfl,fun j hj=>absurd hj (by omega),rfl⟩
 case round=>
  obtain⟨n,hn,rfl,HJ,rfl⟩:=hrel
  by_cases h5:n<5
  ·have g0:decide ((n:Int)<5)=true:=by simp;omega
   have hn0:(0:Int)≤(n:Int):=by omega
   have hn1:(n:Int)<5:=by omega
   have q:=HCE.out n h5
   by_cases hz:colT o n=0
   ·have HN:Hid (nameN o=n):=nameN_at hn HJ.out (.inr hz)
    rw[hz]at q
    clear hz
    go_wp2
    go_ret
    rw[HN.out]
    exact⟨rfl,HB.out⟩
   ·have HZ:=Lib.hid hz
    obtain⟨x,hx⟩:∃x,x=colT o n:=⟨_,rfl⟩
    rw[←hx]at q hz
    clear hx
    go_wp2
    go_roundw
    case rel=>exact⟨n+1,by omega,by go_num,fun j hj=>by
     rcases Nat.lt_or_ge j n with hl|hl
     ·exact HJ.out j hl
     ·rw[show j=n by omega];exact HZ.out,by trivial⟩
    case measure=>simp[intOf];omega
  ·obtain rfl:n=5:=by omega
   have HN:Hid (nameN o=5):=nameN_at hn HJ.out (.inl rfl)
   go_wp2
   go_ret
   rw[HN.out]
   exact⟨rfl,HB.out⟩
def inW(k:Nat)(o:Tup):Prop:=∀i,i<5→-(k:Int)≤colT o i∧colT o i≤k
instance inWDec (k : Nat) (o : Tup) : Decidable (inW k o) := by unfold inW; exact inferInstance
theorem hascols_any(f0 f1 f3:Int)(k:Nat)(hk:k≤1000)(o:Tup)(w:World):Calls Tryz.prog 31 #[.agg #[.int .i64 f0,.int .i64 f1,.int .i64 k,.int .i64 f3],.agg #[.int .i64 o.a,.int .i64 o.b,.int .i64 o.c,.int .i64 o.d,.int .i64 o.e]] w fun e w'=>e=.returned (.bool (decide (inW k o)))∧Below w.heap.size w w':=by
 obtain⟨W1,hW1,b1,s1,r1,r2⟩:=boxes2 w [.int .i64 f0,.int .i64 f1,.int .i64 k,.int .i64 f3] [.int .i64 o.a,.int .i64 o.b,.int .i64 o.c,.int .i64 o.d,.int .i64 o.e] 31 26
 have HW1:=Lib.hid hW1
 have HB:=Lib.hid b1
 have HIX:Hid (∀i:Nat,i<5→∀W:World,(Instr.index 26 (.agg #[.int .i64 o.a,.int .i64 o.b,.int .i64 o.c,.int .i64 o.d,.int .i64 o.e]) (.int .i64 (i:Int))).run Tryz.prog W=.ok (.int .i64 (colT o i)) W):=fun i hi W=>index_any 26 rfl o hi W
 have d0:W1.cell? ⟨w.heap.size+1,0,none⟩=some (.int .i64 o.a):=r2.cell 0
 have d1:W1.cell? ⟨w.heap.size+1,1,none⟩=some (.int .i64 o.b):=r2.cell 1
 have d2:W1.cell? ⟨w.heap.size+1,2,none⟩=some (.int .i64 o.c):=r2.cell 2
 have d3:W1.cell? ⟨w.heap.size+1,3,none⟩=some (.int .i64 o.d):=r2.cell 3
 have d4:W1.cell? ⟨w.heap.size+1,4,none⟩=some (.int .i64 o.e):=r2.cell 4
 have c2:W1.cell? ⟨w.heap.size,2,none⟩=some (.int .i64 k):=r1.cell 2
 have HNEG:∀x:Int,x=k→-x=((-(k:Int))):=fun x hx=>by rw[hx]
 clear HNEG hW1 b1 s1 r1 r2
 go_enter Tryz.func31,Tryz.ntmps31
 go_upto_region 1 with(fail)
 rw[←HW1.out]
 clear HW1
 go_wp2_with fail
 go_loopw [8] (fun iv wr=>∃n:Nat,n≤5∧iv=.int .i64 (n:Int)∧Hid (∀i,i<n→-(k:Int)≤colT o i∧colT o i≤k)∧wr=W1) (fun iv _=>5-(intOf iv).toNat)
 case atStart=>exact⟨0,by omega,rfl,fun j hj=>absurd hj (by omega),rfl⟩
 case round=>
  obtain⟨n,hn,rfl,HJ,rfl⟩:=hrel
  by_cases h5:n<5
  ·have g0:decide ((n:Int)<5)=true:=by simp;omega
   have hn0:(0:Int)≤(n:Int):=by omega
   have hn1:(n:Int)<5:=by omega
   have hix:=HIX.out n h5
   obtain⟨x,hx⟩:∃x,x=colT o n:=⟨_,rfl⟩
   rw[←hx]at hix
   have HX:=Lib.hid hx
   obtain⟨nk,hnk⟩:∃nk:Int,nk=-(k:Int):=⟨_,rfl⟩
   have hneg:-(k:Int)=nk:=hnk.symm
   have hnb:-1000≤nk∧nk≤0:=by omega
   have HNK:=Lib.hid hnk
   clear hx hnk
   by_cases h1:x>(k:Int)
   ·have g1:decide (x>(k:Int))=true:=by simpa using h1
    have HNO:Hid (decide (inW k o)=false):=by
     unfold Hid
     refine decide_eq_false fun q=>?_
     have:=q n h5
     rw[←HX.out]at this
     omega
    go_wp2
    go_ret
    rw[HNO.out]
    exact⟨rfl,HB.out⟩
   ·have g1:decide (x>(k:Int))=false:=by simpa using h1
    by_cases h2:x<nk
    ·have g2:decide (x<nk)=true:=by simpa using h2
     have HNO:Hid (decide (inW k o)=false):=by
      unfold Hid
      refine decide_eq_false fun q=>?_
      have:=q n h5
      rw[←HX.out]at this
      have:=HNK.out
      omega
     go_wp2
     go_ret
     rw[HNO.out]
     exact⟨rfl,HB.out⟩
    ·have g2:decide (x<nk)=false:=by simpa using h2
     have HOK:Hid (-(k:Int)≤colT o n∧colT o n≤k):=by
      unfold Hid
      rw[←HX.out]
      have:=HNK.out
      omega
     go_wp2
     go_roundw
     case rel=>exact⟨n+1,by omega,by go_num,fun j hj=>by
      rcases Nat.lt_or_ge j n with hl|hl
      ·exact HJ.out j hl
      ·rw[show j=n by omega];exact HOK.out,by trivial⟩
     case measure=>simp[intOf];omega
  ·obtain rfl:n=5:=by omega
   have HYES:Hid (decide (inW k o)=true):=decide_eq_true HJ.out
   go_wp2
   go_ret
   rw[HYES.out]
   exact⟨rfl,HB.out⟩
section
variable {X : Cx} {m : Nat} {W : World}
def cutH(g:Nat)(fc:List Value)(o:Tup)(_:Nat):List Asn:=[rowO g 31 fc,rowO (g+1) 26 (tupC o)]
def cutC(o:Tup)(_:Nat)(t:Tup):Option Tup:=some (cutT o t)
theorem cut_how{pre:List Asn}{g:Nat}{fc:List Value}{o:Tup}{l:List Tup}:
  HowC X pre 33 #[.pointer (some ⟨g+1,0,none⟩)] l (cutC o) (cutH g fc o) 2 where
 ent:=fun args w=>by kernel_rfl
 len:=fun _=>rfl
 how:=fun j zz m W t ht h=>by
  obtain⟨W2,hW2⟩:∃W2,W2=(W.alloc (.cells #[.int .i64 t.a,.int .i64 t.b,.int .i64 t.c,.int .i64 t.d,.int .i64 t.e] 56)).alloc (.cells #[.int .i64 0,.int .i64 0,.int .i64 0,.int .i64 0,.int .i64 0] 56):=⟨_,rfl⟩
  have h1:=h.new ((Below.refl W.heap.size W).alloc (Nat.le_refl _) (.cells #[.int .i64 t.a,.int .i64 t.b,.int .i64 t.c,.int .i64 t.d,.int .i64 t.e] 56)) (heap_alloc_new _ _:Row _ _ 56 (tupC t)) (Nat.le_refl _)
  have h2:=h1.new ((Below.refl _ _).alloc (Nat.le_refl _) (.cells #[.int .i64 0,.int .i64 0,.int .i64 0,.int .i64 0,.int .i64 0] 56)) (heap_alloc_new _ _:Row _ _ 56 Z5) (Nat.le_refl _)
  rw[←hW2,show (W.alloc (.cells #[.int .i64 t.a,.int .i64 t.b,.int .i64 t.c,.int .i64 t.d,.int .i64 t.e] 56)).heap.size=W.heap.size+1 by simp]at h2
  obtain⟨s0,hs0⟩:∃s0,s0=W.heap.size:=⟨_,rfl⟩
  rw[←hs0]at h2
  obtain⟨A,hA⟩:∃A:List Value→World→Prop,∀c2 w,A c2 w↔Wd X (pre++cutH g fc o 0++(zz++[rowO s0 56 (tupC t),rowO (s0+1) 56 c2])) m w:=⟨_,fun _ _=>Iff.rfl⟩
  have hpl:(pre++cutH g fc o 0).length=pre.length+2:=by simp[cutH]
  have HA0:Hid (A Z5 W2):=(hA _ _).2 (by simpa [List.append_assoc,cutH]using h2)
  have HAD:Hid (∀c2 w q,A c2 w→A c2 (w.drewN q)):=fun c2 w q hq=>(hA _ _).2 (((hA _ _).1 hq).drewN q)
  have HROW:Hid (∀c2 w,A c2 w→Row w (g+1) 26 (tupC o)∧Row w s0 56 (tupC t)∧Row w (s0+1) 56 c2):=fun c2 w q=>by
   have q:=(hA _ _).1 q
   exact⟨q.row (i:=pre.length+1) (by simp[cutH]),q.row (ix_at1 hpl),q.row (ix_at2 hpl)⟩
  have HS2:Hid (∀c2 w j x,A c2 w→A (c2.set j x) (w.setCell ⟨s0+1,j,none⟩ x)):=fun c2 w j x q=>by
   have q1:=((hA _ _).1 q).store (ix_at2 hpl) (by decide) j x
   rw[ix_set2 hpl]at q1
   exact(hA _ _).2 q1
  have HEND:Hid (∀c2 w,A c2 w→Wd X (pre++cutH g fc o (j+1)++zz) m w):=fun c2 w q=>by
   have q:=(hA _ _).1 q
   rw[←List.append_assoc]at q
   have q2:=Wd.cuts (b:=[]) [rowO s0 56 (tupC t),rowO (s0+1) 56 c2] (fun y hy=>by simp at hy;rcases hy with rfl|rfl<;>exact⟨rfl,rfl⟩) (by rw[List.append_nil];exact q)
   rwa [List.append_nil]at q2
  have HAB:Hid (∀c2 w w',A c2 w→Below w.heap.size w w'→A c2 w'):=fun c2 w w' q hb=>(hA _ _).2 (((hA _ _).1 q).below hb)
  have HTC:Hid (∀w,Calls Tryz.prog 34 #[.agg #[.int .i64 t.a,.int .i64 t.b,.int .i64 t.c,.int .i64 t.d,.int .i64 t.e],.agg #[.int .i64 o.a,.int .i64 o.b,.int .i64 o.c,.int .i64 o.d,.int .i64 o.e]] w fun e w'=>e=.returned (.agg #[.int .i64 (cutT o t).a,.int .i64 (cutT o t).b,.int .i64 (cutT o t).c,.int .i64 (cutT o t).d,.int .i64 (cutT o t).e])∧Below w.heap.size w w'):=fun w=>tcut_any o t w
  obtain⟨u,hu⟩:∃u,u=cutT o t:=⟨_,rfl⟩
  have HC:Hid (cutC o j t=some u):=by unfold Hid cutC;rw[hu]
  rw[←hu]at HTC
  have HW2:=Lib.hid hW2
  replace hs0:=Lib.hid hs0
  obtain⟨p1,p4,p5⟩:=HROW.out _ _ HA0.out
  have d0:W2.cell? ⟨s0,0,none⟩=some (.int .i64 t.a):=p4.cell 0
  have d1:W2.cell? ⟨s0,1,none⟩=some (.int .i64 t.b):=p4.cell 1
  have d2:W2.cell? ⟨s0,2,none⟩=some (.int .i64 t.c):=p4.cell 2
  have d3:W2.cell? ⟨s0,3,none⟩=some (.int .i64 t.d):=p4.cell 3
  have d4:W2.cell? ⟨s0,4,none⟩=some (.int .i64 t.e):=p4.cell 4
  have q0:W2.cell? ⟨g+1,0,none⟩=some (.int .i64 o.a):=p1.cell 0
  have q1:W2.cell? ⟨g+1,1,none⟩=some (.int .i64 o.b):=p1.cell 1
  have q2:W2.cell? ⟨g+1,2,none⟩=some (.int .i64 o.c):=p1.cell 2
  have q3:W2.cell? ⟨g+1,3,none⟩=some (.int .i64 o.d):=p1.cell 3
  have q4:W2.cell? ⟨g+1,4,none⟩=some (.int .i64 o.e):=p1.cell 4
  clear h1 h2 h hpl hA hW2 ht hu p1 p4 p5
  generalize hPO:(fun(e:Ending) (w':World)=>∃t' b,e=.returned (.tuple #[tupV t',.bool b])∧cutC o j t=(if b then some t' else none)∧Wd X (pre++cutH g fc o (j+1)++zz) m w')=POST at*
  replace hPO:=Lib.hid hPO
  unfold tupV
  go_enter Tryz.func33,Tryz.ntmps33
  go_upto_region 1 with(fail)
  rw[←HW2.out,←hs0.out]
  clear HW2
  go_wp2_with fail
  refine(HTC.out _).mono ?_
  rintro e w3 ⟨rfl,hb3⟩
  have HA3:=Lib.hid (HAB.out _ _ _ HA0.out hb3)
  clear hb3 d0 d1 d2 d3 d4 q0 q1 q2 q3 q4
  obtain⟨p1,p4,p5⟩:=HROW.out _ _ HA3.out
  have z0:w3.cell? ⟨s0+1,0,none⟩=some (.int .i64 0):=p5.cell 0
  have z1:w3.cell? ⟨s0+1,1,none⟩=some (.int .i64 0):=p5.cell 1
  have z2:w3.cell? ⟨s0+1,2,none⟩=some (.int .i64 0):=p5.cell 2
  have z3:w3.cell? ⟨s0+1,3,none⟩=some (.int .i64 0):=p5.cell 3
  have z4:w3.cell? ⟨s0+1,4,none⟩=some (.int .i64 0):=p5.cell 4
  have f0:=p5.free 0
  have f1:=p5.free 1
  have f2:=p5.free 2
  have f3:=p5.free 3
  have f4:=p5.free 4
  have HA9:=Lib.hid (HS2.out _ _ 4 (.int .i64 u.e) (HS2.out _ _ 3 (.int .i64 u.d) (HS2.out _ _ 2 (.int .i64 u.c) (HS2.out _ _ 1 (.int .i64 u.b) (HS2.out _ w3 0 (.int .i64 u.a) HA3.out)))))
  have HR9:=Lib.hid (HROW.out _ _ HA9.out).2.2
  clear p1 p4 p5
  go_wp2
  have r0:=HR9.out.cell 0
  have r1:=HR9.out.cell 1
  have r2:=HR9.out.cell 2
  have r3:=HR9.out.cell 3
  have r4:=HR9.out.cell 4
  simp only[Z5,List.set_cons_zero,List.set_cons_succ,List.getElem?_cons_zero,List.getElem?_cons_succ]at r0 r1 r2 r3 r4
  refine bodyPost_ret (v:=.tuple #[tupV u,.bool true]) (by unfold tupV;simp[results,Tryz.results33,go_sem,r0,r1,r2,r3,r4]) rfl ?_
  rw[←hPO.out]
  exact⟨u,true,rfl,HC.out,HEND.out _ _ HA9.out⟩
theorem wd_cut{os:List Asn}{first nb k hh count:Nat}{l:List Tup}{o:Tup}(h:Wd X os m W)(hf:FOk first nb k hh l X.sz)(hmem:fiO first nb k hh l X.sz∈os)(hc:l.length=count)(hfm:Fm o)(hn0:nameN o≠0)(hin:inW k o)
  (hroom:2*X.sz+sumN Asn.gw os≤X.rm) (hn:X.N+m+nb+count+2≤1000000) (hwd:0<holdsI X.sz (nameN o:Nat)):
  Calls Tryz.prog 12 #[.pointer (some ⟨X.p.w,0,none⟩),.agg #[.int .i64 first,.int .i64 nb,.int .i64 k,.int .i64 count],.agg #[.int .i64 o.a,.int .i64 o.b,.int .i64 o.c,.int .i64 o.d,.int .i64 o.e]] W (OpRes X os (outL (cutC o) l count) m nb count (nameN o)):=by
 obtain⟨W3,hW3⟩:∃W3,W3=((W.alloc (.cells #[.int .i64 first,.int .i64 nb,.int .i64 k,.int .i64 count] 31)).alloc (.cells #[.int .i64 o.a,.int .i64 o.b,.int .i64 o.c,.int .i64 o.d,.int .i64 o.e] 26)).alloc (.cells #[.int .i64 0,.int .i64 0,.int .i64 0,.int .i64 0] 31):=⟨_,rfl⟩
 have h1:=h.new ((Below.refl W.heap.size W).alloc (Nat.le_refl _) (.cells #[.int .i64 first,.int .i64 nb,.int .i64 k,.int .i64 count] 31)) (heap_alloc_new _ _:Row _ _ 31 [.int .i64 first,.int .i64 nb,.int .i64 k,.int .i64 count]) (Nat.le_refl _)
 have h2:=h1.new ((Below.refl _ _).alloc (Nat.le_refl _) (.cells #[.int .i64 o.a,.int .i64 o.b,.int .i64 o.c,.int .i64 o.d,.int .i64 o.e] 26)) (heap_alloc_new _ _:Row _ _ 26 (tupC o)) (Nat.le_refl _)
 have h3:=h2.new ((Below.refl _ _).alloc (Nat.le_refl _) (.cells #[.int .i64 0,.int .i64 0,.int .i64 0,.int .i64 0] 31)) (heap_alloc_new _ _:Row _ _ 31 Z4) (Nat.le_refl _)
 rw[←hW3]at h3
 have hsz:∀(w:World) (o:Obj),(w.alloc o).heap.size=w.heap.size+1:=fun w o=>by simp
 simp only[hsz,Nat.add_assoc,Nat.reduceAdd]at h3
 obtain⟨s0,hs0⟩:∃s0,s0=W.heap.size:=⟨_,rfl⟩
 rw[←hs0]at h3
 obtain⟨fc,hfc⟩:∃fc:List Value,fc=[.int .i64 first,.int .i64 nb,.int .i64 k,.int .i64 count]:=⟨_,rfl⟩
 rw[←hfc]at h3
 have h3:Wd X (os++cutH s0 fc o 0++[rowO (s0+2) 31 Z4]) m W3:=by
  unfold cutH;simpa [List.append_assoc]using h3
 have hrow:Row W3 s0 31 [.int .i64 first,.int .i64 nb,.int .i64 k,.int .i64 count]:=by rw[←hfc];exact h3.row (i:=os.length) (by unfold cutH;simp)
 have hrow1:Row W3 (s0+1) 26 (tupC o):=h3.row (i:=os.length+1) (by unfold cutH;simp)
 have hkk:=hf.kk
 have hbare:∀i,Bare (cutH s0 fc o i):=fun i q hq=>by simp[cutH]at hq;rcases hq with rfl|rfl<;>exact⟨rfl,rfl⟩
 have hcg:=fun(w:World) (hb:Below W3.heap.size W3 w)=>wd_change (width:=nameN o) (cut_how (X:=X) (pre:=os) (g:=s0) (fc:=fc) (o:=o) (l:=l)) (h3.below hb) hf (by simp[hmem]) hc hwd (fun j t u ht hu=>by
   have hft:=hf.fit t (List.mem_of_getElem? ht)
   unfold cutC at hu
   injection hu with hu
   subst hu
   exact⟨cutT_ok hft.1,cutT_fits hfm⟩) (by rw[sumN_app,sumN_app,gw_bare _ (hbare 0),gw_bare [rowO (s0+2) 31 Z4] (fun q hq=>by simp at hq;subst hq;exact⟨rfl,rfl⟩)];omega) hn
 have HCG:=Lib.hid hcg
 have HST:Hid (∀e w',ChgRes X os [rowO (s0+2) 31 Z4] (cutH s0 fc o) (outL (cutC o) l count) m nb count (nameN o) e w'→ _):=fun e w' q=>op_states hbare q
 have HNM:Hid (∀w,Calls Tryz.prog 29 #[.agg #[.int .i64 o.a,.int .i64 o.b,.int .i64 o.c,.int .i64 o.d,.int .i64 o.e]] w fun e w'=>e=.returned (.int .i64 (nameN o:Nat))∧Below w.heap.size w w'):=fun w=>named_any o w
 have HFM:Hid (∀w,Calls Tryz.prog 30 #[.agg #[.int .i64 o.a,.int .i64 o.b,.int .i64 o.c,.int .i64 o.d,.int .i64 o.e]] w fun e w'=>e=.returned (.bool true)∧Below w.heap.size w w'):=fun w=>by
  have:=formed_any o w
  rwa [decide_eq_true hfm]at this
 have HHC:Hid (∀w,Calls Tryz.prog 31 #[.agg #[.int .i64 first,.int .i64 nb,.int .i64 k,.int .i64 count],.agg #[.int .i64 o.a,.int .i64 o.b,.int .i64 o.c,.int .i64 o.d,.int .i64 o.e]] w fun e w'=>e=.returned (.bool true)∧Below w.heap.size w w'):=fun w=>by
  have:=hascols_any first nb count k (by omega) o w
  rwa [decide_eq_true hin]at this
 have hnl:=nameN_le o
 obtain⟨nn,hnn⟩:∃nn,nn=nameN o:=⟨_,rfl⟩
 rw[←hnn]at HCG HST HNM hn0 hnl⊢
 generalize ChgRes X os [rowO (s0+2) 31 Z4] (cutH s0 fc o) (outL (cutC o) l count) m nb count nn=CRES at*
 generalize OpRes X os (outL (cutC o) l count) m nb count nn=POST at*
 have HW3:=Lib.hid hW3
 have HCE:Hid (∀w,Below W3.heap.size W3 w→(w.cell? ⟨s0,0,none⟩=some (.int .i64 first)∧w.cell? ⟨s0,1,none⟩=some (.int .i64 nb)∧w.cell? ⟨s0,2,none⟩=some (.int .i64 k)∧w.cell? ⟨s0,3,none⟩=some (.int .i64 count))∧w.cell? ⟨s0+1,0,none⟩=some (.int .i64 o.a)∧w.cell? ⟨s0+1,1,none⟩=some (.int .i64 o.b)∧w.cell? ⟨s0+1,2,none⟩=some (.int .i64 o.c)∧w.cell? ⟨s0+1,3,none⟩=some (.int .i64 o.d)∧w.cell? ⟨s0+1,4,none⟩=some (.int .i64 o.e)):=fun w hb=>by
  have q0:=hrow.below hb hrow.lt
  have q1:=hrow1.below hb hrow1.lt
  exact⟨⟨q0.cell 0,q0.cell 1,q0.cell 2,q0.cell 3⟩,q1.cell 0,q1.cell 1,q1.cell 2,q1.cell 3,q1.cell 4⟩
 obtain⟨⟨a0,a1,a2,a3⟩,b0,b1,b2,b3,b4⟩:=HCE.out W3 (Below.refl _ _)
 replace hs0:=Lib.hid hs0
 have hnz:¬(nn:Int)=0:=by omega
 clear h1 h2 h3 h hW3 hsz hrow hrow1 hcg hf hmem hc hroom hn hkk hbare hfc hwd hn0 hfm hin hnn
 go_enter Tryz.func12,Tryz.ntmps12
 go_upto_region 1 with(fail)
 rw[←HW3.out,←hs0.out]
 clear HW3
 go_wp2_with fail
 refine(HNM.out _).mono ?_
 rintro e w4 ⟨rfl,hb4⟩
 have HB4:=Lib.hid hb4
 clear hb4 a0 a1 a2 a3 b0 b1 b2 b3 b4
 obtain⟨⟨a0,a1,a2,a3⟩,b0,b1,b2,b3,b4⟩:=HCE.out w4 HB4.out
 go_wp2_with fail
 refine(HFM.out _).mono ?_
 rintro e w5 ⟨rfl,hb5⟩
 have HB5:=Lib.hid (HB4.out.trans (hb5.mono HB4.out.size))
 clear hb5 a0 a1 a2 a3 b0 b1 b2 b3 b4
 obtain⟨⟨a0,a1,a2,a3⟩,b0,b1,b2,b3,b4⟩:=HCE.out w5 HB5.out
 go_wp2_with fail
 refine(HHC.out _).mono ?_
 rintro e w6 ⟨rfl,hb6⟩
 have HB6:=Lib.hid (HB5.out.trans (hb6.mono HB5.out.size))
 clear hb6 a0 a1 a2 a3 b0 b1 b2 b3 b4
 obtain⟨⟨a0,a1,a2,a3⟩,b0,b1,b2,b3,b4⟩:=HCE.out w6 HB6.out
 have HC6:=Lib.hid (HCG.out w6 HB6.out)
 go_wp2_with fail
 refine HC6.out.mono ?_
 rintro e w7 h7
 obtain⟨C,F,N,K,L,er,rfl,hC,hCr,hCs,hCe⟩:=HST.out e w7 h7
 have HR6:=Lib.hid (hCr _ _ hC)
 have H9:=Lib.hid (hCs Z4 w7 (.int .i64 F) (.int .i64 N) (.int .i64 K) (.int .i64 L) rfl hC)
 have HR9:=Lib.hid (hCr _ _ H9.out)
 have HE:=Lib.hid (hCe _ _ H9.out)
 clear h7 hC hCr hCs hCe a0 a1 a2 a3 b0 b1 b2 b3 b4
 have z0:w7.cell? ⟨s0+2,0,none⟩=some (.int .i64 0):=HR6.out.cell 0
 have z1:w7.cell? ⟨s0+2,1,none⟩=some (.int .i64 0):=HR6.out.cell 1
 have z2:w7.cell? ⟨s0+2,2,none⟩=some (.int .i64 0):=HR6.out.cell 2
 have z3:w7.cell? ⟨s0+2,3,none⟩=some (.int .i64 0):=HR6.out.cell 3
 have f0:=HR6.out.free 0
 have f1:=HR6.out.free 1
 have f2:=HR6.out.free 2
 have f3:=HR6.out.free 3
 go_wp2
 have r0:=HR9.out.cell 0
 have r1:=HR9.out.cell 1
 have r2:=HR9.out.cell 2
 have r3:=HR9.out.cell 3
 simp only[List.getElem?_cons_zero,List.getElem?_cons_succ]at r0 r1 r2 r3
 refine bodyPost_ret (v:=.tuple #[.agg #[.int .i64 F,.int .i64 N,.int .i64 K,.int .i64 L],.int .i64 er]) (by simp[results,Tryz.results12,go_sem,r0,r1,r2,r3]) rfl ?_
 exact HE.out
end
theorem cut_bad(p:Value)(f0 f1 f3:Int)(k:Nat)(hk:k≤1000)(o:Tup)(w:World)(hno:¬(Fm o∧nameN o≠0∧inW k o)):Calls Tryz.prog 12 #[p,.agg #[.int .i64 f0,.int .i64 f1,.int .i64 k,.int .i64 f3],.agg #[.int .i64 o.a,.int .i64 o.b,.int .i64 o.c,.int .i64 o.d,.int .i64 o.e]] w fun e w'=>e=.returned (.tuple #[.agg #[.int .i64 0,.int .i64 0,.int .i64 0,.int .i64 0],.int .i64 1])∧Below w.heap.size w w':=by
 obtain⟨W3,hW3⟩:∃W3,W3=((w.alloc (.cells #[.int .i64 f0,.int .i64 f1,.int .i64 k,.int .i64 f3] 31)).alloc (.cells #[.int .i64 o.a,.int .i64 o.b,.int .i64 o.c,.int .i64 o.d,.int .i64 o.e] 26)).alloc (.cells #[.int .i64 0,.int .i64 0,.int .i64 0,.int .i64 0] 31):=⟨_,rfl⟩
 have hsz:∀(w:World) (o:Obj),(w.alloc o).heap.size=w.heap.size+1:=fun w o=>by simp
 have hb:Below w.heap.size w W3:=by
  have q0:=Below.refl w.heap.size w
  rw[hW3]
  have q1:=q0.alloc q0.size (.cells #[.int .i64 f0,.int .i64 f1,.int .i64 k,.int .i64 f3] 31)
  have q2:=q1.alloc q1.size (.cells #[.int .i64 o.a,.int .i64 o.b,.int .i64 o.c,.int .i64 o.d,.int .i64 o.e] 26)
  exact q2.alloc q2.size _
 have r5:Row W3 (w.heap.size+2) 31 [.int .i64 0,.int .i64 0,.int .i64 0,.int .i64 0]:=by
  have q:=heap_alloc_new ((w.alloc (.cells #[.int .i64 f0,.int .i64 f1,.int .i64 k,.int .i64 f3] 31)).alloc (.cells #[.int .i64 o.a,.int .i64 o.b,.int .i64 o.c,.int .i64 o.d,.int .i64 o.e] 26)) (.cells #[.int .i64 0,.int .i64 0,.int .i64 0,.int .i64 0] 31)
  rw[←hW3]at q
  simp only[hsz,Nat.add_assoc,Nat.reduceAdd]at q
  exact q
 have r0:Row W3 w.heap.size 31 [.int .i64 f0,.int .i64 f1,.int .i64 k,.int .i64 f3]:=by
  have q:Row (w.alloc (.cells #[.int .i64 f0,.int .i64 f1,.int .i64 k,.int .i64 f3] 31)) w.heap.size 31 [.int .i64 f0,.int .i64 f1,.int .i64 k,.int .i64 f3]:=heap_alloc_new _ _
  rw[hW3]
  have hlt:=q.lt
  have p0:=Below.refl (w.heap.size+1) (w.alloc (.cells #[.int .i64 f0,.int .i64 f1,.int .i64 k,.int .i64 f3] 31))
  have p1:=p0.alloc (by rw[hsz];exact Nat.le_refl _) (.cells #[.int .i64 o.a,.int .i64 o.b,.int .i64 o.c,.int .i64 o.d,.int .i64 o.e] 26)
  have p2:=p1.alloc (by simp only[hsz];omega) (.cells #[.int .i64 0,.int .i64 0,.int .i64 0,.int .i64 0] 31)
  exact q.below p2 (by omega)
 have r1:Row W3 (w.heap.size+1) 26 [.int .i64 o.a,.int .i64 o.b,.int .i64 o.c,.int .i64 o.d,.int .i64 o.e]:=by
  have q:Row ((w.alloc (.cells #[.int .i64 f0,.int .i64 f1,.int .i64 k,.int .i64 f3] 31)).alloc (.cells #[.int .i64 o.a,.int .i64 o.b,.int .i64 o.c,.int .i64 o.d,.int .i64 o.e] 26)) (w.alloc (.cells #[.int .i64 f0,.int .i64 f1,.int .i64 k,.int .i64 f3] 31)).heap.size 26 [.int .i64 o.a,.int .i64 o.b,.int .i64 o.c,.int .i64 o.d,.int .i64 o.e]:=heap_alloc_new _ _
  rw[hsz]at q
  rw[hW3]
  have p0:=Below.refl (w.heap.size+2) ((w.alloc (.cells #[.int .i64 f0,.int .i64 f1,.int .i64 k,.int .i64 f3] 31)).alloc (.cells #[.int .i64 o.a,.int .i64 o.b,.int .i64 o.c,.int .i64 o.d,.int .i64 o.e] 26))
  have p2:=p0.alloc (by simp only[hsz];omega) (.cells #[.int .i64 0,.int .i64 0,.int .i64 0,.int .i64 0] 31)
  exact q.below p2 (by omega)
 have HNM:Hid (∀w,Calls Tryz.prog 29 #[.agg #[.int .i64 o.a,.int .i64 o.b,.int .i64 o.c,.int .i64 o.d,.int .i64 o.e]] w fun e w'=>e=.returned (.int .i64 (nameN o:Nat))∧Below w.heap.size w w'):=fun w=>named_any o w
 have HFM:Hid (∀w,Calls Tryz.prog 30 #[.agg #[.int .i64 o.a,.int .i64 o.b,.int .i64 o.c,.int .i64 o.d,.int .i64 o.e]] w fun e w'=>e=.returned (.bool (decide (Fm o)))∧Below w.heap.size w w'):=fun w=>formed_any o w
 have HHC:Hid (∀w,Calls Tryz.prog 31 #[.agg #[.int .i64 f0,.int .i64 f1,.int .i64 k,.int .i64 f3],.agg #[.int .i64 o.a,.int .i64 o.b,.int .i64 o.c,.int .i64 o.d,.int .i64 o.e]] w fun e w'=>e=.returned (.bool (decide (inW k o)))∧Below w.heap.size w w'):=fun w=>hascols_any f0 f1 f3 k hk o w
 obtain⟨s0,hs0⟩:∃s0,s0=w.heap.size:=⟨_,rfl⟩
 rw[←hs0]at r0 r1 r5
 have HBB:=Lib.hid hb
 have HW3:=Lib.hid hW3
 have HCE:Hid (∀u,Below W3.heap.size W3 u→Row u (s0+2) 31 [.int .i64 0,.int .i64 0,.int .i64 0,.int .i64 0]∧Below w.heap.size w u∧(u.cell? ⟨s0,0,none⟩=some (.int .i64 f0)∧u.cell? ⟨s0,1,none⟩=some (.int .i64 f1)∧u.cell? ⟨s0,2,none⟩=some (.int .i64 k)∧u.cell? ⟨s0,3,none⟩=some (.int .i64 f3))∧u.cell? ⟨s0+1,0,none⟩=some (.int .i64 o.a)∧u.cell? ⟨s0+1,1,none⟩=some (.int .i64 o.b)∧u.cell? ⟨s0+1,2,none⟩=some (.int .i64 o.c)∧u.cell? ⟨s0+1,3,none⟩=some (.int .i64 o.d)∧u.cell? ⟨s0+1,4,none⟩=some (.int .i64 o.e)):=fun u q=>by
  have q0:=r0.below q r0.lt
  have q1:=r1.below q r1.lt
  exact⟨r5.below q r5.lt,hb.trans (q.mono hb.size),⟨q0.cell 0,q0.cell 1,q0.cell 2,q0.cell 3⟩,q1.cell 0,q1.cell 1,q1.cell 2,q1.cell 3,q1.cell 4⟩
 obtain⟨-,-,⟨a0,a1,a2,a3⟩,b0,b1,b2,b3,b4⟩:=HCE.out W3 (Below.refl _ _)
 replace hs0:=Lib.hid hs0
 have hnl:=nameN_le o
 by_cases hfm:Fm o
 all_goals(obtain⟨df,hdf⟩:∃df,df=decide (Fm o):=⟨_,rfl⟩)
 all_goals(obtain⟨di,hdi⟩:∃di,di=decide (inW k o):=⟨_,rfl⟩)
 all_goals(obtain⟨nn,hnn⟩:∃nn,nn=nameN o:=⟨_,rfl⟩)
 all_goals(rw[←hdf]at HFM;rw[←hdi]at HHC;rw[←hnn]at HNM hnl hno)
 all_goals(clear hW3 hsz hb r5 r0 r1 hk)
 case neg=>
  rw[decide_eq_false hfm]at hdf
  subst hdf
  clear hno hfm hdi hnn
  go_enter Tryz.func12,Tryz.ntmps12
  go_upto_region 1 with(fail)
  rw[←HW3.out,←hs0.out]
  clear HW3
  go_wp2_with fail
  refine(HNM.out _).mono ?_
  rintro e w4 ⟨rfl,hb4⟩
  have HB4:=Lib.hid hb4
  clear hb4 a0 a1 a2 a3 b0 b1 b2 b3 b4
  obtain⟨-,-,⟨a0,a1,a2,a3⟩,b0,b1,b2,b3,b4⟩:=HCE.out w4 HB4.out
  go_wp2_with fail
  refine(HFM.out _).mono ?_
  rintro e w5 ⟨rfl,hb5⟩
  have HBZ:=Lib.hid (HB4.out.trans (hb5.mono HB4.out.size))
  have HR5:=Lib.hid (HCE.out w5 HBZ.out).1
  have HB5:=Lib.hid (HCE.out w5 HBZ.out).2.1
  clear hb5 a0 a1 a2 a3 b0 b1 b2 b3 b4
  have z0:w5.cell? ⟨s0+2,0,none⟩=some (.int .i64 0):=HR5.out.cell 0
  have z1:w5.cell? ⟨s0+2,1,none⟩=some (.int .i64 0):=HR5.out.cell 1
  have z2:w5.cell? ⟨s0+2,2,none⟩=some (.int .i64 0):=HR5.out.cell 2
  have z3:w5.cell? ⟨s0+2,3,none⟩=some (.int .i64 0):=HR5.out.cell 3
  have f0:=HR5.out.free 0
  have f1:=HR5.out.free 1
  have f2:=HR5.out.free 2
  have f3:=HR5.out.free 3
  have hr9:=(((HR5.out.set 0 (.int .i64 0)).set 1 (.int .i64 0)).set 2 (.int .i64 0)).set 3 (.int .i64 0)
  have hle:w.heap.size≤s0+2:=by have:=hs0.out;omega
  have HB9:=Lib.hid ((((HB5.out.setCell (p:=⟨s0+2,0,none⟩) hle (.int .i64 0)).setCell (p:=⟨s0+2,1,none⟩) hle (.int .i64 0)).setCell (p:=⟨s0+2,2,none⟩) hle (.int .i64 0)).setCell (p:=⟨s0+2,3,none⟩) hle (.int .i64 0))
  have HR9:=Lib.hid hr9
  clear hr9 hle
  go_wp2
  have r0:=HR9.out.cell 0
  have r1:=HR9.out.cell 1
  have r2:=HR9.out.cell 2
  have r3:=HR9.out.cell 3
  simp only[List.set_cons_zero,List.set_cons_succ,List.getElem?_cons_zero,List.getElem?_cons_succ]at r0 r1 r2 r3
  refine bodyPost_ret (v:=.tuple #[.agg #[.int .i64 0,.int .i64 0,.int .i64 0,.int .i64 0],.int .i64 1]) (by simp[results,Tryz.results12,go_sem,r0,r1,r2,r3]) rfl ?_
  exact⟨rfl,HB9.out⟩
 case pos=>
  rw[decide_eq_true hfm]at hdf
  subst hdf
  by_cases hn0:nn=0
  case pos=>
   subst hn0
   have hm0:((0:Int)==0)=true:=rfl
   clear hno hfm hdi hnn
   go_enter Tryz.func12,Tryz.ntmps12
   go_upto_region 1 with(fail)
   rw[←HW3.out,←hs0.out]
   clear HW3
   go_wp2_with fail
   refine(HNM.out _).mono ?_
   rintro e w4 ⟨rfl,hb4⟩
   have HB4:=Lib.hid hb4
   clear hb4 a0 a1 a2 a3 b0 b1 b2 b3 b4
   obtain⟨-,-,⟨a0,a1,a2,a3⟩,b0,b1,b2,b3,b4⟩:=HCE.out w4 HB4.out
   go_wp2_with fail
   refine(HFM.out _).mono ?_
   rintro e w5 ⟨rfl,hb5⟩
   have HBZ:=Lib.hid (HB4.out.trans (hb5.mono HB4.out.size))
   have HR5:=Lib.hid (HCE.out w5 HBZ.out).1
   have HB5:=Lib.hid (HCE.out w5 HBZ.out).2.1
   clear hb5 a0 a1 a2 a3 b0 b1 b2 b3 b4
   have z0:w5.cell? ⟨s0+2,0,none⟩=some (.int .i64 0):=HR5.out.cell 0
   have z1:w5.cell? ⟨s0+2,1,none⟩=some (.int .i64 0):=HR5.out.cell 1
   have z2:w5.cell? ⟨s0+2,2,none⟩=some (.int .i64 0):=HR5.out.cell 2
   have z3:w5.cell? ⟨s0+2,3,none⟩=some (.int .i64 0):=HR5.out.cell 3
   have f0:=HR5.out.free 0
   have f1:=HR5.out.free 1
   have f2:=HR5.out.free 2
   have f3:=HR5.out.free 3
   have hr9:=(((HR5.out.set 0 (.int .i64 0)).set 1 (.int .i64 0)).set 2 (.int .i64 0)).set 3 (.int .i64 0)
   have hle:w.heap.size≤s0+2:=by have:=hs0.out;omega
   have HB9:=Lib.hid ((((HB5.out.setCell (p:=⟨s0+2,0,none⟩) hle (.int .i64 0)).setCell (p:=⟨s0+2,1,none⟩) hle (.int .i64 0)).setCell (p:=⟨s0+2,2,none⟩) hle (.int .i64 0)).setCell (p:=⟨s0+2,3,none⟩) hle (.int .i64 0))
   have HR9:=Lib.hid hr9
   clear hr9 hle
   go_wp2
   have r0:=HR9.out.cell 0
   have r1:=HR9.out.cell 1
   have r2:=HR9.out.cell 2
   have r3:=HR9.out.cell 3
   simp only[List.set_cons_zero,List.set_cons_succ,List.getElem?_cons_zero,List.getElem?_cons_succ]at r0 r1 r2 r3
   refine bodyPost_ret (v:=.tuple #[.agg #[.int .i64 0,.int .i64 0,.int .i64 0,.int .i64 0],.int .i64 1]) (by simp[results,Tryz.results12,go_sem,r0,r1,r2,r3]) rfl ?_
   exact⟨rfl,HB9.out⟩
  case neg=>
   have hin:¬inW k o:=fun h=>hno ⟨hfm,hn0,h⟩
   rw[decide_eq_false hin]at hdi
   subst hdi
   have hnz:¬(nn:Int)=0:=by omega
   clear hno hfm hn0 hin hnn
   go_enter Tryz.func12,Tryz.ntmps12
   go_upto_region 1 with(fail)
   rw[←HW3.out,←hs0.out]
   clear HW3
   go_wp2_with fail
   refine(HNM.out _).mono ?_
   rintro e w4 ⟨rfl,hb4⟩
   have HB4:=Lib.hid hb4
   clear hb4 a0 a1 a2 a3 b0 b1 b2 b3 b4
   obtain⟨-,-,⟨a0,a1,a2,a3⟩,b0,b1,b2,b3,b4⟩:=HCE.out w4 HB4.out
   go_wp2_with fail
   refine(HFM.out _).mono ?_
   rintro e w5 ⟨rfl,hb5⟩
   have HBY:=Lib.hid (HB4.out.trans (hb5.mono HB4.out.size))
   clear hb5 a0 a1 a2 a3 b0 b1 b2 b3 b4
   obtain⟨-,-,⟨a0,a1,a2,a3⟩,b0,b1,b2,b3,b4⟩:=HCE.out w5 HBY.out
   go_wp2_with fail
   refine(HHC.out _).mono ?_
   rintro e w6 ⟨rfl,hb6⟩
   have HBZ:=Lib.hid (HBY.out.trans (hb6.mono HBY.out.size))
   have HR6:=Lib.hid (HCE.out w6 HBZ.out).1
   have HB6:=Lib.hid (HCE.out w6 HBZ.out).2.1
   clear hb6 a0 a1 a2 a3 b0 b1 b2 b3 b4
   have z0:w6.cell? ⟨s0+2,0,none⟩=some (.int .i64 0):=HR6.out.cell 0
   have z1:w6.cell? ⟨s0+2,1,none⟩=some (.int .i64 0):=HR6.out.cell 1
   have z2:w6.cell? ⟨s0+2,2,none⟩=some (.int .i64 0):=HR6.out.cell 2
   have z3:w6.cell? ⟨s0+2,3,none⟩=some (.int .i64 0):=HR6.out.cell 3
   have f0:=HR6.out.free 0
   have f1:=HR6.out.free 1
   have f2:=HR6.out.free 2
   have f3:=HR6.out.free 3
   have hr9:=(((HR6.out.set 0 (.int .i64 0)).set 1 (.int .i64 0)).set 2 (.int .i64 0)).set 3 (.int .i64 0)
   have hle:w.heap.size≤s0+2:=by have:=hs0.out;omega
   have HB9:=Lib.hid ((((HB6.out.setCell (p:=⟨s0+2,0,none⟩) hle (.int .i64 0)).setCell (p:=⟨s0+2,1,none⟩) hle (.int .i64 0)).setCell (p:=⟨s0+2,2,none⟩) hle (.int .i64 0)).setCell (p:=⟨s0+2,3,none⟩) hle (.int .i64 0))
   have HR9:=Lib.hid hr9
   clear hr9 hle
   go_wp2
   have r0:=HR9.out.cell 0
   have r1:=HR9.out.cell 1
   have r2:=HR9.out.cell 2
   have r3:=HR9.out.cell 3
   simp only[List.set_cons_zero,List.set_cons_succ,List.getElem?_cons_zero,List.getElem?_cons_succ]at r0 r1 r2 r3
   refine bodyPost_ret (v:=.tuple #[.agg #[.int .i64 0,.int .i64 0,.int .i64 0,.int .i64 0],.int .i64 1]) (by simp[results,Tryz.results12,go_sem,r0,r1,r2,r3]) rfl ?_
   exact⟨rfl,HB9.out⟩
theorem step_push_tup{w:World}{ops:Array Oper}{o:Oper}{a:Act}{K:Act→World→Prop}{Q:Exit→Act→World→Prop}{E:Prop}(hgd:o.guard=none)(sl x:Operand)
  (ho:o.op=.call {callee:=.builtin .append,args:=#[sl,x],argTypes:=#[22,22]}) {v:Value} {base n:Nat} {l:List Tup} (h:w.ownsRow base 56 5 v n (flatV l)) (hs:a.eval sl=v) (ad:Addr) (hx:a.eval x=.slice (some ad) 1 1) (t:Tup)
  (hsrc:∀j u,(tupC t)[j]?=some u→w.cell? (ad.add j)=some u) (hn:n≤1000000) (hbase:base≤w.heap.size)
  (hK:∀v' w',w'.ownsRow base 56 5 v' (n+1) (flatV (l++[t]))→Far (fun k=>v.ownBlock=some k) w w'→(v'.ownBlock=v.ownBlock∨v'.ownBlock=some w.heap.size)→K (a.put o.dst v') w'):
  if Region.wanted o (yielded ops a.tmps)=true then Oper.wp Tryz.prog o a w K Q else E:=by
 have hw:Region.wanted o (yielded ops a.tmps)=true:=by simp[Region.wanted,hgd]
 rw[if_pos hw]
 obtain⟨i0,hi0,hz0,hz,hzb⟩:=info_parts infoT
 obtain⟨v',w',hr,h2,h3,_,h5⟩:=run_append_own_at (P:=Tryz.prog) w base 22 o.type 56 i0 _ 5 40 Tryz.underlying22 hi0 hz0 hz hzb rfl (by decide) v n (flatV l) h ad 1 1 (tupC t) rfl hsrc (fun u hu=>by simp[tupC]at hu;rcases hu with rfl|rfl|rfl|rfl|rfl<;>rfl) (by unfold maxLen;omega) (by omega) hbase
 unfold Oper.wp execOp
 simp only[ho,resolve,invoke,builtin,Sem.run_bind,Sem.run_pure,Result.andThen_ok,List.map_toArray,List.map_cons,List.map_nil,hs,hx,hr]
 rw[←flatV_snoc]at h2
 exact hK v' w' h2 ((Far.refl _ w).grown h3 fun k hk=>.inl hk) h5
theorem rcutl_any(A:Option Addr)(n c:Nat)(l:List Tup)(o:Tup)(W:World)(h:ReadsT W W.heap.size A n l)(hn:n≤1000):
  Calls Tryz.prog 16 #[.slice A n c,.agg #[.int .i64 o.a,.int .i64 o.b,.int .i64 o.c,.int .i64 o.d,.int .i64 o.e]] W fun e w'=>∃v,e=.returned v∧RL W v (outL (cutC o) l n) w':=by
 obtain⟨W1,hW1⟩:∃W1,W1=W.alloc (.cells #[.int .i64 o.a,.int .i64 o.b,.int .i64 o.c,.int .i64 o.d,.int .i64 o.e] 34):=⟨_,rfl⟩
 have hb1:Below W.heap.size W W1:=by rw[hW1];exact(Below.refl _ _).alloc (Nat.le_refl _) _
 have r1:Row W1 W.heap.size 34 [.int .i64 o.a,.int .i64 o.b,.int .i64 o.c,.int .i64 o.d,.int .i64 o.e]:=by rw[hW1];exact heap_alloc_new _ _
 obtain⟨ST,hST⟩:∃ST:Value→List Tup→World→Prop,∀v out w,ST v out w↔RL W v out w∧Row w W.heap.size 34 [.int .i64 o.a,.int .i64 o.b,.int .i64 o.c,.int .i64 o.d,.int .i64 o.e]∧v.ownBlock≠some W.heap.size:=⟨_,fun _ _ _=>Iff.rfl⟩
 have HRD:Hid (∀v out w,ST v out w→ReadsT w w.heap.size A n l):=fun v out w q=>by have hb:=((hST _ _ _).1 q).1.1;exact(h.keep hb).mono hb.size
 have HLN:Hid (∀i,i≤n→(outL (cutC o) l i).length≤i):=fun i hi=>outL_len _ _ _
 have HSTP:Hid (∀(i:Nat) t,l[i]?=some t→outL (cutC o) l (i+1)=outL (cutC o) l i++[cutT o t]):=fun i t ht=>by
  rw[outL_step ht];rfl
 have HO0:Hid (outL (cutC o) l 0=[]):=rfl
 have HS0:Hid (ST (.slice none 0 0) [] W1):=(hST _ _ _).2 ⟨(RL.nil W).below hb1,r1,by simp[Value.ownBlock]⟩
 have HSB:Hid (∀v out w w',ST v out w→Below w.heap.size w w'→ST v out w'):=fun v out w w' q hb=>by
  have q:=(hST _ _ _).1 q
  exact(hST _ _ _).2 ⟨q.1.below hb,q.2.1.below hb q.2.1.lt,q.2.2⟩
 have HSR:Hid (∀v out w,ST v out w→RL W v out w):=fun v out w q=>((hST _ _ _).1 q).1
 have HSC:Hid (∀v out w,ST v out w→w.cell? ⟨W.heap.size,0,none⟩=some (.int .i64 o.a)∧w.cell? ⟨W.heap.size,1,none⟩=some (.int .i64 o.b)∧w.cell? ⟨W.heap.size,2,none⟩=some (.int .i64 o.c)∧w.cell? ⟨W.heap.size,3,none⟩=some (.int .i64 o.d)∧w.cell? ⟨W.heap.size,4,none⟩=some (.int .i64 o.e)):=fun v out w q=>by
  have q:=((hST _ _ _).1 q).2.1
  exact⟨q.cell 0,q.cell 1,q.cell 2,q.cell 3,q.cell 4⟩
 have HPU:Hid (∀v v' out t w w',ST v out w→w'.ownsRow W.heap.size 56 5 v' (out.length+1) (flatV (out++[t]))→Far (fun k=>v.ownBlock=some k) w w'→(v'.ownBlock=v.ownBlock∨v'.ownBlock=some w.heap.size)→ST v' (out++[t]) w'):=fun v v' out t w w' q hown hfar hv=>by
  have q:=(hST _ _ _).1 q
  have hlt:=q.2.1.lt
  refine(hST _ _ _).2 ⟨q.1.push hfar hown,hfar.row q.2.1 (fun e=>q.2.2 e),?_⟩
  rcases hv with hv|hv
  ·rw[hv];exact q.2.2
  ·rw[hv];intro e;injection e with e;omega
 have HRC:Hid (∀t w,Calls Tryz.prog 42 #[.agg #[.int .i64 t.a,.int .i64 t.b,.int .i64 t.c,.int .i64 t.d,.int .i64 t.e],.agg #[.int .i64 o.a,.int .i64 o.b,.int .i64 o.c,.int .i64 o.d,.int .i64 o.e]] w fun e w'=>e=.returned (.agg #[.int .i64 (cutT o t).a,.int .i64 (cutT o t).b,.int .i64 (cutT o t).c,.int .i64 (cutT o t).d,.int .i64 (cutT o t).e])∧Below w.heap.size w w'):=fun t w=>rcut_any o t w
 have HW1:=Lib.hid hW1
 generalize outL (cutC o) l=OL at*
 clear h hW1 hb1 r1 hST
 go_enter Tryz.func16,Tryz.ntmps16
 go_upto_region 1 with(fail)
 rw[←HW1.out]
 clear HW1
 go_wp2_with fail
 go_loopw [5,6] (fun lv iv wr=>∃i:Nat,i≤n∧iv=.int .i64 (i:Int)∧Hid (ST lv (OL i) wr)) (fun _ iv _=>n-(intOf iv).toNat)
 case atStart=>exact⟨0,Nat.zero_le _,rfl,by unfold Hid;rw[HO0.out];exact HS0.out⟩
 case round=>
  obtain⟨i,hi,rfl,HL⟩:=hrel
  by_cases hlt:i<n
  ·obtain⟨bb,off,tu,rfl,hbl,q0,q1,q2,q3,q4,_,htu⟩:=(HRD.out _ _ _ HL.out).at_ hlt
   have hi0:(0:Int)≤(i:Int):=by omega
   have hi1:(i:Int)<(n:Int):=by omega
   have g0:decide ((i:Int)<(n:Int))=true:=by simpa using hlt
   obtain⟨u,hu⟩:∃u,u=cutT o tu:=⟨_,rfl⟩
   have HC:=Lib.hid (HRC.out tu)
   have hst:=HSTP.out i tu htu.out
   rw[←hu]at hst HC
   have HS4:=Lib.hid hst
   have HN5:=Lib.hid (HLN.out i hi)
   clear hst hu
   have HSX:Hid (∀v out w,ST v out w→(w.cell? ⟨bb,off+i*5,none⟩=some (.int .i64 tu.a)∧w.cell? ⟨bb,off+i*5+1,none⟩=some (.int .i64 tu.b)∧w.cell? ⟨bb,off+i*5+2,none⟩=some (.int .i64 tu.c)∧w.cell? ⟨bb,off+i*5+3,none⟩=some (.int .i64 tu.d)∧w.cell? ⟨bb,off+i*5+4,none⟩=some (.int .i64 tu.e))∧w.cell? ⟨W.heap.size,0,none⟩=some (.int .i64 o.a)∧w.cell? ⟨W.heap.size,1,none⟩=some (.int .i64 o.b)∧w.cell? ⟨W.heap.size,2,none⟩=some (.int .i64 o.c)∧w.cell? ⟨W.heap.size,3,none⟩=some (.int .i64 o.d)∧w.cell? ⟨W.heap.size,4,none⟩=some (.int .i64 o.e)):=fun v out w q=>by
    obtain⟨h1,h2,h3⟩:=HRD.out v out w q
    obtain⟨b',off',hA',-,hc⟩:=h3 (by omega)
    injection hA' with hA'
    injection hA' with e1 e2
    subst e1;subst e2
    have hg:l.getD i tup0=tu:=by rw[List.getD_eq_getElem?_getD,htu.out];rfl
    have hc:=hc i hlt
    rw[hg]at hc
    exact⟨⟨hc 0 _ rfl,hc 1 _ rfl,hc 2 _ rfl,hc 3 _ rfl,hc 4 _ rfl⟩,HSC.out _ _ _ q⟩
   have HLD:=Lib.hid (HSB.out _ _ _ _ HL.out (below_drewN (Below.refl wr.heap.size wr) 1))
   rw[show wr.drewN 1=wr.drew from rfl]at HLD
   have s0:=HSX.out _ _ _ HLD.out
   clear q0 q1 q2 q3 q4
   go_wp2_with fail
   go_region_held3 (fun w=>(w.cell? ⟨bb,off+i*5,none⟩=some (.int .i64 tu.a)∧w.cell? ⟨bb,off+i*5+1,none⟩=some (.int .i64 tu.b)∧w.cell? ⟨bb,off+i*5+2,none⟩=some (.int .i64 tu.c)∧w.cell? ⟨bb,off+i*5+3,none⟩=some (.int .i64 tu.d)∧w.cell? ⟨bb,off+i*5+4,none⟩=some (.int .i64 tu.e))∧w.cell? ⟨W.heap.size,0,none⟩=some (.int .i64 o.a)∧w.cell? ⟨W.heap.size,1,none⟩=some (.int .i64 o.b)∧w.cell? ⟨W.heap.size,2,none⟩=some (.int .i64 o.c)∧w.cell? ⟨W.heap.size,3,none⟩=some (.int .i64 o.d)∧w.cell? ⟨W.heap.size,4,none⟩=some (.int .i64 o.e)) (first|with_reducible exact s0|with_reducible exact s1|with_reducible exact s2|with_reducible exact s3)
    (first
     |(go_at_call 42;(with_reducible refine(HC.out _).mono ?_);rintro e w3 ⟨rfl,hb3⟩;have k3:=HSB.out _ _ _ _ HLD.out hb3;have s1:=HSX.out _ _ _ k3;have k4:=HSB.out _ _ _ _ k3 ((Below.refl w3.heap.size w3).alloc (Nat.le_refl _) (.cells #[.int .i64 u.a,.int .i64 u.b,.int .i64 u.c,.int .i64 u.d,.int .i64 u.e] 56));have s2:=HSX.out _ _ _ k4;have hz3:W.heap.size≤w3.heap.size:=(HSR.out _ _ _ k3).1.size)
     |(refine step_push_tup rfl _ _ rfl (HSR.out _ _ _ k4).2 rfl ⟨w3.heap.size,0,none⟩ rfl u (fun j y hj=>by rw[←hj,addr_add0];exact(show Row _ _ 56 (tupC u)from heap_alloc_new w3 (.cells #[.int .i64 u.a,.int .i64 u.b,.int .i64 u.c,.int .i64 u.d,.int .i64 u.e] 56)).cell j) (by have:=HN5.out;omega) (HSR.out _ _ _ k4).1.size ?_;intro v9 W9 hown hfar hv9;have k9:=HPU.out _ v9 _ u _ W9 k4 hown hfar hv9;have s3:=HSX.out _ _ _ k9))
   rw[←HS4.out]at k9
   have HL9:=Lib.hid k9
   clear k9 s0 s1 s2 s3 k3 k4 hown hfar hv9 hb3 hz3
   go_wp2
   go_roundw
   case rel=>exact⟨i+1,by omega,by go_num,HL9.out⟩
   case measure=>simp[intOf];omega
  ·obtain rfl:i=n:=by omega
   have g0:decide ((i:Int)<(i:Int))=false:=by simp
   go_wp2
   go_ret
   exact⟨_,rfl,HSR.out _ _ _ HL.out⟩
end Go.Proofs.YtfpjmhnmpjdbiaaGreat
