/- What the laws stand on. -/
import Derived.Test.YtfpjmhnmpjdbiaaThrC
namespace Go.Proofs.Ytfpjmhnmpjdbiaa
set_option linter.unusedVariables false
set_option maxRecDepth 100000
set_option maxHeartbeats 8000000
open Go.ChangeShapes Go.WideShapes Go.ChangeAt Go.RowKit
open Go.Joins Go.Deep
open Go.ChangeShapes Go.WideShapes Go.ChangeAt Go.RowKit Go.Maps
open Go.ChangeMaps (setBlock heap_setBlock_same heap_setBlock_other)
structure SrcC (X:Cx) (fN:Nat) (vF:Value) {σ:Type} (P:σ→Prop) (Z:σ→List Asn) (O:σ→List Tup) (mu c:σ→Nat) (nz:Nat) (Ze:List Asn→Prop) (Out:List Tup) (Bad:Nat→Prop) (bd ct k:Nat):Prop where
 ent:∀args w,Sem.run Try.prog (callFunc fN args) w=.ok (.enter fN args) w
 len:∀s,(Z s).length=nz
 out:∀s,P s→(O s).length≤bd∧∀u∈O s,TupOk u∧fitsT k u=true
 cost:∀s,P s→c s≤ct
 zok:∀s,P s→Ze (Z s)
 next:∀s zz m W,P s→Wd X (Z s++zz) (m+c s) W→X.N+m+ct+1≤1000000→Calls Try.prog fN #[vF] W fun e w'=>
  (∃t s',e=.returned (.tuple #[tupV t,.bool true,.int .i64 0])∧P s'∧mu s'<mu s∧O s'=O s++[t]∧Wd X (Z s'++zz) (m+c s') w')∨
  (∃z',e=.returned (.tuple #[tupV tup0,.bool false,.int .i64 0])∧O s=Out∧z'.length=nz∧Ze z'∧Wd X (z'++zz) (m+ct) w')∨
  (∃(er:Nat) (z':List Asn),e=.returned (.tuple #[tupV tup0,.bool false,.int .i64 er])∧0<er∧(Bad er∨er=6∧¬X.cm)∧z'.length=nz∧Ze z'∧Wd X (z'++zz) (m+ct+1) w')
structure KP where
 X:Cx
 nz:Nat
 Ze:List Asn→Prop
 Out:List Tup
 Bad:Nat→Prop
 bd:Nat
 ct:Nat
 m:Nat
 x:Nat
 t:Wt
 R:Nat
structure KP.Ok (P:KP):Prop where
 ok:WtOk P.t P.X.sz
 bd:P.t.bound=P.bd
 nil:P.t.l=[]
 n:P.X.N+P.m+P.ct+P.bd+2≤1000000
def KP.tl(P:KP)(l:List Tup):Wt:={P.t with l:=l}
def KP.Z(P:KP)(z:List Asn)(cs:List Value)(a:Asn):List Asn:=z++[rowO P.R 29 cs,a]
def KP.Why(P:KP)(er:Nat):Prop:=P.Bad er∨er=6∧¬P.X.cm
def KP.J{σ:Type}(P:KP)(Q:σ→Prop)(Z:σ→List Asn)(O:σ→List Tup)(mu c:σ→Nat)(n:Nat)(W:World):Prop:=
 ∃s,Q s∧mu s=n∧Wd P.X (P.Z (Z s) Z4 (wrO P.X.p P.x (P.tl (O s)) P.X.sz)) (P.m+(O s).length/P.t.h+c s) W
def KP.Jm{σ:Type}(P:KP)(Q:σ→Prop)(Z:σ→List Asn)(O:σ→List Tup)(mu c:σ→Nat)(t:Tup)(n:Nat)(W:World):Prop:=
 ∃s l,Q s∧mu s=n∧O s=l++[t]∧Wd P.X (P.Z (Z s) Z4 (wrO P.X.p P.x (P.tl l) P.X.sz)) (P.m+l.length/P.t.h+c s) W
def KP.Fit(P:KP):Prop:=P.Out.length≤P.bd∧∀u∈P.Out,TupOk u∧fitsT P.t.k u=true
def KP.E(P:KP)(W:World):Prop:=∃z,z.length=P.nz∧P.Ze z∧P.Fit∧Wd P.X (P.Z z Z4 (wrO P.X.p P.x (P.tl P.Out) P.X.sz)) (P.m+P.Out.length/P.t.h+P.ct) W
def KP.Er(P:KP)(cs:List Value)(er:Nat)(W:World):Prop:=∃z a l,z.length=P.nz∧P.Ze z∧P.Why er∧l.length≤P.bd∧(a=wrO P.X.p P.x (P.tl l) P.X.sz∨a=wsO P.X.p P.x (P.tl l))∧Wd P.X (P.Z z cs a) (P.m+P.ct+P.bd+2) W
def KP.N(P:KP)(cs:List Value)(er:Nat)(W:World):Prop:=∃z l,z.length=P.nz∧P.Ze z∧P.Why er∧Wd P.X (P.Z z cs (wsO P.X.p P.x (P.tl l))) (P.m+P.ct+P.bd+2) W
def KP.C(P:KP)(cs:List Value)(W:World):Prop:=∃z,z.length=P.nz∧P.Ze z∧P.Fit∧Wd P.X (P.Z z cs (wfO P.X.p P.x (P.tl P.Out) P.X.sz)) (P.m+blocksN P.t.h P.Out.length+P.ct) W
section
variable {P : KP} {W W' : World} {z : List Asn} {cs cs' : List Value} {a b : Asn} {er : Nat} {l : List Tup}
theorem KP.atW(P:KP)(hz:z.length=P.nz)(cs:List Value)(a:Asn):(P.Z z cs a)[P.nz+1]?=some a:=by rw[←hz];simp[KP.Z]
theorem KP.setW(P:KP)(hz:z.length=P.nz)(cs:List Value)(a b:Asn):(P.Z z cs a).set (P.nz+1) b=P.Z z cs b:=by rw[←hz];simp[KP.Z]
theorem KP.atR(P:KP)(hz:z.length=P.nz)(cs:List Value)(a:Asn):(P.Z z cs a)[P.nz]?=some (rowO P.R 29 cs):=by rw[←hz];simp[KP.Z]
theorem KP.setR(P:KP)(hz:z.length=P.nz)(cs cs':List Value)(a:Asn):(P.Z z cs a).set P.nz (rowO P.R 29 cs')=P.Z z cs' a:=by rw[←hz];simp[KP.Z]
theorem KP.tlOk(hP:P.Ok)(hl:l.length≤P.bd):WtOk (P.tl l) P.X.sz:=
 ⟨hP.ok.k,hP.ok.h,hP.ok.sz,⟨hP.ok.bound.1,by show l.length≤P.t.bound;rw[hP.bd];exact hl⟩,hP.ok.blocks,hP.ok.first⟩
theorem KP.store4{M:Nat}(hz:z.length=P.nz)(h:Wd P.X (P.Z z cs a) M W)(hcs:cs.length=4)(x1 x2 x3 x4:Value):Wd P.X (P.Z z [x1,x2,x3,x4] a) M ((((W.setCell ⟨P.R,0,none⟩ x1).setCell ⟨P.R,1,none⟩ x2).setCell ⟨P.R,2,none⟩ x3).setCell ⟨P.R,3,none⟩ x4):=by
 have h1:=Wd.store h (P.atR hz _ _) (by decide) 0 x1
 rw[P.setR hz]at h1
 have h2:=h1.store (P.atR hz _ _) (by decide) 1 x2
 rw[P.setR hz]at h2
 have h3:=h2.store (P.atR hz _ _) (by decide) 2 x3
 rw[P.setR hz]at h3
 have h4:=h3.store (P.atR hz _ _) (by decide) 3 x4
 rw[P.setR hz]at h4
 match cs,hcs with
 |[c1,c2,c3,c4],_=>exact h4
theorem div_next(n h:Nat):(n+1)/h=n/h+((n+1)/h-n/h):=by
 have:=Nat.div_le_div_right (c:=h) (show n≤n+1 by omega)
 omega
theorem KP.tell{σ:Type}{fN k:Nat}{vF:Value}{Q:σ→Prop}{Z:σ→List Asn}{O:σ→List Tup}{mu c:σ→Nat}(hP:P.Ok)(hk:P.t.k=k)(hS:SrcC P.X fN vF Q Z O mu c P.nz P.Ze P.Out P.Bad P.bd P.ct k):
  TellC fN vF (P.J Q Z O mu c) (P.Jm Q Z O mu c) P.E (P.Er Z4):=by
 rintro n w ⟨s,hs,hmu,hw⟩
 have hd1:=Nat.div_le_self (O s).length P.t.h
 have hd2:=(hS.out s hs).1
 have hn:=hP.n
 refine(hS.next s _ (P.m+(O s).length/P.t.h) w hs hw (by omega)).mono ?_
 rintro e w' (⟨t,s',he,h1,h2,h3,h4⟩|⟨z',he,h1,h2,h3,h4⟩|⟨er,z',he,h0,h1,h2,h3,h4⟩)
 ·exact .inl ⟨t,mu s',he,by omega,s',O s,h1,rfl,h3,h4⟩
 ·have hof:=(hS.out s hs).2
  rw[h1]at h4 hd2 hof
  exact .inr (.inl ⟨he,z',h2,h3,⟨hd2,by rw[hk];exact hof⟩,h4⟩)
 ·exact .inr (.inr ⟨er,he,h0,z',_,O s,h2,h3,h1,hd2,.inl rfl,h4.mono (by omega) (by omega)⟩)
theorem KP.take{σ:Type}{fN k:Nat}{vF:Value}{Q:σ→Prop}{Z:σ→List Asn}{O:σ→List Tup}{mu c:σ→Nat}(hP:P.Ok)(hk:P.t.k=k)(hS:SrcC P.X fN vF Q Z O mu c P.nz P.Ze P.Out P.Bad P.bd P.ct k):
  TakeC 36 (.pointer (some ⟨P.x,0,none⟩)) (P.J Q Z O mu c) (P.Jm Q Z O mu c) (P.Er Z4):=by
 rintro t n w ⟨s,l,hs,hmu,ho,hw⟩
 obtain⟨ho1,ho2⟩:=hS.out s hs
 have hcs:=hS.cost s hs
 rw[ho]at ho1 ho2
 have hll:l.length+1≤P.bd:=by simpa using ho1
 have hn:=hP.n
 have hd1:=Nat.div_le_self l.length P.t.h
 have hd2:=Nat.div_le_self (l.length+1) P.t.h
 refine(wd_put hw (P.atW (hS.len s) _ _) (KP.tlOk hP (by omega)) (by omega) (tu:=t) (by show fitsT P.t.k t=true;rw[hk];exact(ho2 t (by simp)).2) (by show l.length<P.t.bound;rw[hP.bd];omega)).mono ?_
 rintro e w' (⟨he,hw2⟩|⟨he,hno,hw2⟩)
 ·refine .inl ⟨he,s,hs,hmu,?_⟩
  rw[P.setW (hS.len s)]at hw2
  rw[ho]
  have e1:(l++[t]).length=l.length+1:=by simp
  rw[e1]
  have hdm:=div_next l.length P.t.h
  rw[show P.m+(l.length+1)/P.t.h+c s=P.m+l.length/P.t.h+c s+((l.length+1)/P.t.h-l.length/P.t.h)by omega]
  exact hw2
 ·refine .inr ⟨6,he,by omega,Z s,_,l++[t],hS.len s,hS.zok s hs,.inr ⟨rfl,hno⟩,by simpa using hll,.inr rfl,?_⟩
  rw[P.setW (hS.len s)]at hw2
  exact hw2.mono (by omega) (by omega)
theorem KP.close(hP:P.Ok)(h:P.E W):
  Calls Try.prog 37 #[.pointer (some ⟨P.x,0,none⟩)] W fun e w'=>(e=.returned (.tuple #[.agg #[.int .i64 (firstOf (P.tl P.Out):Nat),.int .i64 (blocksN P.t.h P.Out.length:Nat),.int .i64 (P.t.k:Nat),.int .i64 (P.Out.length:Nat)],.int .i64 0])∧P.C Z4 w')∨(e=.returned (.tuple #[.agg #[.int .i64 0,.int .i64 0,.int .i64 0,.int .i64 0],.int .i64 6])∧P.N Z4 6 w'):=by
 obtain⟨z,hz,hze,hfit,hw⟩:=h
 have hle:=hfit.1
 have hn:=hP.n
 have hd1:=Nat.div_le_self P.Out.length P.t.h
 refine(wd_close hw (P.atW hz _ _) (KP.tlOk hP hle) (by omega)).mono ?_
 rintro e w' (⟨he,hw2⟩|⟨he,hno,hw2⟩)
 ·refine .inl ⟨he,z,hz,hze,hfit,?_⟩
  rw[P.setW hz]at hw2
  have hb:P.Out.length/P.t.h≤blocksN P.t.h P.Out.length:=by unfold blocksN;split<;>omega
  rw[show P.m+blocksN P.t.h P.Out.length+P.ct=P.m+P.Out.length/P.t.h+P.ct+(blocksN P.t.h P.Out.length-P.Out.length/P.t.h)by omega]
  exact hw2
 ·refine .inr ⟨he,z,P.Out,hz,hze,.inr ⟨rfl,hno⟩,?_⟩
  rw[P.setW hz]at hw2
  exact hw2.mono (by omega) (by omega)
theorem KP.drop(u:FrameMode)(hP:P.Ok)(h:P.Er cs er W):
  CallsD Try.prog 35 #[.pointer (some ⟨P.x,0,none⟩)] u W fun e u' w'=>u'=u∧(e=.returned (.tuple #[])∧P.N cs er w'):=by
 obtain⟨z,a,l,hz,hze,hwhy,hl,rfl|rfl,hw⟩:=h
 ·refine(wd_drop hw (P.atW hz _ _) (KP.tlOk hP hl) u).mono ?_
  rintro e u' w' ⟨h1,h2,hw2⟩
  rw[P.setW hz]at hw2
  exact⟨h1,h2,z,l,hz,hze,hwhy,hw2⟩
 ·refine(wd_drop_shut (hw.at_ (P.atW hz _ _)) u).mono ?_
  rintro e u' w' ⟨h1,h2,rfl⟩
  exact⟨h1,h2,z,l,hz,hze,hwhy,hw⟩
theorem KP.N.drop(u:FrameMode)(h:P.N cs er W):
  CallsD Try.prog 35 #[.pointer (some ⟨P.x,0,none⟩)] u W fun e u' w'=>u'=u∧(e=.returned (.tuple #[])∧w'=W):=by
 obtain⟨z,l,hz,_,_,hw⟩:=h
 exact wd_drop_shut (hw.at_ (P.atW hz _ _)) u
theorem KP.C.drop(u:FrameMode)(h:P.C cs W):
  CallsD Try.prog 35 #[.pointer (some ⟨P.x,0,none⟩)] u W fun e u' w'=>u'=u∧(e=.returned (.tuple #[])∧w'=W):=by
 obtain⟨z,hz,_,_,hw⟩:=h
 exact wd_drop_shut (hw.at_ (P.atW hz _ _)) u
theorem KP.Er.store(h:P.Er cs er W)(hcs:cs.length=4)(x1 x2 x3 x4:Value):P.Er [x1,x2,x3,x4] er ((((W.setCell ⟨P.R,0,none⟩ x1).setCell ⟨P.R,1,none⟩ x2).setCell ⟨P.R,2,none⟩ x3).setCell ⟨P.R,3,none⟩ x4):=by
 obtain⟨z,a,l,hz,h1,h2,h3,h4,hw⟩:=h
 exact⟨z,a,l,hz,h1,h2,h3,h4,KP.store4 hz hw hcs x1 x2 x3 x4⟩
theorem KP.N.store(h:P.N cs er W)(hcs:cs.length=4)(x1 x2 x3 x4:Value):P.N [x1,x2,x3,x4] er ((((W.setCell ⟨P.R,0,none⟩ x1).setCell ⟨P.R,1,none⟩ x2).setCell ⟨P.R,2,none⟩ x3).setCell ⟨P.R,3,none⟩ x4):=by
 obtain⟨z,l,hz,h1,h2,hw⟩:=h
 exact⟨z,l,hz,h1,h2,KP.store4 hz hw hcs x1 x2 x3 x4⟩
theorem KP.C.store(h:P.C cs W)(hcs:cs.length=4)(x1 x2 x3 x4:Value):P.C [x1,x2,x3,x4] ((((W.setCell ⟨P.R,0,none⟩ x1).setCell ⟨P.R,1,none⟩ x2).setCell ⟨P.R,2,none⟩ x3).setCell ⟨P.R,3,none⟩ x4):=by
 obtain⟨z,hz,h1,h2,hw⟩:=h
 exact⟨z,hz,h1,h2,KP.store4 hz hw hcs x1 x2 x3 x4⟩
theorem KP.Er.row(h:P.Er cs er W):Row W P.R 29 cs:=by
 obtain⟨z,a,l,hz,h1,h2,h3,h4,hw⟩:=h
 exact hw.row (P.atR hz _ _)
theorem KP.N.row(h:P.N cs er W):Row W P.R 29 cs:=by
 obtain⟨z,l,hz,h1,h2,hw⟩:=h
 exact hw.row (P.atR hz _ _)
theorem KP.C.row(h:P.C cs W):Row W P.R 29 cs:=by
 obtain⟨z,hz,h1,h2,hw⟩:=h
 exact hw.row (P.atR hz _ _)
theorem KP.N.fin(h:P.N cs er W):∃z,z.length=P.nz∧P.Ze z∧P.Why er∧Wd P.X z (P.m+P.ct+P.bd+2) W:=by
 obtain⟨z,l,hz,h1,h2,hw⟩:=h
 refine⟨z,hz,h1,h2,?_⟩
 have h3:Wd P.X (z++[rowO P.R 29 cs,wsO P.X.p P.x (P.tl l)]++[]) (P.m+P.ct+P.bd+2) W:=by rw[List.append_nil];exact hw
 have h4:=Wd.cuts _ (fun q hq=>by simp at hq;rcases hq with rfl|rfl<;>exact⟨rfl,rfl⟩) h3
 rwa [List.append_nil]at h4
theorem KP.C.fin(h:P.C cs W):∃z,z.length=P.nz∧P.Ze z∧P.Fit∧Wd P.X (z++[fiO (firstOf (P.tl P.Out)) (blocksN P.t.h P.Out.length) P.t.k P.t.h P.Out P.X.sz]) (P.m+blocksN P.t.h P.Out.length+P.ct) W:=by
 obtain⟨z,hz,h1,hf,hw⟩:=h
 refine⟨z,hz,h1,hf,?_⟩
 have h2:=wf_fi hw (P.atW hz _ _)
 rw[P.setW hz]at h2
 have h3:Wd P.X (z++rowO P.R 29 cs::[fiO (firstOf (P.tl P.Out)) (blocksN P.t.h P.Out.length) P.t.k P.t.h P.Out P.X.sz]) (P.m+blocksN P.t.h P.Out.length+P.ct) W:=h2
 exact h3.cut rfl rfl
end
def LayRes(X:Cx)(nz:Nat)(Ze:List Asn→Prop)(Out:List Tup)(Bad:Nat→Prop)(z0:List Asn)(m ct bd k:Nat)(e:Ending)(w':World):Prop:=
 (∃(F N:Nat) (z:List Asn),e=.returned (.tuple #[.agg #[.int .i64 F,.int .i64 N,.int .i64 k,.int .i64 (Out.length:Nat)],.int .i64 0])∧FOk F N k (holdsI X.sz k) Out X.sz∧z.length=nz∧Ze z∧Wd X (z++[fiO F N k (holdsI X.sz k) Out X.sz]) (m+N+ct) w')∨
 (∃(er:Nat) (z:List Asn),e=.returned (.tuple #[.agg #[.int .i64 0,.int .i64 0,.int .i64 0,.int .i64 0],.int .i64 er])∧0<er∧((Bad er∨er=6∧¬X.cm)∨er=5∧∀q,¬Rm X z0 q (blocksN (holdsI X.sz k) bd))∧z.length=nz∧Ze z∧Wd X z (m+ct+bd+2) w')
section
variable {X : Cx} {m : Nat} {W : World}
theorem wd_jlay{σ:Type}{fN k nz bd ct nr rb cr:Nat}{vF:Value}{Q:σ→Prop}{Z:σ→List Asn}{O:σ→List Tup}{mu c:σ→Nat}{Ze:List Asn→Prop}{Out:List Tup}{Bad:Nat→Prop}{s0:σ}
  (hS:SrcC X fN vF Q Z O mu c nz Ze Out Bad bd ct k) (hs0:Q s0) (ho0:O s0=[]) (hc0:c s0=0) (h:Wd X (Z s0) m W) (hhol:0<holdsI X.sz k) (hbd:bd≤100000) (hroom:X.sz+sumN Asn.gw (Z s0)≤X.rm) (hn:X.N+m+ct+bd+2≤1000000)
  (hnr:0<nr∧nr≤10) (hrb:rb<W.heap.size) (hcl:W.cell? ⟨rb,3,none⟩=some (.int .i64 bd)) (hrd:ReadF (Z s0) W rb nr):
  Calls Try.prog 39 #[.pointer (some ⟨X.p.w,0,none⟩),.int .i64 k,.func (.func fN) #[vF] #[],.slice (some ⟨rb,0,none⟩) nr cr] W (LayRes X nz Ze Out Bad (Z s0) m ct bd k):=by
 have hb0:Below W.heap.size W (W.alloc (.cells #[.int .i64 0,.int .i64 0,.int .i64 0,.int .i64 0] 29)):=(Below.refl _ _).alloc (Nat.le_refl _) _
 have hr0:Row (W.alloc (.cells #[.int .i64 0,.int .i64 0,.int .i64 0,.int .i64 0] 29)) W.heap.size 29 Z4:=heap_alloc_new _ _
 have h0:=h.new hb0 hr0 (Nat.le_refl _)
 have hgw:sumN Asn.gw (Z s0++[rowO W.heap.size 29 Z4])=sumN Asn.gw (Z s0):=sumN_snoc _ _ _
 have hrd1:ReadF (Z s0++[rowO W.heap.size 29 Z4]) (W.alloc (.cells #[.int .i64 0,.int .i64 0,.int .i64 0,.int .i64 0] 29)) rb nr:=fun i hi=>by
  obtain⟨f,n,k,c,⟨q0,q1,q2,q3⟩,h1,h2,h3⟩:=hrd i hi
  refine⟨f,n,k,c,⟨(hb0.cell hrb).trans q0,(hb0.cell hrb).trans q1,(hb0.cell hrb).trans q2,(hb0.cell hrb).trans q3⟩,h1,h2,h3.imp_right ?_⟩
  rintro⟨j,a,hj,ha⟩
  exact⟨j,a,snoc_old hj,ha⟩
 have HWR:=Lib.hid (wd_jwrite (cr:=cr) h0 hhol hbd (by rw[hgw];exact hroom) hnr (by have:=hb0.size;omega) ((hb0.cell hrb).trans hcl) hrd1)
 have hNO:∀(w':World),(∀q,¬Rm X (Z s0++[rowO W.heap.size 29 Z4]) q (blocksN (holdsI X.sz k) bd))→Wd X (Z s0++[rowO W.heap.size 29 Z4]) m w'→∀q,¬Rm X (Z s0) q (blocksN (holdsI X.sz k) bd):=fun w' hno _ q hq=>
  hno q (rm_bare hq fun a ha=>by simp at ha;subst ha;exact⟨rfl,rfl⟩)
 generalize hPO:LayRes X nz Ze Out Bad (Z s0) m ct bd k=POST at*
 have HNF:Hid (∀W':World,(∀q,¬Rm X (Z s0++[rowO W.heap.size 29 Z4]) q (blocksN (holdsI X.sz k) bd))→Wd X (Z s0++[rowO W.heap.size 29 Z4]) m W'→∃P:World→Prop,P W'∧(∀w,P w→Row w W.heap.size 29 Z4)∧(∀w,P w→P ((((w.setCell ⟨W.heap.size,0,none⟩ (.int .i64 0)).setCell ⟨W.heap.size,1,none⟩ (.int .i64 0)).setCell ⟨W.heap.size,2,none⟩ (.int .i64 0)).setCell ⟨W.heap.size,3,none⟩ (.int .i64 0)))∧∀w,P w→POST (.returned (.tuple #[.agg #[.int .i64 0,.int .i64 0,.int .i64 0,.int .i64 0],.int .i64 5])) w):=fun W' hno hw=>by
  have ha:(Z s0++[rowO W.heap.size 29 Z4])[(Z s0).length]?=some (rowO W.heap.size 29 Z4):=by simp
  have hse:∀cs,(Z s0++[rowO W.heap.size 29 cs]).set (Z s0).length (rowO W.heap.size 29 Z4)=Z s0++[rowO W.heap.size 29 Z4]:=fun cs=>by simp
  refine⟨fun w=>Wd X (Z s0++[rowO W.heap.size 29 Z4]) m w,hw,fun w h1=>h1.row ha,fun w h1=>?_,fun w h1=>?_⟩
  ·have k1:=h1.store ha (by decide) 0 (.int .i64 0)
   have k2:=k1.store (set_at _ ha _) (by decide) 1 (.int .i64 0)
   have k3:=k2.store (set_at _ (set_at _ ha _) _) (by decide) 2 (.int .i64 0)
   have k4:=k3.store (set_at _ (set_at _ (set_at _ ha _) _) _) (by decide) 3 (.int .i64 0)
   simpa [Z4]using k4
  ·rw[←hPO]
   refine .inr ⟨5,Z s0,rfl,by omega,.inr ⟨rfl,hNO w hno h1⟩,hS.len s0,hS.zok s0 hs0,?_⟩
   exact(h1.drop rfl rfl).mono (by omega) (by omega)
 have HINIT:Hid (∀x t W1,t.k=k→t.h=holdsI X.sz k→t.bound=bd→t.l=[]→WtOk t X.sz→Wd X (Z s0++[rowO W.heap.size 29 Z4]++[wrO X.p x t X.sz]) m W1→
   ∃(P:KP) (F N:Nat),P.R=W.heap.size∧P.Ok∧P.x=x∧
    Calls Try.prog 57 #[.func (.func fN) #[vF] #[],.func (.func 36) #[.pointer (some ⟨x,0,none⟩)] #[]] W1 (fun e w'=>(e=.returned (.int .i64 0)∧P.E w')∨(∃er:Nat,e=.returned (.int .i64 er)∧0<er∧P.Er Z4 er w'))∧
    (∀w,P.E w→Calls Try.prog 37 #[.pointer (some ⟨x,0,none⟩)] w fun e w'=>(e=.returned (.tuple #[.agg #[.int .i64 F,.int .i64 N,.int .i64 k,.int .i64 (Out.length:Nat)],.int .i64 0])∧P.C Z4 w')∨(e=.returned (.tuple #[.agg #[.int .i64 0,.int .i64 0,.int .i64 0,.int .i64 0],.int .i64 6])∧P.N Z4 6 w'))∧
    (∀cs w,P.C cs w→POST (.returned (.tuple #[.agg #[.int .i64 F,.int .i64 N,.int .i64 k,.int .i64 (Out.length:Nat)],.int .i64 0])) w)∧
    (∀cs er w,0<er→P.N cs er w→POST (.returned (.tuple #[.agg #[.int .i64 0,.int .i64 0,.int .i64 0,.int .i64 0],.int .i64 er])) w)):=fun x t W1 e1 e2 e3 e4 e5 hw=>by
  have hP:KP.Ok ⟨X,nz,Ze,Out,Bad,bd,ct,m,x,t,W.heap.size⟩:=⟨e5,e3,e4,hn⟩
  refine⟨⟨X,nz,Ze,Out,Bad,bd,ct,m,x,t,W.heap.size⟩,firstOf (KP.tl ⟨X,nz,Ze,Out,Bad,bd,ct,m,x,t,W.heap.size⟩ Out),blocksN t.h Out.length,rfl,hP,rfl,?_,fun w h1=>?_,fun cs w h1=>?_,fun cs er w her h1=>?_⟩
  ·refine jpour_any (J:=KP.J ⟨X,nz,Ze,Out,Bad,bd,ct,m,x,t,W.heap.size⟩ Q Z O mu c) (n:=mu s0) hS.ent (fun args w=>by kernel_rfl) (KP.tell hP e1 hS) (KP.take hP e1 hS) ?_ ?_ ?_ ?_
   ·rintro tu n w w' ⟨s,l,q1,q2,q3,q4⟩ hb
    exact⟨s,l,q1,q2,q3,q4.below hb⟩
   ·rintro w w' ⟨z,q1,q2,q3,q4⟩ hb
    exact⟨z,q1,q2,q3,q4.below hb⟩
   ·rintro er w w' ⟨z,a,l,q1,q2,q3,q4,q5,q6⟩ hb
    exact⟨z,a,l,q1,q2,q3,q4,q5,q6.below hb⟩
   ·refine⟨s0,hs0,rfl,?_⟩
    have et:(KP.tl ⟨X,nz,Ze,Out,Bad,bd,ct,m,x,t,W.heap.size⟩ (O s0))=t:=by unfold KP.tl;rw[ho0,←e4]
    rw[et,ho0,hc0]
    show Wd X (Z s0++[rowO W.heap.size 29 Z4,wrO X.p x t X.sz]) (m+0/t.h+0) W1
    rw[Nat.zero_div]
    simpa using hw
  ·have:=KP.close hP h1
   have e1':((⟨X,nz,Ze,Out,Bad,bd,ct,m,x,t,W.heap.size⟩:KP).t.k)=k:=e1
   rw[e1']at this
   exact this
  ·obtain⟨z,q1,q2,q3,q4⟩:=h1.fin
   have q3':Out.length≤bd∧∀u∈Out,TupOk u∧fitsT t.k u=true:=q3
   have q4':Wd X (z++[fiO (firstOf (KP.tl ⟨X,nz,Ze,Out,Bad,bd,ct,m,x,t,W.heap.size⟩ Out)) (blocksN t.h Out.length) t.k t.h Out X.sz]) (m+blocksN t.h Out.length+ct) w:=q4
   rw[←hPO]
   have hfo:firstOf (KP.tl ⟨X,nz,Ze,Out,Bad,bd,ct,m,x,t,W.heap.size⟩ Out)≤2000000:=by
    have:=e5.first
    unfold firstOf KP.tl
    split
    ·omega
    ·exact this
   generalize firstOf (KP.tl ⟨X,nz,Ze,Out,Bad,bd,ct,m,x,t,W.heap.size⟩ Out)=fo at*
   refine .inl ⟨fo,blocksN t.h Out.length,z,rfl,⟨by rw[←e1];exact e5.k,by have h9:=e5.h;rw[e2,e1]at h9;exact h9,rfl,by rw[e2],by omega,hfo,by rw[←e1];exact q3'.2⟩,q1,q2,?_⟩
   rw[e1]at q4'
   rw[e2]at q4'⊢
   exact q4'
  ·obtain⟨z,q1,q2,q3,q4⟩:=h1.fin
   rw[←hPO]
   exact .inr ⟨er,z,rfl,her,.inl q3,q1,q2,q4⟩
 clear hS hs0 ho0 hc0 h hhol hbd hroom hn hnr hrb hcl hrd hb0 hr0 h0 hgw hrd1 hNO
 replace hPO:=Lib.hid hPO
 go_enter_defers Try.func39,Try.ntmps39
 go_wp2_with fail
 refine HWR.out.mono ?_
 rintro e w1 (⟨rfl,hno,hw1⟩|⟨x,t,rfl,e1,e2,e3,e4,e5,hw1⟩)
 ·obtain⟨P,hp,hrow,hst,hfin⟩:=HNF.out w1 hno hw1
  have HP0:=Lib.hid hp
  have HRW:=Lib.hid hrow
  have HST:=Lib.hid hst
  have HFI:=Lib.hid hfin
  clear hp hrow hst hfin hno hw1 HNF HINIT HWR
  have HR0:=Lib.hid (HRW.out _ HP0.out)
  have z0:w1.cell? ⟨W.heap.size,0,none⟩=some (.int .i64 0):=HR0.out.cell 0
  have z1:w1.cell? ⟨W.heap.size,1,none⟩=some (.int .i64 0):=HR0.out.cell 1
  have z2:w1.cell? ⟨W.heap.size,2,none⟩=some (.int .i64 0):=HR0.out.cell 2
  have z3:w1.cell? ⟨W.heap.size,3,none⟩=some (.int .i64 0):=HR0.out.cell 3
  have f0:=HR0.out.free 0
  have f1:=HR0.out.free 1
  have f2:=HR0.out.free 2
  have f3:=HR0.out.free 3
  have HP9:=Lib.hid (HST.out _ HP0.out)
  have HR9:=Lib.hid (HRW.out _ HP9.out)
  go_wp2
  have r0:=HR9.out.cell 0
  have r1:=HR9.out.cell 1
  have r2:=HR9.out.cell 2
  have r3:=HR9.out.cell 3
  simp only[Z4,List.getElem?_cons_zero,List.getElem?_cons_succ]at r0 r1 r2 r3
  exact⟨.tuple #[.agg #[.int .i64 0,.int .i64 0,.int .i64 0,.int .i64 0],.int .i64 5],by simp[results,Try.results39,go_sem,r0,r1,r2,r3],HFI.out _ HP9.out⟩
 obtain⟨P,F,N,hR,hP,hx,hpour,hclose,hC,hN⟩:=HINIT.out x t w1 e1 e2 e3 e4 e5 hw1
 have HPOUR:=Lib.hid hpour
 have HCL:=Lib.hid hclose
 have HC:=Lib.hid hC
 have HN:=Lib.hid hN
 have HOK:=Lib.hid hP
 have HSTE:Hid (∀er w,P.Er Z4 er w→Row w W.heap.size 29 Z4∧P.Er Z4 er ((((w.setCell ⟨W.heap.size,0,none⟩ (.int .i64 0)).setCell ⟨W.heap.size,1,none⟩ (.int .i64 0)).setCell ⟨W.heap.size,2,none⟩ (.int .i64 0)).setCell ⟨W.heap.size,3,none⟩ (.int .i64 0))):=fun er w h1=>by
  have q1:=h1.row
  have q2:=h1.store rfl (.int .i64 0) (.int .i64 0) (.int .i64 0) (.int .i64 0)
  rw[hR]at q1 q2
  exact⟨q1,q2⟩
 have HSTN:Hid (∀er w,P.N Z4 er w→Row w W.heap.size 29 Z4∧P.N Z4 er ((((w.setCell ⟨W.heap.size,0,none⟩ (.int .i64 0)).setCell ⟨W.heap.size,1,none⟩ (.int .i64 0)).setCell ⟨W.heap.size,2,none⟩ (.int .i64 0)).setCell ⟨W.heap.size,3,none⟩ (.int .i64 0))):=fun er w h1=>by
  have q1:=h1.row
  have q2:=h1.store rfl (.int .i64 0) (.int .i64 0) (.int .i64 0) (.int .i64 0)
  rw[hR]at q1 q2
  exact⟨q1,q2⟩
 have HSTC:Hid (∀w x1 x2 x3 x4,P.C Z4 w→Row w W.heap.size 29 Z4∧P.C [x1,x2,x3,x4] ((((w.setCell ⟨W.heap.size,0,none⟩ x1).setCell ⟨W.heap.size,1,none⟩ x2).setCell ⟨W.heap.size,2,none⟩ x3).setCell ⟨W.heap.size,3,none⟩ x4)):=fun w x1 x2 x3 x4 h1=>by
  have q1:=h1.row
  have q2:=h1.store rfl x1 x2 x3 x4
  rw[hR]at q1 q2
  exact⟨q1,q2⟩
 have HRC:Hid (∀cs w,P.C cs w→Row w W.heap.size 29 cs):=fun cs w h1=>by have:=h1.row;rw[hR]at this;exact this
 have HRN:Hid (∀cs er w,P.N cs er w→Row w W.heap.size 29 cs):=fun cs er w h1=>by have:=h1.row;rw[hR]at this;exact this
 have HDE:Hid (∀u er w,P.Er Z4 er w→CallsD Try.prog 35 #[.pointer (some ⟨x,0,none⟩)] u w fun e u' w'=>u'=u∧(e=.returned (.tuple #[])∧P.N Z4 er w')):=fun u er w h1=>by have:=KP.drop u hP h1;rw[hx]at this;exact this
 have HDN:Hid (∀u er w,P.N Z4 er w→CallsD Try.prog 35 #[.pointer (some ⟨x,0,none⟩)] u w fun e u' w'=>u'=u∧(e=.returned (.tuple #[])∧w'=w)):=fun u er w h1=>by have:=KP.N.drop u h1;rw[hx]at this;exact this
 have HDC:Hid (∀u cs w,P.C cs w→CallsD Try.prog 35 #[.pointer (some ⟨x,0,none⟩)] u w fun e u' w'=>u'=u∧(e=.returned (.tuple #[])∧w'=w)):=fun u cs w h1=>by have:=KP.C.drop u h1;rw[hx]at this;exact this
 clear hpour hclose hC hN hP hx hR hw1 e1 e2 e3 e4 e5 HINIT HNF HWR
 generalize hol9:Out.length=ol at*
 go_wp2_with fail
 refine HPOUR.out.mono ?_
 rintro e w2 (⟨rfl,h2⟩|⟨er,rfl,hpos,h2⟩)
 ·have H2:=Lib.hid h2
  clear h2
  go_wp2_with fail
  refine(HCL.out _ H2.out).mono ?_
  rintro e w3 (⟨rfl,h3⟩|⟨rfl,h3⟩)
  ·obtain⟨hr3,h4⟩:=HSTC.out w3 (.int .i64 F) (.int .i64 N) (.int .i64 k) (.int .i64 ol) h3
   have HR3:=Lib.hid hr3
   have H4:=Lib.hid h4
   clear h3 hr3 h4
   have z0:w3.cell? ⟨W.heap.size,0,none⟩=some (.int .i64 0):=HR3.out.cell 0
   have z1:w3.cell? ⟨W.heap.size,1,none⟩=some (.int .i64 0):=HR3.out.cell 1
   have z2:w3.cell? ⟨W.heap.size,2,none⟩=some (.int .i64 0):=HR3.out.cell 2
   have z3:w3.cell? ⟨W.heap.size,3,none⟩=some (.int .i64 0):=HR3.out.cell 3
   have f0:=HR3.out.free 0
   have f1:=HR3.out.free 1
   have f2:=HR3.out.free 2
   have f3:=HR3.out.free 3
   go_wp2
   refine leaves_cons (f:=35) (args:=#[.pointer (some ⟨x,0,none⟩)]) (by simp) (by simp[go_sem]) ?_
   refine(HDC.out _ _ _ H4.out).mono ?_
   rintro e u' w'' ⟨rfl,rfl,rfl⟩
   have HR9:=Lib.hid (HRC.out _ _ H4.out)
   have r0:=HR9.out.cell 0
   have r1:=HR9.out.cell 1
   have r2:=HR9.out.cell 2
   have r3:=HR9.out.cell 3
   simp only[List.getElem?_cons_zero,List.getElem?_cons_succ]at r0 r1 r2 r3
   exact⟨.tuple #[.agg #[.int .i64 F,.int .i64 N,.int .i64 k,.int .i64 ol],.int .i64 0],by simp[results,Try.results39,go_sem,r0,r1,r2,r3],HC.out _ _ H4.out⟩
  ·obtain⟨hr3,h4⟩:=HSTN.out 6 w3 h3
   have HR3:=Lib.hid hr3
   have H4:=Lib.hid h4
   clear h3 hr3 h4
   have z0:w3.cell? ⟨W.heap.size,0,none⟩=some (.int .i64 0):=HR3.out.cell 0
   have z1:w3.cell? ⟨W.heap.size,1,none⟩=some (.int .i64 0):=HR3.out.cell 1
   have z2:w3.cell? ⟨W.heap.size,2,none⟩=some (.int .i64 0):=HR3.out.cell 2
   have z3:w3.cell? ⟨W.heap.size,3,none⟩=some (.int .i64 0):=HR3.out.cell 3
   have f0:=HR3.out.free 0
   have f1:=HR3.out.free 1
   have f2:=HR3.out.free 2
   have f3:=HR3.out.free 3
   go_wp2
   refine leaves_cons (f:=35) (args:=#[.pointer (some ⟨x,0,none⟩)]) (by simp) (by simp[go_sem]) ?_
   refine(HDN.out _ _ _ H4.out).mono ?_
   rintro e u' w'' ⟨rfl,rfl,rfl⟩
   have HR9:=Lib.hid (HRN.out _ _ _ H4.out)
   have r0:=HR9.out.cell 0
   have r1:=HR9.out.cell 1
   have r2:=HR9.out.cell 2
   have r3:=HR9.out.cell 3
   simp only[Z4,List.getElem?_cons_zero,List.getElem?_cons_succ]at r0 r1 r2 r3
   exact⟨.tuple #[.agg #[.int .i64 0,.int .i64 0,.int .i64 0,.int .i64 0],.int .i64 6],by simp[results,Try.results39,go_sem,r0,r1,r2,r3],HN.out _ 6 _ (by omega) H4.out⟩
 ·obtain⟨hr3,h4⟩:=HSTE.out er w2 h2
  have HR3:=Lib.hid hr3
  have H4:=Lib.hid h4
  have hne:¬(er:Int)=0:=by omega
  have HPO:=Lib.hid hpos
  clear h2 hr3 h4 hpos
  have z0:w2.cell? ⟨W.heap.size,0,none⟩=some (.int .i64 0):=HR3.out.cell 0
  have z1:w2.cell? ⟨W.heap.size,1,none⟩=some (.int .i64 0):=HR3.out.cell 1
  have z2:w2.cell? ⟨W.heap.size,2,none⟩=some (.int .i64 0):=HR3.out.cell 2
  have z3:w2.cell? ⟨W.heap.size,3,none⟩=some (.int .i64 0):=HR3.out.cell 3
  have f0:=HR3.out.free 0
  have f1:=HR3.out.free 1
  have f2:=HR3.out.free 2
  have f3:=HR3.out.free 3
  go_wp2
  refine leaves_cons (f:=35) (args:=#[.pointer (some ⟨x,0,none⟩)]) (by simp) (by simp[go_sem]) ?_
  refine(HDE.out _ _ _ H4.out).mono ?_
  rintro e u' w'' ⟨rfl,rfl,h5⟩
  have HR9:=Lib.hid (HRN.out _ _ _ h5)
  have r0:=HR9.out.cell 0
  have r1:=HR9.out.cell 1
  have r2:=HR9.out.cell 2
  have r3:=HR9.out.cell 3
  simp only[Z4,List.getElem?_cons_zero,List.getElem?_cons_succ]at r0 r1 r2 r3
  exact⟨.tuple #[.agg #[.int .i64 0,.int .i64 0,.int .i64 0,.int .i64 0],.int .i64 er],by simp[results,Try.results39,go_sem,r0,r1,r2,r3],HN.out _ er _ HPO.out h5⟩
end
def CP.Ze(P:CP)(z:List Asn):Prop:=∃i a,z=P.Z i a∧RdE P.X P.x P.r P.l a
theorem CP.src_{P:CP}{k:Nat}(hP:P.Ok)(hout:∀j t u,P.l[j]?=some t→P.chg j t=some u→TupOk u∧fitsT k u=true):
  SrcC P.X 40 (.agg P.vF.toArray) (fun i=>i≤P.l.length) (fun i=>P.Z i (P.rd i)) (outL P.chg P.l) (fun i=>P.l.length-i) (fun i=>blocksN P.r.h i) (P.np+1) P.Ze (outL P.chg P.l P.l.length) (fun _=>False) P.l.length (blocksN P.r.h P.l.length) k where
 ent:=fun args w=>by kernel_rfl
 len:=fun s=>CP.zlen hP _
 out:=fun s hs=>⟨Nat.le_trans (outL_len _ _ s) hs,fun u hu=>by
  obtain⟨j,t,h1,h2⟩:=outL_mem hu
  exact hout j t u h1 h2⟩
 cost:=fun s hs=>blocks_mono hP.rd.ok.h.1 hs
 zok:=fun s _=>⟨s,_,rfl,s,.inl rfl⟩
 next:=fun s zz m W hs hw hn=>by
  refine(cnext_any hP hw hs hn).mono ?_
  rintro e w' (⟨t,i',he,h1,h2,h3,h4⟩|⟨he,h1,h2⟩|⟨i',he,h1,h2⟩)
  ·exact .inl ⟨t,i',he,h2,by omega,h3,h4⟩
  ·exact .inr (.inl ⟨_,he,h1,CP.zlen hP _,⟨_,_,rfl,_,.inl rfl⟩,h2⟩)
  ·exact .inr (.inr ⟨6,_,he,by omega,.inr ⟨rfl,h1⟩,CP.zlen hP _,⟨_,_,rfl,_,.inr rfl⟩,h2⟩)
def ChgRes(X:Cx)(pre post:List Asn)(H:Nat→List Asn)(Out:List Tup)(m nb bd k:Nat)(e:Ending)(w':World):Prop:=
 (∃F N i:Nat,e=.returned (.tuple #[.agg #[.int .i64 F,.int .i64 N,.int .i64 k,.int .i64 (Out.length:Nat)],.int .i64 0])∧FOk F N k (holdsI X.sz k) Out X.sz∧Wd X (pre++H i++post++[fiO F N k (holdsI X.sz k) Out X.sz]) (m+N+nb) w')∨
 (∃er i:Nat,e=.returned (.tuple #[.agg #[.int .i64 0,.int .i64 0,.int .i64 0,.int .i64 0],.int .i64 er])∧0<er∧(er=6∧¬X.cm∨er=5∧∀q,¬Rm X (pre++H 0++post) q (blocksN (holdsI X.sz k) bd))∧Wd X (pre++H i++post) (m+nb+bd+2) w')
def chZ(Y:List Asn)(fb R:Nat)(fc cs:List Value)(a:Asn)(tail:List Asn):List Asn:=Y++[rowO fb 29 fc,rowO R 29 cs,a]++tail
section
variable {X : Cx} {Y tail : List Asn} {fb R M : Nat} {fc cs cs' : List Value} {a b : Asn} {W : World}
theorem chZ_R:(chZ Y fb R fc cs a tail)[Y.length+1]?=some (rowO R 29 cs):=by simp[chZ]
theorem chZ_F:(chZ Y fb R fc cs a tail)[Y.length]?=some (rowO fb 29 fc):=by simp[chZ]
theorem chZ_rd:(chZ Y fb R fc cs a tail)[Y.length+2]?=some a:=by simp[chZ]
theorem chZ_setR:(chZ Y fb R fc cs a tail).set (Y.length+1) (rowO R 29 cs')=chZ Y fb R fc cs' a tail:=by simp[chZ]
theorem chZ_setrd:(chZ Y fb R fc cs a tail).set (Y.length+2) b=chZ Y fb R fc cs b tail:=by simp[chZ]
theorem chZ_store(hcs:cs.length=4)(h:Wd X (chZ Y fb R fc cs a tail) M W)(x1 x2 x3 x4:Value):Wd X (chZ Y fb R fc [x1,x2,x3,x4] a tail) M ((((W.setCell ⟨R,0,none⟩ x1).setCell ⟨R,1,none⟩ x2).setCell ⟨R,2,none⟩ x3).setCell ⟨R,3,none⟩ x4):=by
 have h1:=Wd.store h chZ_R (by decide) 0 x1
 rw[chZ_setR]at h1
 have h2:=h1.store chZ_R (by decide) 1 x2
 rw[chZ_setR]at h2
 have h3:=h2.store chZ_R (by decide) 2 x3
 rw[chZ_setR]at h3
 have h4:=h3.store chZ_R (by decide) 3 x4
 rw[chZ_setR]at h4
 match cs,hcs with
 |[c1,c2,c3,c4],_=>exact h4
theorem chZ_cut(ha:a.gr=none∧a.ex.2=0)(h:Wd X (chZ Y fb R fc cs a tail) M W):Wd X (Y++tail) M W:=
 Wd.cuts _ (fun q hq=>by simp at hq;rcases hq with rfl|rfl|rfl<;>first|exact⟨rfl,rfl⟩|exact ha) h
end
section
variable {X : Cx} {m : Nat} {W : World}
theorem wd_change{pre post:List Asn}{H:Nat→List Asn}{nh fH first nb k hh count width:Nat}{caps:Array Value}{l:List Tup}{chg:Nat→Tup→Option Tup}
  (hH:HowC X pre fH caps l chg H nh) (h:Wd X (pre++H 0++post) m W) (hf:FOk first nb k hh l X.sz) (hmem:fiO first nb k hh l X.sz∈pre++post) (hc:l.length=count) (hwd:0<holdsI X.sz width)
  (hout:∀j t u,l[j]?=some t→chg j t=some u→TupOk u∧fitsT width u=true) (hroom:2*X.sz+sumN Asn.gw (pre++H 0++post)≤X.rm) (hn:X.N+m+nb+count+2≤1000000):
  Calls Try.prog 22 #[.pointer (some ⟨X.p.w,0,none⟩),.agg #[.int .i64 first,.int .i64 nb,.int .i64 k,.int .i64 count],.int .i64 width,.func (.func fH) #[] caps] W (ChgRes X pre post H (outL chg l count) m nb count width):=by
 obtain⟨W2,hW2⟩:∃W2,W2=(W.alloc (.cells #[.int .i64 first,.int .i64 nb,.int .i64 k,.int .i64 count] 29)).alloc (.cells #[.int .i64 0,.int .i64 0,.int .i64 0,.int .i64 0] 29):=⟨_,rfl⟩
 have hb1:Below W.heap.size W (W.alloc (.cells #[.int .i64 first,.int .i64 nb,.int .i64 k,.int .i64 count] 29)):=(Below.refl _ _).alloc (Nat.le_refl _) _
 have h1:=h.new hb1 (heap_alloc_new _ _:Row _ _ 29 [.int .i64 first,.int .i64 nb,.int .i64 k,.int .i64 count]) (Nat.le_refl _)
 have hb2:=(Below.refl (W.alloc (.cells #[.int .i64 first,.int .i64 nb,.int .i64 k,.int .i64 count] 29)).heap.size (W.alloc (.cells #[.int .i64 first,.int .i64 nb,.int .i64 k,.int .i64 count] 29))).alloc (Nat.le_refl _) (.cells #[.int .i64 0,.int .i64 0,.int .i64 0,.int .i64 0] 29)
 have h2:=h1.new hb2 (heap_alloc_new _ _:Row _ _ 29 Z4) (Nat.le_refl _)
 rw[←hW2]at h2
 rw[show (W.alloc (.cells #[.int .i64 first,.int .i64 nb,.int .i64 k,.int .i64 count] 29)).heap.size=W.heap.size+1 by simp]at h2
 obtain⟨fb,hfb⟩:∃fb,fb=W.heap.size:=⟨_,rfl⟩
 rw[←hfb]at h2
 obtain⟨fc,hfc⟩:∃fc:List Value,fc=[.int .i64 first,.int .i64 nb,.int .i64 k,.int .i64 count]:=⟨_,rfl⟩
 rw[←hfc]at h2
 have h2:Wd X (pre++H 0++(post++[rowO fb 29 fc,rowO (fb+1) 29 Z4])) m W2:=by simpa [List.append_assoc]using h2
 have hgw:sumN Asn.gw (pre++H 0++(post++[rowO fb 29 fc,rowO (fb+1) 29 Z4]))=sumN Asn.gw (pre++H 0++post):=by
  rw[←List.append_assoc,sumN_app,gw_bare [rowO fb 29 fc,rowO (fb+1) 29 Z4] (fun q hq=>by simp at hq;rcases hq with rfl|rfl<;>exact⟨rfl,rfl⟩)];omega
 have HRD:Hid (∀w,Below W2.heap.size W2 w→Calls Try.prog 28 #[.pointer (some ⟨X.p.w,0,none⟩),.agg #[.int .i64 first,.int .i64 nb,.int .i64 k,.int .i64 count]] w fun e w'=>∃x b g,e=.returned (.tuple #[.pointer (some ⟨x,0,none⟩),.int .i64 0])∧RtOk ⟨k,hh,first,nb,count,0,b,g⟩ X.sz∧Wd X (pre++H 0++(post++[rowO fb 29 fc,rowO (fb+1) 29 Z4])++[rdO X.p x ⟨k,hh,first,nb,count,0,b,g⟩ X.sz l]) m w'):=fun w hb=>
  wd_read (h2.below hb) first nb k hh count l hf.hol hf.hh.1 (by rw[hf.bn,hc]) (by rw[←hc];exact hf.len) hf.fst (by rw[hgw];omega)
 have HF2:Hid (Row W2 fb 29 fc):=h2.row (i:=(pre++H 0++post).length) (by rw[←List.append_assoc,List.getElem?_append_right (Nat.le_refl _),Nat.sub_self];rfl)
 have HINIT:Hid (∀x b g w0,RtOk ⟨k,hh,first,nb,count,0,b,g⟩ X.sz→Wd X (pre++H 0++(post++[rowO fb 29 fc,rowO (fb+1) 29 Z4])++[rdO X.p x ⟨k,hh,first,nb,count,0,b,g⟩ X.sz l]) m w0→
   ∃(A:World→Prop) (C:Nat→Nat→List Value→World→Prop) (N:Nat→List Value→World→Prop),A w0∧(∀w w',A w→Below w.heap.size w w'→A w')∧(∀w,A w→Row w fb 29 fc)∧
    (∀w rb,A w→Row w rb 29 fc→Calls Try.prog 39 #[.pointer (some ⟨X.p.w,0,none⟩),.int .i64 width,.func (.func 40) #[.agg #[.func (.func 30) #[.pointer (some ⟨x,0,none⟩)] #[],.func (.func fH) #[] caps]] #[],.slice (some ⟨rb,0,none⟩) 1 1] w fun e w'=>
     (∃F M:Nat,e=.returned (.tuple #[.agg #[.int .i64 F,.int .i64 M,.int .i64 width,.int .i64 ((outL chg l count).length:Nat)],.int .i64 0])∧C F M Z4 w')∨
     (∃er:Nat,e=.returned (.tuple #[.agg #[.int .i64 0,.int .i64 0,.int .i64 0,.int .i64 0],.int .i64 er])∧0<er∧N er Z4 w'))∧
    (∀F M cs w x1 x2 x3 x4,cs.length=4→C F M cs w→C F M [x1,x2,x3,x4] ((((w.setCell ⟨fb+1,0,none⟩ x1).setCell ⟨fb+1,1,none⟩ x2).setCell ⟨fb+1,2,none⟩ x3).setCell ⟨fb+1,3,none⟩ x4))∧
    (∀er cs w x1 x2 x3 x4,cs.length=4→N er cs w→N er [x1,x2,x3,x4] ((((w.setCell ⟨fb+1,0,none⟩ x1).setCell ⟨fb+1,1,none⟩ x2).setCell ⟨fb+1,2,none⟩ x3).setCell ⟨fb+1,3,none⟩ x4))∧
    (∀F M cs w,C F M cs w→Row w (fb+1) 29 cs)∧(∀er cs w,N er cs w→Row w (fb+1) 29 cs)∧
    (∀F M cs w u,C F M cs w→CallsD Try.prog 29 #[.pointer (some ⟨x,0,none⟩)] u w fun e u' w'=>u'=u∧(e=.returned (.tuple #[])∧Row w' (fb+1) 29 cs∧ChgRes X pre post H (outL chg l count) m nb count width (.returned (.tuple #[.agg #[.int .i64 F,.int .i64 M,.int .i64 width,.int .i64 ((outL chg l count).length:Nat)],.int .i64 0])) w'))∧
    (∀er cs w u,0<er→N er cs w→CallsD Try.prog 29 #[.pointer (some ⟨x,0,none⟩)] u w fun e u' w'=>u'=u∧(e=.returned (.tuple #[])∧Row w' (fb+1) 29 cs∧ChgRes X pre post H (outL chg l count) m nb count width (.returned (.tuple #[.agg #[.int .i64 0,.int .i64 0,.int .i64 0,.int .i64 0],.int .i64 er])) w'))):=fun x b g w0 hrt hw0=>by
  obtain⟨P,hPd⟩:∃P:CP,P=⟨X,pre,H,nh,post++[rowO fb 29 fc,rowO (fb+1) 29 Z4],l,chg,⟨k,hh,first,nb,count,0,b,g⟩,x,fH,caps⟩:=⟨_,rfl⟩
  have hP:P.Ok:=by
   rw[hPd]
   refine⟨hH,⟨hrt,hc,fun u hu=>hf.fit u hu,hf.bn⟩,fun j a zz=>src_mem (nb:=nb) ?_ hf.bn⟩
   show fiO first nb k hh l X.sz∈pre++H j++(post++[rowO fb 29 fc,rowO (fb+1) 29 Z4])++[a]++zz
   rcases List.mem_append.1 hmem with hm|hm<;>simp[hm]
  have hS:=CP.src_ (k:=width) hP (by rw[hPd];exact hout)
  have hZ:∀(i:Nat) (a:Asn) (tail:List Asn),P.Z i a++tail=chZ (pre++H i++post) fb (fb+1) fc Z4 a tail:=fun i a tail=>by rw[hPd];simp[CP.Z,chZ,List.append_assoc]
  have hll:P.l.length=count:=by rw[hPd];exact hc
  have hol:outL P.chg P.l P.l.length=outL chg l count:=by rw[hPd,←hc]
  have hbn:blocksN P.r.h P.l.length=nb:=by rw[hPd];exact hf.bn.symm
  have hPX:P.X=X:=by rw[hPd]
  have hZe:∀z,P.Ze z→∃i a,z=P.Z i a∧RdE X x ⟨k,hh,first,nb,count,0,b,g⟩ l a:=fun z hz=>by rw[hPd]at hz⊢;exact hz
  have hvF:P.vF.toArray=#[.func (.func 30) #[.pointer (some ⟨x,0,none⟩)] #[],.func (.func fH) #[] caps]:=by rw[hPd];rfl
  have hZ0:P.Z 0 (P.rd 0)=pre++H 0++(post++[rowO fb 29 fc,rowO (fb+1) 29 Z4])++[rdO X.p x ⟨k,hh,first,nb,count,0,b,g⟩ X.sz l]:=by rw[hPd];rfl
  rw[hvF,hol,hbn,hll,hPX]at hS
  refine⟨fun w=>Wd X (P.Z 0 (P.rd 0)) m w,
   fun F M cs w=>FOk F M width (holdsI X.sz width) (outL chg l count) X.sz∧∃i a,RdE X x ⟨k,hh,first,nb,count,0,b,g⟩ l a∧Wd X (chZ (pre++H i++post) fb (fb+1) fc cs a [fiO F M width (holdsI X.sz width) (outL chg l count) X.sz]) (m+M+nb) w,
   fun er cs w=>(er=6∧¬X.cm∨er=5∧∀q,¬Rm X (pre++H 0++post) q (blocksN (holdsI X.sz width) count))∧∃i a,RdE X x ⟨k,hh,first,nb,count,0,b,g⟩ l a∧Wd X (chZ (pre++H i++post) fb (fb+1) fc cs a []) (m+nb+count+2) w,
   by rw[hZ0];exact hw0,fun w w' q hb=>q.below hb,fun w q=>?_,fun w rb q hr=>?_,?_,?_,?_,?_,?_,?_⟩
  ·have q2:Wd X (chZ (pre++H 0++post) fb (fb+1) fc Z4 (P.rd 0) []) m w:=by rw[←hZ,List.append_nil];exact q
   exact q2.row chZ_F
  ·have hcf:=hc
   have hrc:Row w rb 29 [.int .i64 first,.int .i64 nb,.int .i64 k,.int .i64 count]:=by rw[←hfc];exact hr
   refine(wd_jlay (nr:=1) (rb:=rb) (cr:=1) hS (Nat.zero_le _) rfl (blocks_zero _) q hwd (by rw[←hc];exact hf.len) ?_ (by omega) ⟨by omega,by omega⟩ hrc.lt (hrc.cell 3) ?_).mono ?_
   ·rw[hZ0,sumN_snoc,hgw]
    show X.sz+(sumN Asn.gw (pre++H 0++post)+X.sz)≤X.rm
    omega
   ·intro i hi
    obtain rfl:i=0:=by omega
    refine⟨first,nb,k,count,⟨hrc.cell 0,hrc.cell 1,hrc.cell 2,hrc.cell 3⟩,by have:=hf.fst;omega,?_,.inr ?_⟩
    ·have h7:=hf.len
     have h8:=blocks_le hh l.length
     have h9:=hf.bn
     omega
    ·have hm2:fiO first nb k hh l X.sz∈P.Z 0 (P.rd 0):=by
      rw[hZ0]
      rcases List.mem_append.1 hmem with hm|hm<;>simp[hm]
     obtain⟨j,hj⟩:=List.mem_iff_getElem?.1 hm2
     exact⟨j,_,hj,rfl⟩
   ·rintro e w' (⟨F,M,z,he,q1,q2,q3,q4⟩|⟨er,z,he,q0,q1,q2,q3,q4⟩)
    ·obtain⟨i,a,rfl,ha⟩:=hZe z q3
     rw[hZ]at q4
     exact .inl ⟨F,M,he,q1,i,a,ha,q4⟩
    ·obtain⟨i,a,rfl,ha⟩:=hZe z q3
     have q5:Wd X (chZ (pre++H i++post) fb (fb+1) fc Z4 a []) (m+nb+count+2) w':=by rw[←hZ,List.append_nil];exact q4
     refine .inr ⟨er,he,q0,?_,i,a,ha,q5⟩
     rcases q1 with(q1|q1)|⟨q1,q6⟩
     ·exact q1.elim
     ·exact .inl q1
     ·refine .inr ⟨q1,fun qq hq=>q6 qq ?_⟩
      rw[hZ0,←List.append_assoc,List.append_assoc _ [rowO fb 29 fc,rowO (fb+1) 29 Z4]]
      exact rm_none hq fun y hy=>by
       simp at hy
       rcases hy with rfl|rfl|rfl<;>rfl
  ·rintro F M cs w x1 x2 x3 x4 hcs ⟨q1,i,a,ha,q2⟩
   exact⟨q1,i,a,ha,chZ_store hcs q2 x1 x2 x3 x4⟩
  ·rintro er cs w x1 x2 x3 x4 hcs ⟨q1,i,a,ha,q2⟩
   exact⟨q1,i,a,ha,chZ_store hcs q2 x1 x2 x3 x4⟩
  ·rintro F M cs w ⟨q1,i,a,ha,q2⟩
   exact q2.row chZ_R
  ·rintro er cs w ⟨q1,i,a,ha,q2⟩
   exact q2.row chZ_R
  ·rintro F M cs w u ⟨q1,i,a,ha,q2⟩
   refine(rd_close u q2 chZ_rd ha).mono ?_
   rintro e u' w' ⟨k1,k2,j,k3⟩
   rw[chZ_setrd]at k3
   exact⟨k1,k2,k3.row chZ_R,.inl ⟨F,M,i,rfl,q1,chZ_cut ⟨rfl,rfl⟩ k3⟩⟩
  ·rintro er cs w u her ⟨q1,i,a,ha,q2⟩
   refine(rd_close u q2 chZ_rd ha).mono ?_
   rintro e u' w' ⟨k1,k2,j,k3⟩
   rw[chZ_setrd]at k3
   have k4:=chZ_cut ⟨rfl,rfl⟩ k3
   rw[List.append_nil]at k4
   exact⟨k1,k2,k3.row chZ_R,.inr ⟨er,i,rfl,her,q1,k4⟩⟩
 have HW2:=Lib.hid hW2
 have HFC:=Lib.hid hfc
 generalize hPO:ChgRes X pre post H (outL chg l count) m nb count width=POST at*
 generalize(outL chg l count).length=ol at*
 clear hH h hf hmem hc hwd hout hroom hn hb1 h1 hb2 h2 hgw hW2 hPO
 subst hfb
 go_enter_defers Try.func22,Try.ntmps22
 go_upto_region 1 with(fail)
 rw[←HW2.out]
 clear HW2
 generalize hs0:W.heap.size=s0 at*
 have hF2:=HF2.out
 rw[HFC.out]at hF2
 have a0:W2.cell? ⟨s0,0,none⟩=some (.int .i64 first):=hF2.cell 0
 have a1:W2.cell? ⟨s0,1,none⟩=some (.int .i64 nb):=hF2.cell 1
 have a2:W2.cell? ⟨s0,2,none⟩=some (.int .i64 k):=hF2.cell 2
 have a3:W2.cell? ⟨s0,3,none⟩=some (.int .i64 count):=hF2.cell 3
 have HR2:=Lib.hid (HRD.out W2 (Below.refl _ _))
 clear hF2
 go_wp2_with fail
 refine HR2.out.mono ?_
 rintro e w3 ⟨x,b,g,rfl,hrt,hw3⟩
 obtain⟨A,C,N,hA,hAb,hAr,hlay,hCs,hNs,hCr,hNr,hCc,hNc⟩:=HINIT.out x b g w3 hrt hw3
 have HA:=Lib.hid hA
 have HAB:=Lib.hid hAb
 have HAR:=Lib.hid hAr
 have HLAY:=Lib.hid hlay
 have HCS:=Lib.hid hCs
 have HNS:=Lib.hid hNs
 have HCR:=Lib.hid hCr
 have HNR:=Lib.hid hNr
 have HCC:=Lib.hid hCc
 have HNC:=Lib.hid hNc
 clear hA hAb hAr hlay hCs hNs hCr hNr hCc hNc hrt hw3 HINIT HRD HR2 HF2 a0 a1 a2 a3
 have HA4:=Lib.hid (HAB.out w3 _ HA.out ((Below.refl w3.heap.size w3).alloc (Nat.le_refl _) (.cells #[.func (.func 30) #[.pointer (some ⟨x,0,none⟩)] #[],.func (.func fH) #[] caps] 89)))
 have hch:Row (w3.alloc (.cells #[.func (.func 30) #[.pointer (some ⟨x,0,none⟩)] #[],.func (.func fH) #[] caps] 89)) w3.heap.size 89 [.func (.func 30) #[.pointer (some ⟨x,0,none⟩)] #[],.func (.func fH) #[] caps]:=heap_alloc_new _ _
 have HCH:=Lib.hid hch
 clear hch
 go_upto_region 6 with(fail)
 generalize w3.alloc (.cells #[.func (.func 30) #[.pointer (some ⟨x,0,none⟩)] #[],.func (.func fH) #[] caps] 89)=w4 at*
 generalize w3.heap.size=cb at*
 have hr4:=HAR.out _ HA4.out
 rw[HFC.out]at hr4
 have a0:w4.cell? ⟨s0,0,none⟩=some (.int .i64 first):=hr4.cell 0
 have a1:w4.cell? ⟨s0,1,none⟩=some (.int .i64 nb):=hr4.cell 1
 have a2:w4.cell? ⟨s0,2,none⟩=some (.int .i64 k):=hr4.cell 2
 have a3:w4.cell? ⟨s0,3,none⟩=some (.int .i64 count):=hr4.cell 3
 have b0:w4.cell? ⟨cb,0,none⟩=some (.func (.func 30) #[.pointer (some ⟨x,0,none⟩)] #[]):=HCH.out.cell 0
 have b1:w4.cell? ⟨cb,1,none⟩=some (.func (.func fH) #[] caps):=HCH.out.cell 1
 have HA5:=Lib.hid (HAB.out w4 _ HA4.out ((Below.refl w4.heap.size w4).alloc (Nat.le_refl _) (.cells #[.int .i64 first,.int .i64 nb,.int .i64 k,.int .i64 count] 29)))
 have hr5:Row (w4.alloc (.cells #[.int .i64 first,.int .i64 nb,.int .i64 k,.int .i64 count] 29)) w4.heap.size 29 fc:=by rw[HFC.out];exact heap_alloc_new _ _
 have HL:=Lib.hid (HLAY.out _ _ HA5.out hr5)
 clear hr4 hr5
 go_wp2_with fail
 refine HL.out.mono ?_
 rintro e w6 (⟨F,M,rfl,hc⟩|⟨er,rfl,hpos,hn⟩)
 ·have HR6:=Lib.hid (HCR.out _ _ _ _ hc)
  have H9:=Lib.hid (HCS.out F M Z4 w6 (.int .i64 F) (.int .i64 M) (.int .i64 width) (.int .i64 ol) rfl hc)
  clear hc a0 a1 a2 a3 b0 b1 HL HA5
  have z0:w6.cell? ⟨s0+1,0,none⟩=some (.int .i64 0):=HR6.out.cell 0
  have z1:w6.cell? ⟨s0+1,1,none⟩=some (.int .i64 0):=HR6.out.cell 1
  have z2:w6.cell? ⟨s0+1,2,none⟩=some (.int .i64 0):=HR6.out.cell 2
  have z3:w6.cell? ⟨s0+1,3,none⟩=some (.int .i64 0):=HR6.out.cell 3
  have f0:=HR6.out.free 0
  have f1:=HR6.out.free 1
  have f2:=HR6.out.free 2
  have f3:=HR6.out.free 3
  go_wp2
  refine leaves_cons (f:=29) (args:=#[.pointer (some ⟨x,0,none⟩)]) (by simp) (by simp[go_sem]) ?_
  refine(HCC.out _ _ _ _ _ H9.out).mono ?_
  rintro e u' w'' ⟨rfl,rfl,hr9,hpost⟩
  have r0:=hr9.cell 0
  have r1:=hr9.cell 1
  have r2:=hr9.cell 2
  have r3:=hr9.cell 3
  simp only[List.getElem?_cons_zero,List.getElem?_cons_succ]at r0 r1 r2 r3
  exact⟨.tuple #[.agg #[.int .i64 F,.int .i64 M,.int .i64 width,.int .i64 ol],.int .i64 0],by simp[results,Try.results22,go_sem,r0,r1,r2,r3],hpost⟩
 ·have HPO:=Lib.hid hpos
  have HR6:=Lib.hid (HNR.out _ _ _ hn)
  have H9:=Lib.hid (HNS.out er Z4 w6 (.int .i64 0) (.int .i64 0) (.int .i64 0) (.int .i64 0) rfl hn)
  clear hn hpos a0 a1 a2 a3 b0 b1 HL HA5
  have z0:w6.cell? ⟨s0+1,0,none⟩=some (.int .i64 0):=HR6.out.cell 0
  have z1:w6.cell? ⟨s0+1,1,none⟩=some (.int .i64 0):=HR6.out.cell 1
  have z2:w6.cell? ⟨s0+1,2,none⟩=some (.int .i64 0):=HR6.out.cell 2
  have z3:w6.cell? ⟨s0+1,3,none⟩=some (.int .i64 0):=HR6.out.cell 3
  have f0:=HR6.out.free 0
  have f1:=HR6.out.free 1
  have f2:=HR6.out.free 2
  have f3:=HR6.out.free 3
  go_wp2
  refine leaves_cons (f:=29) (args:=#[.pointer (some ⟨x,0,none⟩)]) (by simp) (by simp[go_sem]) ?_
  refine(HNC.out _ _ _ _ HPO.out H9.out).mono ?_
  rintro e u' w'' ⟨rfl,rfl,hr9,hpost⟩
  have r0:=hr9.cell 0
  have r1:=hr9.cell 1
  have r2:=hr9.cell 2
  have r3:=hr9.cell 3
  simp only[List.getElem?_cons_zero,List.getElem?_cons_succ]at r0 r1 r2 r3
  exact⟨.tuple #[.agg #[.int .i64 0,.int .i64 0,.int .i64 0,.int .i64 0],.int .i64 er],by simp[results,Try.results22,go_sem,r0,r1,r2,r3],hpost⟩
end
def colT(t:Tup)(i:Nat):Int:=t.cols.getD i 0
def kol(k:Int):Nat:=k.natAbs-1
def Fm(o:Tup):Prop:=∀i,i<5→(-5≤colT o i∧colT o i≤5)∧∀k,k<i→colT o i≠0→colT o k≠0∧kol (colT o k)≠kol (colT o i)
instance fmDec (o : Tup) : Decidable (Fm o) := by unfold Fm; exact inferInstance
def setT(t:Tup)(k:Nat)(v:Int):Tup:=match k with
 |0=>{t with a:=v}
 |1=>{t with b:=v}
 |2=>{t with c:=v}
 |3=>{t with d:=v}
 |4=>{t with e:=v}
 | _=>t
theorem lt5{k:Nat}(h:k<5):k=0∨k=1∨k=2∨k=3∨k=4:=by omega
theorem setT_cells{t:Tup}{k:Nat}(hk:k<5)(v:Int):(tupC t).set k (.int .i64 v)=tupC (setT t k v):=by
 rcases lt5 hk with rfl|rfl|rfl|rfl|rfl<;>rfl
theorem tupC_at(t:Tup){k:Nat}(hk:k<5):(tupC t)[k]?=some (.int .i64 (colT t k)):=by
 rcases lt5 hk with rfl|rfl|rfl|rfl|rfl<;>rfl
theorem setT_ok{t:Tup}{k:Nat}(hk:k<5){v:Int}(h:TupOk t)(hv:I64 v):TupOk (setT t k v):=by
 have h0:=h t.a (by simp[Tup.cols])
 have h1:=h t.b (by simp[Tup.cols])
 have h2:=h t.c (by simp[Tup.cols])
 have h3:=h t.d (by simp[Tup.cols])
 have h4:=h t.e (by simp[Tup.cols])
 intro x hx
 rcases lt5 hk with rfl|rfl|rfl|rfl|rfl<;>
  (simp[setT,Tup.cols]at hx;rcases hx with rfl|rfl|rfl|rfl|rfl<;>assumption)
theorem setT_fits{t:Tup}{k:Nat}(hk:k<5){v:Int}(h:fitsT k t=true):fitsT (k+1) (setT t k v)=true:=by
 unfold fitsT at*
 rcases lt5 hk with rfl|rfl|rfl|rfl|rfl<;>simp[setT,Tup.cols]at h⊢<;>simp[h]
section
variable {X : Cx} {m : Nat} {W : World}
def numH(gF gI:Nat)(fc:List Value)(fr:Int)(j:Nat):List Asn:=[rowO gF 29 fc,rowO gI 2 [.int .i64 (fr+j)]]
def numC(k:Nat)(fr:Int)(j:Nat)(t:Tup):Option Tup:=some (setT t k (fr+j))
theorem ix_len(Y zz:List Asn)(n:Nat)(h:Y.length=n):n+zz.length=(Y++zz).length:=by subst h;simp
theorem ix_at1{Y zz:List Asn}{c d:Asn}{n:Nat}(h:Y.length=n):(Y++(zz++[c,d]))[n+zz.length]?=some c:=by
 rw[ix_len Y zz n h,←List.append_assoc];simp
theorem ix_at2{Y zz:List Asn}{c d:Asn}{n:Nat}(h:Y.length=n):(Y++(zz++[c,d]))[n+zz.length+1]?=some d:=by
 rw[ix_len Y zz n h,←List.append_assoc,List.getElem?_append_right (by omega),show (Y++zz).length+1-(Y++zz).length=1 by omega];rfl
theorem ix_set1{Y zz:List Asn}{c d x:Asn}{n:Nat}(h:Y.length=n):(Y++(zz++[c,d])).set (n+zz.length) x=Y++(zz++[x,d]):=by
 rw[ix_len Y zz n h,←List.append_assoc,List.set_append_right _ _ (Nat.le_refl _),Nat.sub_self,List.append_assoc];rfl
theorem ix_set2{Y zz:List Asn}{c d x:Asn}{n:Nat}(h:Y.length=n):(Y++(zz++[c,d])).set (n+zz.length+1) x=Y++(zz++[c,x]):=by
 rw[ix_len Y zz n h,←List.append_assoc,List.set_append_right _ _ (by omega),show (Y++zz).length+1-(Y++zz).length=1 by omega,List.append_assoc];rfl
theorem snd_store{Y Z:List Asn}{a b:Asn}:(Y++[a,b]++Z)[Y.length+1]?=some b:=by simp
theorem fst_store{Y Z:List Asn}{a b:Asn}:(Y++[a,b]++Z)[Y.length]?=some a:=by simp
theorem num_len{k:Nat}{fr:Int}{l:List Tup}:∀{n:Nat},n≤l.length→(outL (numC k fr) l n).length=n
 |0,_=>rfl
 |n+1,h=>by
  obtain⟨t,ht⟩:∃t,l[n]?=some t:=⟨_,List.getElem?_eq_getElem (by omega)⟩
  rw[outL_step ht,List.length_append,num_len (n:=n) (by omega)];rfl
theorem num_how{pre:List Asn}{gF gI k:Nat}{f0 f1 f3:Value}{fr:Int}{l:List Tup}(hk:k<5)(hfr:-9223372036854775808≤fr∧fr+l.length≤9223372036854775807):
  HowC X pre 23 #[.pointer (some ⟨gI,0,none⟩),.pointer (some ⟨gF,0,none⟩)] l (numC k fr) (numH gF gI [f0,f1,.int .i64 k,f3] fr) 2 where
 ent:=fun args w=>by kernel_rfl
 len:=fun _=>rfl
 how:=fun j zz m W t ht h=>by
  have hj:j<l.length:=by
   rcases Nat.lt_or_ge j l.length with hl|hl
   ·exact hl
   ·rw[List.getElem?_eq_none hl]at ht;cases ht
  obtain⟨v,hv⟩:∃v:Int,v=fr+j:=⟨_,rfl⟩
  obtain⟨W2,hW2⟩:∃W2,W2=(W.alloc (.cells #[.int .i64 t.a,.int .i64 t.b,.int .i64 t.c,.int .i64 t.d,.int .i64 t.e] 57)).alloc (.cells #[.int .i64 0,.int .i64 0,.int .i64 0,.int .i64 0,.int .i64 0] 57):=⟨_,rfl⟩
  have h1:=h.new ((Below.refl W.heap.size W).alloc (Nat.le_refl _) (.cells #[.int .i64 t.a,.int .i64 t.b,.int .i64 t.c,.int .i64 t.d,.int .i64 t.e] 57)) (heap_alloc_new _ _:Row _ _ 57 (tupC t)) (Nat.le_refl _)
  have h2:=h1.new ((Below.refl _ _).alloc (Nat.le_refl _) (.cells #[.int .i64 0,.int .i64 0,.int .i64 0,.int .i64 0,.int .i64 0] 57)) (heap_alloc_new _ _:Row _ _ 57 Z5) (Nat.le_refl _)
  rw[←hW2,show (W.alloc (.cells #[.int .i64 t.a,.int .i64 t.b,.int .i64 t.c,.int .i64 t.d,.int .i64 t.e] 57)).heap.size=W.heap.size+1 by simp]at h2
  obtain⟨s0,hs0⟩:∃s0,s0=W.heap.size:=⟨_,rfl⟩
  rw[←hs0]at h2
  obtain⟨A,hA⟩:∃A:Int→List Value→List Value→World→Prop,∀v c1 c2 w,A v c1 c2 w↔Wd X (pre++[rowO gF 29 [f0,f1,.int .i64 k,f3],rowO gI 2 [.int .i64 v]]++(zz++[rowO s0 57 c1,rowO (s0+1) 57 c2])) m w:=⟨_,fun _ _ _ _=>Iff.rfl⟩
  have hpl:∀v,(pre++[rowO gF 29 [f0,f1,.int .i64 k,f3],rowO gI 2 [.int .i64 v]]).length=pre.length+2:=fun v=>by simp
  have HA0:Hid (A v (tupC t) Z5 W2):=(hA _ _ _ _).2 (by rw[hv];simpa [List.append_assoc,numH]using h2)
  have HROW:Hid (∀v c1 c2 w,A v c1 c2 w→Row w gF 29 [f0,f1,.int .i64 k,f3]∧Row w gI 2 [.int .i64 v]∧Row w s0 57 c1∧Row w (s0+1) 57 c2):=fun v c1 c2 w q=>by
   have q:=(hA _ _ _ _).1 q
   exact⟨q.row fst_store,q.row snd_store,q.row (ix_at1 (hpl _)),q.row (ix_at2 (hpl _))⟩
  have HS1:Hid (∀v c1 c2 w j x,A v c1 c2 w→A v (c1.set j x) c2 (w.setCell ⟨s0,j,none⟩ x)):=fun v c1 c2 w j x q=>by
   have q1:=((hA _ _ _ _).1 q).store (ix_at1 (hpl _)) (by decide) j x
   rw[ix_set1 (hpl _)]at q1
   exact(hA _ _ _ _).2 q1
  have HS2:Hid (∀v c1 c2 w j x,A v c1 c2 w→A v c1 (c2.set j x) (w.setCell ⟨s0+1,j,none⟩ x)):=fun v c1 c2 w j x q=>by
   have q1:=((hA _ _ _ _).1 q).store (ix_at2 (hpl _)) (by decide) j x
   rw[ix_set2 (hpl _)]at q1
   exact(hA _ _ _ _).2 q1
  have HS3:Hid (∀v c1 c2 w x,A v c1 c2 w→A x c1 c2 (w.setCell ⟨gI,0,none⟩ (.int .i64 x))):=fun v c1 c2 w x q=>by
   have q1:=((hA _ _ _ _).1 q).store snd_store (by decide) 0 (.int .i64 x)
   refine(hA _ _ _ _).2 ?_
   have e:∀(Q:List Asn) (a b c:Asn),(pre++[a,b]++Q).set (pre.length+1) c=pre++[a,c]++Q:=fun Q a b c=>by simp
   rw[e]at q1
   exact q1
  have HEND:Hid (∀c1 c2 w,A (v+1) c1 c2 w→Wd X (pre++numH gF gI [f0,f1,.int .i64 k,f3] fr (j+1)++zz) m w):=fun c1 c2 w q=>by
   have q:=(hA _ _ _ _).1 q
   rw[←List.append_assoc]at q
   have q2:=Wd.cuts (b:=[]) [rowO s0 57 c1,rowO (s0+1) 57 c2] (fun y hy=>by simp at hy;rcases hy with rfl|rfl<;>exact⟨rfl,rfl⟩) (by rw[List.append_nil];exact q)
   rw[List.append_nil]at q2
   have e:fr+((j+1:Nat):Int)=v+1:=by rw[hv];omega
   unfold numH
   rw[e]
   exact q2
  have hc:numC k fr j t=some (setT t k v):=by unfold numC;rw[hv]
  have hvb:-9223372036854775808≤v∧v+1≤9223372036854775807:=by omega
  obtain⟨v1,hv1⟩:∃v1:Int,v1=v+1:=⟨_,rfl⟩
  have hv2:v+1=v1:=hv1.symm
  rw[hv2]at HEND
  have hvb1:-9223372036854775808≤v1∧v1≤9223372036854775807:=by omega
  have HC:=Lib.hid hc
  have HW2:=Lib.hid hW2
  have HT:=Lib.hid (setT_cells (t:=t) hk v)
  have HU:Hid (∃u,u=setT t k v):=⟨_,rfl⟩
  obtain⟨u,hu⟩:=HU.out
  have HT2:Hid (∀v,(tupC t).set k (.int .i64 v)=tupC (setT t k v)):=fun v=>setT_cells hk v
  have HT3:=Lib.hid (tupC_at t hk)
  rw[←hu]at HC HT
  have hki:(k:Int)<5:=by omega
  have hk0:(0:Int)≤(k:Int):=by omega
  clear h1 h2 h hpl hA hW2 hc hv hv1 hu HU hfr ht hj
  replace hs0:=Lib.hid hs0
  unfold tupV
  go_enter Try.func23,Try.ntmps23
  go_upto_region 1 with(fail)
  rw[←HW2.out,←hs0.out]
  clear HW2
  obtain⟨p1,p2,p3,p4⟩:=HROW.out _ _ _ _ HA0.out
  have q2:W2.cell? ⟨gF,2,none⟩=some (.int .i64 k):=p1.cell 2
  have q1:W2.cell? ⟨gI,0,none⟩=some (.int .i64 v):=p2.cell 0
  have qk:W2.cell? ⟨s0,k,none⟩=some (.int .i64 (colT t k)):=(p3.cell k).trans HT3.out
  have fk:=p3.free k
  have ha1:=HS1.out v (tupC t) Z5 W2 k (.int .i64 v) HA0.out
  rw[HT.out]at ha1
  have HA1:=Lib.hid ha1
  clear ha1 p1 p2 p3 p4
  go_upto_region 2 with(fail)
  generalize W2.setCell ⟨s0,k,none⟩ (.int .i64 v)=W3 at*
  clear q1 q2 qk fk
  obtain⟨p1,p2,p3,p4⟩:=HROW.out _ _ _ _ HA1.out
  have q1:W3.cell? ⟨gI,0,none⟩=some (.int .i64 v):=p2.cell 0
  have f1:=p2.free 0
  have HA2:=Lib.hid (HS3.out v _ _ W3 v1 HA1.out)
  clear p1 p2 p3 p4
  go_upto_region 3 with(fail)
  generalize W3.setCell ⟨gI,0,none⟩ (.int .i64 v1)=W4 at*
  clear q1 f1
  obtain⟨p1,p2,p3,p4⟩:=HROW.out _ _ _ _ HA2.out
  have d0:W4.cell? ⟨s0,0,none⟩=some (.int .i64 u.a):=p3.cell 0
  have d1:W4.cell? ⟨s0,1,none⟩=some (.int .i64 u.b):=p3.cell 1
  have d2:W4.cell? ⟨s0,2,none⟩=some (.int .i64 u.c):=p3.cell 2
  have d3:W4.cell? ⟨s0,3,none⟩=some (.int .i64 u.d):=p3.cell 3
  have d4:W4.cell? ⟨s0,4,none⟩=some (.int .i64 u.e):=p3.cell 4
  have z0:W4.cell? ⟨s0+1,0,none⟩=some (.int .i64 0):=p4.cell 0
  have z1:W4.cell? ⟨s0+1,1,none⟩=some (.int .i64 0):=p4.cell 1
  have z2:W4.cell? ⟨s0+1,2,none⟩=some (.int .i64 0):=p4.cell 2
  have z3:W4.cell? ⟨s0+1,3,none⟩=some (.int .i64 0):=p4.cell 3
  have z4:W4.cell? ⟨s0+1,4,none⟩=some (.int .i64 0):=p4.cell 4
  have f0:=p4.free 0
  have f1:=p4.free 1
  have f2:=p4.free 2
  have f3:=p4.free 3
  have f4:=p4.free 4
  have HA3:=Lib.hid (HS2.out _ _ _ _ 4 (.int .i64 u.e) (HS2.out _ _ _ _ 3 (.int .i64 u.d) (HS2.out _ _ _ _ 2 (.int .i64 u.c) (HS2.out _ _ _ _ 1 (.int .i64 u.b) (HS2.out v1 _ _ W4 0 (.int .i64 u.a) HA2.out)))))
  have HR9:=Lib.hid (HROW.out _ _ _ _ HA3.out).2.2.2
  clear p1 p2 p3 p4
  go_wp2
  have r0:=HR9.out.cell 0
  have r1:=HR9.out.cell 1
  have r2:=HR9.out.cell 2
  have r3:=HR9.out.cell 3
  have r4:=HR9.out.cell 4
  simp only[Z5,List.set_cons_zero,List.set_cons_succ,List.getElem?_cons_zero,List.getElem?_cons_succ]at r0 r1 r2 r3 r4
  refine bodyPost_ret (v:=.tuple #[tupV u,.bool true]) (by unfold tupV;simp[results,Try.results23,go_sem,r0,r1,r2,r3,r4]) rfl ?_
  exact⟨u,true,rfl,HC.out,HEND.out _ _ _ HA3.out⟩
def OpRes(X:Cx)(os:List Asn)(Out:List Tup)(m nb bd k:Nat)(e:Ending)(w':World):Prop:=
 (∃F N:Nat,e=.returned (.tuple #[.agg #[.int .i64 F,.int .i64 N,.int .i64 k,.int .i64 (Out.length:Nat)],.int .i64 0])∧FOk F N k (holdsI X.sz k) Out X.sz∧Wd X (os++[fiO F N k (holdsI X.sz k) Out X.sz]) (m+N+nb) w')∨
 (∃er:Nat,e=.returned (.tuple #[.agg #[.int .i64 0,.int .i64 0,.int .i64 0,.int .i64 0],.int .i64 er])∧0<er∧(er=6∧¬X.cm∨er=5∧∀q,¬Rm X os q (blocksN (holdsI X.sz k) bd))∧Wd X os (m+nb+bd+2) w')
theorem op_states{os:List Asn}{H:Nat→List Asn}{R nb bd k:Nat}{Out:List Tup}{e:Ending}{w':World}(hH:∀i,Bare (H i))(h:ChgRes X os [rowO R 29 Z4] H Out m nb bd k e w'):
  ∃C:List Value→World→Prop,∃F N K L er:Nat,e=.returned (.tuple #[.agg #[.int .i64 F,.int .i64 N,.int .i64 K,.int .i64 L],.int .i64 er])∧C Z4 w'∧(∀cs w,C cs w→Row w R 29 cs)∧
   (∀cs w x1 x2 x3 x4,cs.length=4→C cs w→C [x1,x2,x3,x4] ((((w.setCell ⟨R,0,none⟩ x1).setCell ⟨R,1,none⟩ x2).setCell ⟨R,2,none⟩ x3).setCell ⟨R,3,none⟩ x4))∧
   (∀cs w,C cs w→OpRes X os Out m nb bd k (.returned (.tuple #[.agg #[.int .i64 F,.int .i64 N,.int .i64 K,.int .i64 L],.int .i64 er])) w):=by
 rcases h with⟨F,N,i,he,hfo,hw⟩|⟨er,i,he,hpos,hwhy,hw⟩
 ·refine⟨fun cs w=>Wd X (os++H i++[rowO R 29 cs]++[fiO F N k (holdsI X.sz k) Out X.sz]) (m+N+nb) w,F,N,k,Out.length,0,he,hw,fun cs w q=>opn_row q,fun cs w x1 x2 x3 x4 hcs q=>opn_store hcs q x1 x2 x3 x4,fun cs w q=>.inl ⟨F,N,rfl,hfo,opn_cut (hH i) q⟩⟩
 ·refine⟨fun cs w=>Wd X (os++H i++[rowO R 29 cs]++[]) (m+nb+bd+2) w,0,0,0,0,er,he,by show Wd X (os++H i++[rowO R 29 Z4]++[]) (m+nb+bd+2) w';rw[List.append_nil];exact hw,fun cs w q=>opn_row q,fun cs w x1 x2 x3 x4 hcs q=>opn_store hcs q x1 x2 x3 x4,fun cs w q=>.inr ⟨er,rfl,hpos,?_,by have q2:=opn_cut (hH i) q;rwa [List.append_nil]at q2⟩⟩
  refine hwhy.imp_right fun⟨q1,q2⟩=>⟨q1,fun z hz=>q2 z ?_⟩
  rw[List.append_assoc]
  refine rm_none hz fun a ha=>?_
  rcases List.mem_append.1 ha with ha|ha
  ·exact(hH 0 a ha).2
  ·simp at ha;subst ha;rfl
theorem wd_number{os:List Asn}{first nb k hh count:Nat}{l:List Tup}{fr:Int}(h:Wd X os m W)(hf:FOk first nb k hh l X.sz)(hmem:fiO first nb k hh l X.sz∈os)(hc:l.length=count)(hk:k<5)(hfr:-9223372036854775808≤fr∧fr+count≤9223372036854775807)
  (hroom:2*X.sz+sumN Asn.gw os≤X.rm) (hn:X.N+m+nb+count+2≤1000000) (hwd:0<holdsI X.sz ((k+1:Nat):Int)):
  Calls Try.prog 8 #[.pointer (some ⟨X.p.w,0,none⟩),.agg #[.int .i64 first,.int .i64 nb,.int .i64 k,.int .i64 count],.int .i64 fr] W (OpRes X os (outL (numC k fr) l count) m nb count (k+1)):=by
 obtain⟨W3,hW3⟩:∃W3,W3=((W.alloc (.cells #[.int .i64 first,.int .i64 nb,.int .i64 k,.int .i64 count] 29)).alloc (.cells #[.int .i64 fr] 2)).alloc (.cells #[.int .i64 0,.int .i64 0,.int .i64 0,.int .i64 0] 29):=⟨_,rfl⟩
 have h1:=h.new ((Below.refl W.heap.size W).alloc (Nat.le_refl _) (.cells #[.int .i64 first,.int .i64 nb,.int .i64 k,.int .i64 count] 29)) (heap_alloc_new _ _:Row _ _ 29 [.int .i64 first,.int .i64 nb,.int .i64 k,.int .i64 count]) (Nat.le_refl _)
 have h2:=h1.new ((Below.refl _ _).alloc (Nat.le_refl _) (.cells #[.int .i64 fr] 2)) (heap_alloc_new _ _:Row _ _ 2 [.int .i64 fr]) (Nat.le_refl _)
 have h3:=h2.new ((Below.refl _ _).alloc (Nat.le_refl _) (.cells #[.int .i64 0,.int .i64 0,.int .i64 0,.int .i64 0] 29)) (heap_alloc_new _ _:Row _ _ 29 Z4) (Nat.le_refl _)
 rw[←hW3]at h3
 have hsz:∀(w:World) (o:Obj),(w.alloc o).heap.size=w.heap.size+1:=fun w o=>by simp
 simp only[hsz]at h3
 obtain⟨s0,hs0⟩:∃s0,s0=W.heap.size:=⟨_,rfl⟩
 rw[←hs0]at h3
 have h3:Wd X (os++numH s0 (s0+1) [.int .i64 first,.int .i64 nb,.int .i64 k,.int .i64 count] fr 0++[rowO (s0+1+1) 29 Z4]) m W3:=by
  unfold numH;simpa [List.append_assoc]using h3
 have hrow:Row W3 s0 29 [.int .i64 first,.int .i64 nb,.int .i64 k,.int .i64 count]:=h3.row (i:=os.length) (by unfold numH;simp)
 have hcg:=wd_change (width:=k+1) (num_how (X:=X) (pre:=os) (gF:=s0) (gI:=s0+1) (k:=k) (f0:=.int .i64 first) (f1:=.int .i64 nb) (f3:=.int .i64 count) (fr:=fr) (l:=l) hk (by rw[hc];exact hfr)) h3 hf (by simp[hmem]) hc hwd (fun j t u ht hu=>by
   have hj:j<l.length:=by
    rcases Nat.lt_or_ge j l.length with hl|hl
    ·exact hl
    ·rw[List.getElem?_eq_none hl]at ht;cases ht
   have hft:=hf.fit t (List.mem_of_getElem? ht)
   unfold numC at hu
   injection hu with hu
   subst hu
   refine⟨setT_ok hk hft.1 ?_,setT_fits hk hft.2⟩
   rw[hc]at hj
   exact I64.of (by omega) (by omega)) (by rw[sumN_app,sumN_app,gw_bare (numH s0 (s0+1) [.int .i64 first,.int .i64 nb,.int .i64 k,.int .i64 count] fr 0) (fun q hq=>by simp[numH]at hq;rcases hq with rfl|rfl<;>exact⟨rfl,rfl⟩),gw_bare [rowO (s0+1+1) 29 Z4] (fun q hq=>by simp at hq;subst hq;exact⟨rfl,rfl⟩)];omega) hn
 have HCG:=Lib.hid hcg
 have HST:Hid (∀e w',ChgRes X os [rowO (s0+1+1) 29 Z4] (numH s0 (s0+1) [.int .i64 first,.int .i64 nb,.int .i64 k,.int .i64 count] fr) (outL (numC k fr) l count) m nb count (k+1) e w'→ _):=fun e w' q=>op_states (fun i q hq=>by simp[numH]at hq;rcases hq with rfl|rfl<;>exact⟨rfl,rfl⟩) q
 obtain⟨k1,hk1⟩:∃k1,k1=k+1:=⟨_,rfl⟩
 have hk2:(k:Int)+1=(k1:Int):=by omega
 have hk5:¬(k:Int)=5:=by omega
 have hkb:k1≤5:=by omega
 rw[←hk1]at HCG HST⊢
 generalize ChgRes X os [rowO (s0+1+1) 29 Z4] (numH s0 (s0+1) [.int .i64 first,.int .i64 nb,.int .i64 k,.int .i64 count] fr) (outL (numC k fr) l count) m nb count k1=CRES at*
 generalize OpRes X os (outL (numC k fr) l count) m nb count k1=POST at*
 have HW3:=Lib.hid hW3
 have a0:W3.cell? ⟨s0,0,none⟩=some (.int .i64 first):=hrow.cell 0
 have a1:W3.cell? ⟨s0,1,none⟩=some (.int .i64 nb):=hrow.cell 1
 have a2:W3.cell? ⟨s0,2,none⟩=some (.int .i64 k):=hrow.cell 2
 have a3:W3.cell? ⟨s0,3,none⟩=some (.int .i64 count):=hrow.cell 3
 replace hs0:=Lib.hid hs0
 clear h1 h2 h3 h hW3 hsz hrow hcg hf hmem hc hk hfr hroom hn hwd hk1
 go_enter Try.func8,Try.ntmps8
 go_upto_region 1 with(fail)
 rw[←HW3.out,←hs0.out]
 clear HW3
 go_wp2_with fail
 refine HCG.out.mono ?_
 rintro e w6 h6
 obtain⟨C,F,N,K,L,er,rfl,hC,hCr,hCs,hCe⟩:=HST.out e w6 h6
 have HR6:=Lib.hid (hCr _ _ hC)
 have H9:=Lib.hid (hCs Z4 w6 (.int .i64 F) (.int .i64 N) (.int .i64 K) (.int .i64 L) rfl hC)
 have HR9:=Lib.hid (hCr _ _ H9.out)
 have HE:=Lib.hid (hCe _ _ H9.out)
 clear h6 hC hCr hCs hCe a0 a1 a2 a3
 have z0:w6.cell? ⟨s0+1+1,0,none⟩=some (.int .i64 0):=HR6.out.cell 0
 have z1:w6.cell? ⟨s0+1+1,1,none⟩=some (.int .i64 0):=HR6.out.cell 1
 have z2:w6.cell? ⟨s0+1+1,2,none⟩=some (.int .i64 0):=HR6.out.cell 2
 have z3:w6.cell? ⟨s0+1+1,3,none⟩=some (.int .i64 0):=HR6.out.cell 3
 have f0:=HR6.out.free 0
 have f1:=HR6.out.free 1
 have f2:=HR6.out.free 2
 have f3:=HR6.out.free 3
 go_wp2
 have r0:=HR9.out.cell 0
 have r1:=HR9.out.cell 1
 have r2:=HR9.out.cell 2
 have r3:=HR9.out.cell 3
 simp only[List.getElem?_cons_zero,List.getElem?_cons_succ]at r0 r1 r2 r3
 refine bodyPost_ret (v:=.tuple #[.agg #[.int .i64 F,.int .i64 N,.int .i64 K,.int .i64 L],.int .i64 er]) (by simp[results,Try.results8,go_sem,r0,r1,r2,r3]) rfl ?_
 exact HE.out
end
section
variable {X : Cx} {os : List Asn} {m : Nat} {W : World}
theorem rm_law(hS:X.S0=newSp 0 5000)(hl:os.length≤11)(hos:∀a∈os,a.ex.2≤200){n:Nat}(hn:n≤200):∃z,Rm X os z n:=
 rm_many (b:=5000) hS (q:=200) (c:=os.length) (os.map Asn.ex) (fun e he=>by
  obtain⟨a,ha,rfl⟩:=List.mem_map.1 he
  exact hos a ha) (by simp) (fun a ha=>.inr (List.mem_map_of_mem ha)) (by
  have:os.length*(n+200)≤11*400:=Nat.mul_le_mul hl (by omega)
  omega)
theorem op_good{Out:List Tup}{nb bd k:Nat}{e:Ending}{w':World}(h:OpRes X os Out m nb bd k e w')(hcm:X.cm)(hz:∃z,Rm X os z (blocksN (holdsI X.sz k) bd)):
  ∃F N:Nat,e=.returned (.tuple #[.agg #[.int .i64 F,.int .i64 N,.int .i64 k,.int .i64 (Out.length:Nat)],.int .i64 0])∧FOk F N k (holdsI X.sz k) Out X.sz∧Wd X (os++[fiO F N k (holdsI X.sz k) Out X.sz]) (m+N+nb) w':=by
 rcases h with h|⟨er,_,_,⟨_,hno⟩|⟨_,hno⟩,_⟩
 ·exact h
 ·exact absurd hcm hno
 ·obtain⟨z,hz⟩:=hz
  exact absurd hz (hno z)
end
theorem number_wide(p:Value)(f0 f1 f3 fr:Int)(w:World):Calls Try.prog 8 #[p,.agg #[.int .i64 f0,.int .i64 f1,.int .i64 5,.int .i64 f3],.int .i64 fr] w fun e w'=>e=.returned (.tuple #[.agg #[.int .i64 0,.int .i64 0,.int .i64 0,.int .i64 0],.int .i64 1])∧Below w.heap.size w w':=by
 have HB:Hid (∀o1 o2 o3,Below w.heap.size w (((w.alloc o1).alloc o2).alloc o3)):=fun o1 o2 o3=>by
  have q1:=(Below.refl w.heap.size w).alloc (Nat.le_refl _) o1
  have q2:=q1.alloc q1.size o2
  exact q2.alloc q2.size _
 go_enter Try.func8,Try.ntmps8
 go_wp2
 refine bodyPost_ret (v:=.tuple #[.agg #[.int .i64 0,.int .i64 0,.int .i64 0,.int .i64 0],.int .i64 1]) (by simp[results,Try.results8,go_sem]) rfl ?_
 exact⟨rfl,HB.out _ _ _⟩
def l57:List Tup:=[⟨5,0,0,0,0⟩,⟨7,0,0,0,0⟩]
theorem readsT_57{W:World}{b:Nat}(h:Row W b 57 (flatV l57)):ReadsT W W.heap.size (some ⟨b,0,none⟩) 2 l57:=by
 have ho:W.ownsRow 0 57 5 (.slice (some ⟨b,0,none⟩) 2 2) 2 (flatV l57):=⟨rfl,.inr ⟨b,2,(flatV l57).toArray,rfl,Nat.zero_le _,h,Nat.le_refl _,by decide,rfl,rfl⟩⟩
 obtain⟨A,c,he,hr,_⟩:=ownT_reads ho (fun u hu=>small_ok (by
  simp[l57]at hu
  rcases hu with rfl|rfl<;>simp[Tup.cols]))
 injection he with e1 e2 e3
 subst e1
 exact hr
theorem awake13_any(w:World):Calls Try.prog 6 #[] w fun e w'=>e=.returned (.bool true)∧Below w.heap.size w w':=by
 have HW:=Lib.hid (work13_any w)
 go_enter Try.func6,Try.ntmps6
 go_wp2_with fail
 refine HW.out.mono ?_
 rintro e w1 ⟨p,G,rfl,hs,hG,hb⟩
 have h1:Wd (cxL w p 60 12 5000 True 0) [] 0 w1:=cx_start hs hG hb (by omega) (by omega)
 have h2:=h1.new ((Below.refl w1.heap.size w1).alloc (Nat.le_refl _) (.cells #[.int .i64 5,.int .i64 0,.int .i64 0,.int .i64 0,.int .i64 0,.int .i64 7,.int .i64 0,.int .i64 0,.int .i64 0,.int .i64 0] 57)) (heap_alloc_new _ _:Row _ _ 57 (flatV l57)) (Nat.le_refl _)
 have h2:Wd (cxL w p 60 12 5000 True 0) [rowO w1.heap.size 57 (flatV l57)] 0 (w1.alloc (.cells #[.int .i64 5,.int .i64 0,.int .i64 0,.int .i64 0,.int .i64 0,.int .i64 7,.int .i64 0,.int .i64 0,.int .i64 0,.int .i64 0] 57)):=h2
 have HL:Hid (Calls Try.prog 20 #[.pointer (some ⟨p.w,0,none⟩),.int .i64 1,.slice (some ⟨w1.heap.size,0,none⟩) 2 2] (w1.alloc (.cells #[.int .i64 5,.int .i64 0,.int .i64 0,.int .i64 0,.int .i64 0,.int .i64 7,.int .i64 0,.int .i64 0,.int .i64 0,.int .i64 0] 57)) fun e w'=>
   ∃F N:Nat,e=.returned (.tuple #[.agg #[.int .i64 F,.int .i64 N,.int .i64 1,.int .i64 2],.int .i64 0])∧FOk F N 1 (holdsI 12 ((1:Nat):Int)) l57 12∧Wd (cxL w p 60 12 5000 True 0) [rowO w1.heap.size 57 (flatV l57),fiO F N 1 (holdsI 12 ((1:Nat):Int)) l57 12] (0+N) w'):=
  wd_lay (k:=1) (n:=2) (c:=2) h2 trivial (by omega) (fun z m' W' q=>readsT_57 (q.row (i:=0) (by simp))) (by decide) (by decide) (by show 12+0≤60;omega) (by show 0+0+2+1≤1000000;omega) (rm_law rfl (by simp) (fun a ha=>by simp at ha;subst ha;exact Nat.zero_le _) (Nat.le_trans (blocks_le _ _) (by decide)))
 clear hs hG hb HW h1 h2
 go_wp2_with fail
 refine HL.out.mono ?_
 rintro e w2 ⟨F,N,rfl,hfo,hw2⟩
 have hN:N≤2:=by rw[hfo.bn];exact blocks_le _ _
 have HNU:Hid (∀W,Below w2.heap.size w2 W→Calls Try.prog 8 #[.pointer (some ⟨p.w,0,none⟩),.agg #[.int .i64 F,.int .i64 N,.int .i64 1,.int .i64 2],.int .i64 3] W fun e w'=>
   ∃F' N':Nat,e=.returned (.tuple #[.agg #[.int .i64 F',.int .i64 N',.int .i64 2,.int .i64 2],.int .i64 0])∧Below w.heap.size w w'):=fun W hb=>by
  refine(wd_number (X:=cxL w p 60 12 5000 True 0) (fr:=3) (hw2.below hb) hfo (List.mem_cons_of_mem _ List.mem_cons_self) (count:=2) rfl (by omega) (by omega) (by show 2*12+0≤60;omega) (by show 0+(0+N)+N+2+2≤1000000;omega) (hol_pos (by omega) (by show 8≤12∧12≤256;omega)).1).mono ?_
  rintro e w' h9
  obtain⟨F',N',he,_,hw⟩:=op_good h9 trivial (rm_law rfl (by simp) (fun a ha=>by
   simp at ha
   rcases ha with rfl|rfl
   ·exact Nat.zero_le _
   ·exact(show N≤200 by omega)) (Nat.le_trans (blocks_le _ _) (by omega)))
  exact⟨F',N',he,hw.bel⟩
 have HB2:=Lib.hid hw2.size
 clear HL hfo hw2 hN
 go_wp2_with fail
 refine(HNU.out _ ((Below.refl _ _).alloc (Nat.le_refl _) _)).mono ?_
 rintro e w4 ⟨F',N',rfl,hb4⟩
 have HB4:=Lib.hid (hb4.alloc hb4.size (.cells #[.int .i64 F',.int .i64 N',.int .i64 2,.int .i64 2] 29))
 clear hb4 HNU
 go_wp2
 go_ret
 exact⟨rfl,HB4.out⟩
section
variable {X : Cx} {os : List Asn} {m : Nat} {W : World}
def sumTo(bs:Nat→Nat):Nat→Nat
 |0=>0
 |i+1=>sumTo bs i+bs i
theorem clean13_any{rb n c:Nat}{bs:Nat→Nat}(h:Wd X os m W)(hS:X.S0=newSp 0 5000)(hgw:sumN Asn.gw os=0)(hxw:sumN Asn.xw os=sumTo bs n)(hn:n≤10)(hbs:∀i,i<n→bs i≤5000∧W.cell? ⟨rb,i*4+1,none⟩=some (.int .i64 (bs i:Nat)))(hrb:0<n→rb<W.heap.size):
  Calls Try.prog 10 #[.pointer (some ⟨X.p.w,0,none⟩),.slice (some ⟨rb,0,none⟩) n c] W fun e w'=>e=.returned (.bool true)∧Wd X os m w':=by
 have hle:sumTo bs n≤5000:=by
  obtain⟨G,D,A,S,hF⟩:=id h
  have h1:=hF.sum
  rw[hS,newsp_sum]at h1
  omega
 have hmono:∀i j,i≤j→sumTo bs i≤sumTo bs j:=fun i j hij=>by
  induction j with
  |zero=>rw[show i=0 by omega];exact Nat.le_refl _
  |succ j ih=>
   rcases Nat.lt_or_ge i (j+1)with h1|h1
   ·exact Nat.le_trans (ih (by omega)) (Nat.le_add_right _ _)
   ·rw[show i=j+1 by omega];exact Nat.le_refl _
 have HAR:=Lib.hid (wd_arn h)
 have HUS:Hid (Calls Try.prog 25 #[.pointer (some ⟨X.p.a,0,none⟩)] W fun e w'=>e=.returned (.int .i64 0)∧w'=W):=by
  have:=wd_used h;rw[hgw]at this;exact this
 have HSP:=Lib.hid (wd_spc h)
 have HFR:Hid (Calls Try.prog 27 #[.pointer (some ⟨X.p.s,0,none⟩)] W fun e w'=>e=.returned (.int .i64 ((5000-sumTo bs n:Nat):Int))∧Wd X os m w'):=by
  have:=wd_nfree h;rw[hS,newsp_sum,hxw]at this;exact this
 have HBS:=Lib.hid hbs
 have HRB:=Lib.hid hrb
 have HMO:=Lib.hid hmono
 have HLE:=Lib.hid hle
 clear h hS hgw hxw hbs hmono hle hrb
 go_enter Try.func10,Try.ntmps10
 go_wp2_with fail
 go_loopw [5,6] (fun sv iv wr=>∃i:Nat,i≤n∧iv=.int .i64 (i:Int)∧sv=.int .i64 (sumTo bs i:Nat)∧wr=W) (fun _ iv _=>n-(intOf iv).toNat)
 case atStart=>exact⟨0,Nat.zero_le _,rfl,rfl,rfl⟩
 case round=>
  obtain⟨i,hi,rfl,rfl,rfl⟩:=hrel
  by_cases hlt:i<n
  ·have g0:decide ((i:Int)<(n:Int))=true:=by simpa using hlt
   have hi0:(0:Int)≤(i:Int):=by omega
   have hi1:(i:Int)<(n:Int):=by omega
   obtain⟨hb,q1⟩:=HBS.out i hlt
   have hrb:=HRB.out (by omega)
   have hs1:=HMO.out i n hi
   have hs2:=HLE.out
   obtain⟨s,hs⟩:∃s,s=sumTo bs i:=⟨_,rfl⟩
   obtain⟨b,hb'⟩:∃b,b=bs i:=⟨_,rfl⟩
   obtain⟨t,ht⟩:∃t,t=s+b:=⟨_,rfl⟩
   have HT:Hid (sumTo bs (i+1)=t):=by unfold Hid;rw[ht,hs,hb'];rfl
   rw[←hb']at q1 hb
   rw[←hs]at hs1⊢
   have s1:(s:Int)+(b:Int)=(t:Int):=by omega
   have htb:t≤20000:=by omega
   clear hs hb' ht hs1 hs2
   go_wp2
   go_roundw
   case rel=>exact⟨i+1,by omega,by go_num,by rw[HT.out],by trivial⟩
   case measure=>simp[intOf];omega
  ·obtain rfl:i=n:=by omega
   have g0:decide ((i:Int)<(i:Int))=false:=by simp
   have hs2:=HLE.out
   obtain⟨s,hs⟩:∃s,s=sumTo bs i:=⟨_,rfl⟩
   obtain⟨d,hd⟩:∃d,d=5000-s:=⟨_,rfl⟩
   rw[←hs]at HFR hs2⊢
   rw[←hd]at HFR
   have s1:(5000:Int)-(s:Int)=(d:Int):=by omega
   clear hs hd
   go_wp2_with fail
   refine HAR.out.mono ?_
   rintro e w1 ⟨rfl,rfl⟩
   go_wp2_with fail
   refine HUS.out.mono ?_
   rintro e w1 ⟨rfl,rfl⟩
   go_wp2_with fail
   refine HSP.out.mono ?_
   rintro e w1 ⟨rfl,rfl⟩
   go_wp2_with fail
   refine HFR.out.mono ?_
   rintro e w1 ⟨rfl,h1⟩
   have H1:=Lib.hid h1
   clear h1
   go_wp2
   go_ret
   exact⟨rfl,H1.out⟩
end
theorem hascol_any(f0 f1 f2 f3 c:Int)(w:World):Calls Try.prog 31 #[.agg #[.int .i64 f0,.int .i64 f1,.int .i64 f2,.int .i64 f3],.int .i64 c] w fun e w'=>e=.returned (.bool (decide (0≤c∧c<f2)))∧Below w.heap.size w w':=by
 by_cases h0:0≤c
 ·have g0:decide (c≥0)=true:=by simpa using h0
  have HE:Hid (decide (0≤c∧c<f2)=decide (c<f2)):=by unfold Hid;simp[h0]
  clear h0
  go_enter Try.func31,Try.ntmps31
  go_wp2
  go_ret
  rw[HE.out]
  exact⟨rfl,(Below.refl _ _).alloc (Nat.le_refl _) _⟩
 ·have g0:decide (c≥0)=false:=by simp;omega
  have HE:Hid (decide (0≤c∧c<f2)=false):=by unfold Hid;simp;omega
  clear h0
  go_enter Try.func31,Try.ntmps31
  go_wp2
  go_ret
  rw[HE.out]
  exact⟨rfl,(Below.refl _ _).alloc (Nat.le_refl _) _⟩
section
variable {X : Cx} {m : Nat} {W : World}
def keepH(g:Nat)(fc:List Value)(col:Nat)(lo hi:Int)(_:Nat):List Asn:=[rowO g 29 fc,rowO (g+1) 3 [.int .i64 col],rowO (g+2) 2 [.int .i64 lo],rowO (g+3) 2 [.int .i64 hi]]
def keepC(col:Nat)(lo hi:Int)(_:Nat)(t:Tup):Option Tup:=if lo≤colT t col∧colT t col≤hi then some t else none
theorem keep_how{pre:List Asn}{g col:Nat}{fc:List Value}{lo hi:Int}{l:List Tup}(hk:col<5):
  HowC X pre 32 #[.pointer (some ⟨g+2,0,none⟩),.pointer (some ⟨g+1,0,none⟩),.pointer (some ⟨g+3,0,none⟩)] l (keepC col lo hi) (keepH g fc col lo hi) 4 where
 ent:=fun args w=>by kernel_rfl
 len:=fun _=>rfl
 how:=fun j zz m W t ht h=>by
  obtain⟨W2,hW2⟩:∃W2,W2=(W.alloc (.cells #[.int .i64 t.a,.int .i64 t.b,.int .i64 t.c,.int .i64 t.d,.int .i64 t.e] 57)).alloc (.cells #[.int .i64 0,.int .i64 0,.int .i64 0,.int .i64 0,.int .i64 0] 57):=⟨_,rfl⟩
  have h1:=h.new ((Below.refl W.heap.size W).alloc (Nat.le_refl _) (.cells #[.int .i64 t.a,.int .i64 t.b,.int .i64 t.c,.int .i64 t.d,.int .i64 t.e] 57)) (heap_alloc_new _ _:Row _ _ 57 (tupC t)) (Nat.le_refl _)
  have h2:=h1.new ((Below.refl _ _).alloc (Nat.le_refl _) (.cells #[.int .i64 0,.int .i64 0,.int .i64 0,.int .i64 0,.int .i64 0] 57)) (heap_alloc_new _ _:Row _ _ 57 Z5) (Nat.le_refl _)
  rw[←hW2,show (W.alloc (.cells #[.int .i64 t.a,.int .i64 t.b,.int .i64 t.c,.int .i64 t.d,.int .i64 t.e] 57)).heap.size=W.heap.size+1 by simp]at h2
  obtain⟨s0,hs0⟩:∃s0,s0=W.heap.size:=⟨_,rfl⟩
  rw[←hs0]at h2
  obtain⟨A,hA⟩:∃A:List Value→World→Prop,∀c2 w,A c2 w↔Wd X (pre++keepH g fc col lo hi 0++(zz++[rowO s0 57 (tupC t),rowO (s0+1) 57 c2])) m w:=⟨_,fun _ _=>Iff.rfl⟩
  have hpl:(pre++keepH g fc col lo hi 0).length=pre.length+4:=by simp[keepH]
  have HA0:Hid (A Z5 W2):=(hA _ _).2 (by simpa [List.append_assoc,keepH]using h2)
  have HAD:Hid (∀c2 w q,A c2 w→A c2 (w.drewN q)):=fun c2 w q hq=>(hA _ _).2 (((hA _ _).1 hq).drewN q)
  have HROW:Hid (∀c2 w,A c2 w→Row w (g+1) 3 [.int .i64 col]∧Row w (g+2) 2 [.int .i64 lo]∧Row w (g+3) 2 [.int .i64 hi]∧Row w s0 57 (tupC t)∧Row w (s0+1) 57 c2):=fun c2 w q=>by
   have q:=(hA _ _).1 q
   exact⟨q.row (i:=pre.length+1) (by simp[keepH]),q.row (i:=pre.length+2) (by simp[keepH]),q.row (i:=pre.length+3) (by simp[keepH]),q.row (ix_at1 hpl),q.row (ix_at2 hpl)⟩
  have HS2:Hid (∀c2 w j x,A c2 w→A (c2.set j x) (w.setCell ⟨s0+1,j,none⟩ x)):=fun c2 w j x q=>by
   have q1:=((hA _ _).1 q).store (ix_at2 hpl) (by decide) j x
   rw[ix_set2 hpl]at q1
   exact(hA _ _).2 q1
  have HEND:Hid (∀c2 w,A c2 w→Wd X (pre++keepH g fc col lo hi (j+1)++zz) m w):=fun c2 w q=>by
   have q:=(hA _ _).1 q
   rw[←List.append_assoc]at q
   have q2:=Wd.cuts (b:=[]) [rowO s0 57 (tupC t),rowO (s0+1) 57 c2] (fun y hy=>by simp at hy;rcases hy with rfl|rfl<;>exact⟨rfl,rfl⟩) (by rw[List.append_nil];exact q)
   rwa [List.append_nil]at q2
  have HT3:=Lib.hid (tupC_at t hk)
  obtain⟨x,hx⟩:∃x,x=colT t col:=⟨_,rfl⟩
  rw[←hx]at HT3
  have HC:Hid (keepC col lo hi j t=if lo≤x∧x≤hi then some t else none):=by unfold Hid keepC;rw[hx]
  have HW2:=Lib.hid hW2
  replace hs0:=Lib.hid hs0
  have hki:(col:Int)<5:=by omega
  have hk0:(0:Int)≤(col:Int):=by omega
  clear h1 h2 h hpl hA hW2 hx ht
  have HA1:=Lib.hid (HAD.out _ _ 1 HA0.out)
  rw[show W2.drewN 1=W2.drew from rfl]at HA1
  obtain⟨p1,p2,p3,p4,p5⟩:=HROW.out _ _ HA1.out
  have q1:W2.drew.cell? ⟨g+1,0,none⟩=some (.int .i64 col):=p1.cell 0
  have q2:W2.drew.cell? ⟨g+2,0,none⟩=some (.int .i64 lo):=p2.cell 0
  have q3:W2.drew.cell? ⟨g+3,0,none⟩=some (.int .i64 hi):=p3.cell 0
  have qk:W2.drew.cell? ⟨s0,col,none⟩=some (.int .i64 x):=(p4.cell col).trans HT3.out
  have d0:W2.drew.cell? ⟨s0,0,none⟩=some (.int .i64 t.a):=p4.cell 0
  have d1:W2.drew.cell? ⟨s0,1,none⟩=some (.int .i64 t.b):=p4.cell 1
  have d2:W2.drew.cell? ⟨s0,2,none⟩=some (.int .i64 t.c):=p4.cell 2
  have d3:W2.drew.cell? ⟨s0,3,none⟩=some (.int .i64 t.d):=p4.cell 3
  have d4:W2.drew.cell? ⟨s0,4,none⟩=some (.int .i64 t.e):=p4.cell 4
  have z0:W2.drew.cell? ⟨s0+1,0,none⟩=some (.int .i64 0):=p5.cell 0
  have z1:W2.drew.cell? ⟨s0+1,1,none⟩=some (.int .i64 0):=p5.cell 1
  have z2:W2.drew.cell? ⟨s0+1,2,none⟩=some (.int .i64 0):=p5.cell 2
  have z3:W2.drew.cell? ⟨s0+1,3,none⟩=some (.int .i64 0):=p5.cell 3
  have z4:W2.drew.cell? ⟨s0+1,4,none⟩=some (.int .i64 0):=p5.cell 4
  have f0:=p5.free 0
  have f1:=p5.free 1
  have f2:=p5.free 2
  have f3:=p5.free 3
  have f4:=p5.free 4
  clear p1 p2 p3 p4 p5
  obtain⟨p1,p2,p3,p4,p5⟩:=HROW.out _ _ HA0.out
  have y0:W2.cell? ⟨s0+1,0,none⟩=some (.int .i64 0):=p5.cell 0
  have y1:W2.cell? ⟨s0+1,1,none⟩=some (.int .i64 0):=p5.cell 1
  have y2:W2.cell? ⟨s0+1,2,none⟩=some (.int .i64 0):=p5.cell 2
  have y3:W2.cell? ⟨s0+1,3,none⟩=some (.int .i64 0):=p5.cell 3
  have y4:W2.cell? ⟨s0+1,4,none⟩=some (.int .i64 0):=p5.cell 4
  have e0:=p5.free 0
  have e1:=p5.free 1
  have e2:=p5.free 2
  have e3:=p5.free 3
  have e4:=p5.free 4
  clear p1 p2 p3 p4 p5
  have ha3:=HAD.out _ _ 1 (HS2.out _ _ 4 (.int .i64 t.e) (HS2.out _ _ 3 (.int .i64 t.d) (HS2.out _ _ 2 (.int .i64 t.c) (HS2.out _ _ 1 (.int .i64 t.b) (HS2.out _ W2 0 (.int .i64 t.a) HA0.out)))))
  rw[show∀w:World,w.drewN 1=w.drew from fun _=>rfl]at ha3
  have HA3:=Lib.hid ha3
  clear ha3
  obtain⟨p1,p2,p3,p4,p5⟩:=HROW.out _ _ HA3.out
  have v1:(((((W2.setCell ⟨s0+1,0,none⟩ (.int .i64 t.a)).setCell ⟨s0+1,1,none⟩ (.int .i64 t.b)).setCell ⟨s0+1,2,none⟩ (.int .i64 t.c)).setCell ⟨s0+1,3,none⟩ (.int .i64 t.d)).setCell ⟨s0+1,4,none⟩ (.int .i64 t.e)).drew.cell? ⟨g+1,0,none⟩=some (.int .i64 col):=p1.cell 0
  have v2:(((((W2.setCell ⟨s0+1,0,none⟩ (.int .i64 t.a)).setCell ⟨s0+1,1,none⟩ (.int .i64 t.b)).setCell ⟨s0+1,2,none⟩ (.int .i64 t.c)).setCell ⟨s0+1,3,none⟩ (.int .i64 t.d)).setCell ⟨s0+1,4,none⟩ (.int .i64 t.e)).drew.cell? ⟨g+2,0,none⟩=some (.int .i64 lo):=p2.cell 0
  have v3:(((((W2.setCell ⟨s0+1,0,none⟩ (.int .i64 t.a)).setCell ⟨s0+1,1,none⟩ (.int .i64 t.b)).setCell ⟨s0+1,2,none⟩ (.int .i64 t.c)).setCell ⟨s0+1,3,none⟩ (.int .i64 t.d)).setCell ⟨s0+1,4,none⟩ (.int .i64 t.e)).drew.cell? ⟨g+3,0,none⟩=some (.int .i64 hi):=p3.cell 0
  have vk:(((((W2.setCell ⟨s0+1,0,none⟩ (.int .i64 t.a)).setCell ⟨s0+1,1,none⟩ (.int .i64 t.b)).setCell ⟨s0+1,2,none⟩ (.int .i64 t.c)).setCell ⟨s0+1,3,none⟩ (.int .i64 t.d)).setCell ⟨s0+1,4,none⟩ (.int .i64 t.e)).drew.cell? ⟨s0,col,none⟩=some (.int .i64 x):=(p4.cell col).trans HT3.out
  have HR9:=Lib.hid p5
  clear p1 p2 p3 p4 p5
  unfold tupV
  by_cases h0:lo≤x
  ·have g0:decide (lo≤x)=true:=by simpa using h0
   go_enter Try.func32,Try.ntmps32
   go_upto_region 1 with(fail)
   rw[←HW2.out,←hs0.out]
   clear HW2
   go_region
   generalize(((((W2.setCell ⟨s0+1,0,none⟩ (.int .i64 t.a)).setCell ⟨s0+1,1,none⟩ (.int .i64 t.b)).setCell ⟨s0+1,2,none⟩ (.int .i64 t.c)).setCell ⟨s0+1,3,none⟩ (.int .i64 t.d)).setCell ⟨s0+1,4,none⟩ (.int .i64 t.e)).drew=W9 at*
   go_wp2
   have r0:=HR9.out.cell 0
   have r1:=HR9.out.cell 1
   have r2:=HR9.out.cell 2
   have r3:=HR9.out.cell 3
   have r4:=HR9.out.cell 4
   simp only[Z5,List.set_cons_zero,List.set_cons_succ,List.getElem?_cons_zero,List.getElem?_cons_succ]at r0 r1 r2 r3 r4
   refine bodyPost_ret (v:=.tuple #[tupV t,.bool (decide (x≤hi))]) (by unfold tupV;simp[results,Try.results32,go_sem,r0,r1,r2,r3,r4]) rfl ?_
   refine⟨t,(decide (x≤hi)),rfl,?_,HEND.out _ _ HA3.out⟩
   rw[HC.out];simp[h0]
  ·have g0:decide (lo≤x)=false:=by simpa using h0
   go_enter Try.func32,Try.ntmps32
   go_upto_region 1 with(fail)
   rw[←HW2.out,←hs0.out]
   clear HW2
   go_region
   generalize(((((W2.setCell ⟨s0+1,0,none⟩ (.int .i64 t.a)).setCell ⟨s0+1,1,none⟩ (.int .i64 t.b)).setCell ⟨s0+1,2,none⟩ (.int .i64 t.c)).setCell ⟨s0+1,3,none⟩ (.int .i64 t.d)).setCell ⟨s0+1,4,none⟩ (.int .i64 t.e)).drew=W9 at*
   go_wp2
   have r0:=HR9.out.cell 0
   have r1:=HR9.out.cell 1
   have r2:=HR9.out.cell 2
   have r3:=HR9.out.cell 3
   have r4:=HR9.out.cell 4
   simp only[Z5,List.set_cons_zero,List.set_cons_succ,List.getElem?_cons_zero,List.getElem?_cons_succ]at r0 r1 r2 r3 r4
   refine bodyPost_ret (v:=.tuple #[tupV t,.bool false]) (by unfold tupV;simp[results,Try.results32,go_sem,r0,r1,r2,r3,r4]) rfl ?_
   have hend:=HEND.out _ _ HA3.out
   exact⟨t,.inl ⟨rfl,by rw[HC.out,if_neg (by omega)],by simpa [List.append_assoc]using hend⟩⟩
theorem wd_keep{os:List Asn}{first nb k hh count col:Nat}{l:List Tup}{lo hi:Int}(h:Wd X os m W)(hf:FOk first nb k hh l X.sz)(hmem:fiO first nb k hh l X.sz∈os)(hc:l.length=count)(hk:col<k)
  (hroom:2*X.sz+sumN Asn.gw os≤X.rm) (hn:X.N+m+nb+count+2≤1000000):
  Calls Try.prog 14 #[.pointer (some ⟨X.p.w,0,none⟩),.agg #[.int .i64 first,.int .i64 nb,.int .i64 k,.int .i64 count],.int .i64 col,.int .i64 lo,.int .i64 hi] W (OpRes X os (outL (keepC col lo hi) l count) m nb count k):=by
 obtain⟨W3,hW3⟩:∃W3,W3=((((W.alloc (.cells #[.int .i64 first,.int .i64 nb,.int .i64 k,.int .i64 count] 29)).alloc (.cells #[.int .i64 col] 3)).alloc (.cells #[.int .i64 lo] 2)).alloc (.cells #[.int .i64 hi] 2)).alloc (.cells #[.int .i64 0,.int .i64 0,.int .i64 0,.int .i64 0] 29):=⟨_,rfl⟩
 have h1:=h.new ((Below.refl W.heap.size W).alloc (Nat.le_refl _) (.cells #[.int .i64 first,.int .i64 nb,.int .i64 k,.int .i64 count] 29)) (heap_alloc_new _ _:Row _ _ 29 [.int .i64 first,.int .i64 nb,.int .i64 k,.int .i64 count]) (Nat.le_refl _)
 have h2:=h1.new ((Below.refl _ _).alloc (Nat.le_refl _) (.cells #[.int .i64 col] 3)) (heap_alloc_new _ _:Row _ _ 3 [.int .i64 col]) (Nat.le_refl _)
 have h2:=h2.new ((Below.refl _ _).alloc (Nat.le_refl _) (.cells #[.int .i64 lo] 2)) (heap_alloc_new _ _:Row _ _ 2 [.int .i64 lo]) (Nat.le_refl _)
 have h2:=h2.new ((Below.refl _ _).alloc (Nat.le_refl _) (.cells #[.int .i64 hi] 2)) (heap_alloc_new _ _:Row _ _ 2 [.int .i64 hi]) (Nat.le_refl _)
 have h3:=h2.new ((Below.refl _ _).alloc (Nat.le_refl _) (.cells #[.int .i64 0,.int .i64 0,.int .i64 0,.int .i64 0] 29)) (heap_alloc_new _ _:Row _ _ 29 Z4) (Nat.le_refl _)
 rw[←hW3]at h3
 have hsz:∀(w:World) (o:Obj),(w.alloc o).heap.size=w.heap.size+1:=fun w o=>by simp
 simp only[hsz,Nat.add_assoc,Nat.reduceAdd]at h3
 obtain⟨s0,hs0⟩:∃s0,s0=W.heap.size:=⟨_,rfl⟩
 rw[←hs0]at h3
 obtain⟨fc,hfc⟩:∃fc:List Value,fc=[.int .i64 first,.int .i64 nb,.int .i64 k,.int .i64 count]:=⟨_,rfl⟩
 rw[←hfc]at h3
 have h3:Wd X (os++keepH s0 fc col lo hi 0++[rowO (s0+4) 29 Z4]) m W3:=by
  unfold keepH;simpa [List.append_assoc]using h3
 have hrow:Row W3 s0 29 [.int .i64 first,.int .i64 nb,.int .i64 k,.int .i64 count]:=by rw[←hfc];exact h3.row (i:=os.length) (by unfold keepH;simp)
 have hrow1:Row W3 (s0+1) 3 [.int .i64 col]:=h3.row (i:=os.length+1) (by unfold keepH;simp)
 have hrow2:Row W3 (s0+2) 2 [.int .i64 lo]:=h3.row (i:=os.length+2) (by unfold keepH;simp)
 have hrow3:Row W3 (s0+3) 2 [.int .i64 hi]:=h3.row (i:=os.length+3) (by unfold keepH;simp)
 have hkk:=hf.kk
 have hbare:∀i,Bare (keepH s0 fc col lo hi i):=fun i q hq=>by simp[keepH]at hq;rcases hq with rfl|rfl|rfl|rfl<;>exact⟨rfl,rfl⟩
 have hcg:=fun(w:World) (hb:Below W3.heap.size W3 w)=>wd_change (width:=k) (keep_how (X:=X) (pre:=os) (g:=s0) (fc:=fc) (col:=col) (lo:=lo) (hi:=hi) (l:=l) (by omega)) (h3.below hb) hf (by simp[hmem]) hc (by rw[←hf.hol];exact hf.hh.1) (fun j t u ht hu=>by
   have hft:=hf.fit t (List.mem_of_getElem? ht)
   unfold keepC at hu
   split at hu
   ·injection hu with hu;subst hu;exact hft
   ·cases hu) (by rw[sumN_app,sumN_app,gw_bare _ (hbare 0),gw_bare [rowO (s0+4) 29 Z4] (fun q hq=>by simp at hq;subst hq;exact⟨rfl,rfl⟩)];omega) hn
 have HCG:=Lib.hid hcg
 have HST:Hid (∀e w',ChgRes X os [rowO (s0+4) 29 Z4] (keepH s0 fc col lo hi) (outL (keepC col lo hi) l count) m nb count k e w'→ _):=fun e w' q=>op_states hbare q
 have HHC:Hid (∀w,Calls Try.prog 31 #[.agg #[.int .i64 first,.int .i64 nb,.int .i64 k,.int .i64 count],.int .i64 col] w fun e w'=>e=.returned (.bool true)∧Below w.heap.size w w'):=fun w=>by
  have:=hascol_any first nb k count col w
  rwa [decide_eq_true (show (0:Int)≤col∧(col:Int)<k by omega)]at this
 generalize ChgRes X os [rowO (s0+4) 29 Z4] (keepH s0 fc col lo hi) (outL (keepC col lo hi) l count) m nb count k=CRES at*
 generalize OpRes X os (outL (keepC col lo hi) l count) m nb count k=POST at*
 have HW3:=Lib.hid hW3
 have HCE:Hid (∀w,Below W3.heap.size W3 w→(w.cell? ⟨s0,0,none⟩=some (.int .i64 first)∧w.cell? ⟨s0,1,none⟩=some (.int .i64 nb)∧w.cell? ⟨s0,2,none⟩=some (.int .i64 k)∧w.cell? ⟨s0,3,none⟩=some (.int .i64 count))∧w.cell? ⟨s0+1,0,none⟩=some (.int .i64 col)):=fun w hb=>by
  have q0:=hrow.below hb hrow.lt
  exact⟨⟨q0.cell 0,q0.cell 1,q0.cell 2,q0.cell 3⟩,(hrow1.below hb hrow1.lt).cell 0⟩
 obtain⟨⟨a0,a1,a2,a3⟩,a4⟩:=HCE.out W3 (Below.refl _ _)
 replace hs0:=Lib.hid hs0
 clear h1 h2 h3 h hW3 hsz hrow hrow1 hrow2 hrow3 hcg hf hmem hc hk hroom hn hkk hbare hfc
 go_enter Try.func14,Try.ntmps14
 go_upto_region 1 with(fail)
 rw[←HW3.out,←hs0.out]
 clear HW3
 go_wp2_with fail
 refine(HHC.out _).mono ?_
 rintro e w4 ⟨rfl,hb4⟩
 have HB4:=Lib.hid hb4
 clear hb4 a0 a1 a2 a3 a4
 obtain⟨⟨a0,a1,a2,a3⟩,a4⟩:=HCE.out w4 HB4.out
 have HC4:=Lib.hid (HCG.out w4 HB4.out)
 go_wp2_with fail
 refine HC4.out.mono ?_
 rintro e w6 h6
 obtain⟨C,F,N,K,L,er,rfl,hC,hCr,hCs,hCe⟩:=HST.out e w6 h6
 have HR6:=Lib.hid (hCr _ _ hC)
 have H9:=Lib.hid (hCs Z4 w6 (.int .i64 F) (.int .i64 N) (.int .i64 K) (.int .i64 L) rfl hC)
 have HR9:=Lib.hid (hCr _ _ H9.out)
 have HE:=Lib.hid (hCe _ _ H9.out)
 clear h6 hC hCr hCs hCe a0 a1 a2 a3 a4
 have z0:w6.cell? ⟨s0+4,0,none⟩=some (.int .i64 0):=HR6.out.cell 0
 have z1:w6.cell? ⟨s0+4,1,none⟩=some (.int .i64 0):=HR6.out.cell 1
 have z2:w6.cell? ⟨s0+4,2,none⟩=some (.int .i64 0):=HR6.out.cell 2
 have z3:w6.cell? ⟨s0+4,3,none⟩=some (.int .i64 0):=HR6.out.cell 3
 have f0:=HR6.out.free 0
 have f1:=HR6.out.free 1
 have f2:=HR6.out.free 2
 have f3:=HR6.out.free 3
 go_wp2
 have r0:=HR9.out.cell 0
 have r1:=HR9.out.cell 1
 have r2:=HR9.out.cell 2
 have r3:=HR9.out.cell 3
 simp only[List.getElem?_cons_zero,List.getElem?_cons_succ]at r0 r1 r2 r3
 refine bodyPost_ret (v:=.tuple #[.agg #[.int .i64 F,.int .i64 N,.int .i64 K,.int .i64 L],.int .i64 er]) (by simp[results,Try.results14,go_sem,r0,r1,r2,r3]) rfl ?_
 exact HE.out
end
def RL(W:World)(v:Value)(out:List Tup)(w:World):Prop:=Below W.heap.size W w∧w.ownsRow W.heap.size 57 5 v out.length (flatV out)
section
variable {W w w' : World} {v v' : Value} {out : List Tup} {t : Tup}
theorem RL.nil(W:World):RL W (.slice none 0 0) [] W:=⟨Below.refl _ _,ownT_nil _ _ _⟩
theorem RL.below(h:RL W v out w)(hb:Below w.heap.size w w'):RL W v out w':=⟨h.1.trans (hb.mono h.1.size),ownT_keep h.2 hb⟩
theorem RL.far{F:Nat→Prop}(h:RL W v out w)(hf:Far F w w')(hF:∀k,F k→W.heap.size≤k∧v.ownBlock≠some k):RL W v out w':=
 ⟨h.1.trans (hf.below h.1.size fun k hk=>(hF k hk).1),ownsRow_same h.2 fun k hk=>hf.block k (h.2.lt k hk).2 fun hk2=>(hF k hk2).2 hk⟩
theorem RL.push(h:RL W v out w)(hf:Far (fun k=>v.ownBlock=some k) w w')(ho:w'.ownsRow W.heap.size 57 5 v' (out.length+1) (flatV (out++[t]))):RL W v' (out++[t]) w':=
 ⟨h.1.trans (hf.below h.1.size fun k hk=>(h.2.lt k hk).1),by rw[List.length_append];exact ho⟩
end
theorem rnum_any(A:Option Addr)(n c:Nat)(l:List Tup)(k:Nat)(fr:Int)(W:World)(h:ReadsT W W.heap.size A n l)(hk:k<5)(hn:n≤1000)(hfr:-9223372036854775808≤fr∧fr+n≤9223372036854775807):
  Calls Try.prog 13 #[.slice A n c,.int .i64 k,.int .i64 fr] W fun e w'=>∃v,e=.returned v∧RL W v (outL (numC k fr) l n) w':=by
 have HRD:Hid (∀w,Below W.heap.size W w→ReadsT w w.heap.size A n l):=fun w hb=>(h.keep hb).mono hb.size
 have HLN:Hid (∀i,i≤n→(outL (numC k fr) l i).length=i):=fun i hi=>by
  induction i with
  |zero=>rfl
  |succ i ih=>
   obtain⟨t,ht⟩:∃t,l[i]?=some t:=⟨_,List.getElem?_eq_getElem (by rw[h.1];omega)⟩
   rw[outL_step ht,List.length_append,ih (by omega)];rfl
 have HST:Hid (∀(i:Nat) t v,l[i]?=some t→v=fr+i→outL (numC k fr) l (i+1)=outL (numC k fr) l i++[setT t k v]):=fun i t v ht hv=>by
  rw[outL_step ht,hv];rfl
 have HO0:Hid (outL (numC k fr) l 0=[]):=rfl
 have HTC:Hid (∀t v,(tupC t).set k (.int .i64 v)=tupC (setT t k v)):=fun t v=>setT_cells hk v
 have HT3:Hid (∀t,(tupC t)[k]?=some (.int .i64 (colT t k))):=fun t=>tupC_at t hk
 have hki:(k:Int)<5:=by omega
 have hk0:(0:Int)≤(k:Int):=by omega
 generalize outL (numC k fr) l=OL at*
 clear h hk
 go_enter Try.func13,Try.ntmps13
 go_wp2_with fail
 go_loopw [7,8] (fun lv iv wr=>∃i:Nat,i≤n∧iv=.int .i64 (i:Int)∧Hid (RL W lv (OL i) wr)) (fun _ iv _=>n-(intOf iv).toNat)
 case atStart=>exact⟨0,Nat.zero_le _,rfl,by unfold Hid;rw[HO0.out];exact RL.nil W⟩
 case round=>
  obtain⟨i,hi,rfl,HL⟩:=hrel
  by_cases hlt:i<n
  ·obtain⟨bb,off,tu,rfl,hbl,q0,q1,q2,q3,q4,_,htu⟩:=(HRD.out _ HL.out.1).at_ hlt
   have hi0:(0:Int)≤(i:Int):=by omega
   have hi1:(i:Int)<(n:Int):=by omega
   have g0:decide ((i:Int)<(n:Int))=true:=by simpa using hlt
   have hL3:=HL.out.below ((Below.refl wr.heap.size wr).alloc (Nat.le_refl _) (.cells #[.int .i64 tu.a,.int .i64 tu.b,.int .i64 tu.c,.int .i64 tu.d,.int .i64 tu.e] 57))
   have hr3:Row (wr.alloc (.cells #[.int .i64 tu.a,.int .i64 tu.b,.int .i64 tu.c,.int .i64 tu.d,.int .i64 tu.e] 57)) wr.heap.size 57 (tupC tu):=heap_alloc_new _ _
   have HNB:Hid (W.heap.size≤wr.heap.size∧∀v,RL W v (OL i) wr→v.ownBlock≠some wr.heap.size):=⟨HL.out.1.size,fun v q e=>by have:=(q.2.lt _ e).2;omega⟩
   have HL3:=Lib.hid hL3
   have HR3:=Lib.hid hr3
   clear hL3 hr3
   go_upto_region 6 with(fail)
   generalize wr.alloc (.cells #[.int .i64 tu.a,.int .i64 tu.b,.int .i64 tu.c,.int .i64 tu.d,.int .i64 tu.e] 57)=w3 at*
   clear q0 q1 q2 q3 q4
   generalize wr.heap.size=tb at*
   obtain⟨v,hv⟩:∃v:Int,v=fr+i:=⟨_,rfl⟩
   have hv1:fr+(i:Int)=v:=hv.symm
   have hvb:-9223372036854775808≤v∧v≤9223372036854775807:=by omega
   have qk:w3.cell? ⟨tb,k,none⟩=some (.int .i64 (colT tu k)):=(HR3.out.cell k).trans (HT3.out tu)
   have fk:=HR3.out.free k
   have HL4:=Lib.hid (HL3.out.far (Far.one tb k (.int .i64 v)) (fun q hq=>by rw[hq];exact⟨HNB.out.1,HNB.out.2 _ HL.out⟩))
   have hr4:=HR3.out.set k (.int .i64 v)
   rw[HTC.out]at hr4
   have HR4:=Lib.hid hr4
   obtain⟨u,hu⟩:∃u,u=setT tu k v:=⟨_,rfl⟩
   have hst:=HST.out i tu v htu.out hv
   rw[←hu]at hst HR4
   have HS4:=Lib.hid hst
   clear hr4 hst hv hu
   go_upto_region 7 with(fail)
   generalize w3.setCell ⟨tb,k,none⟩ (.int .i64 v)=w4 at*
   clear qk fk
   have d0:w4.cell? ⟨tb,0,none⟩=some (.int .i64 u.a):=HR4.out.cell 0
   have d1:w4.cell? ⟨tb,1,none⟩=some (.int .i64 u.b):=HR4.out.cell 1
   have d2:w4.cell? ⟨tb,2,none⟩=some (.int .i64 u.c):=HR4.out.cell 2
   have d3:w4.cell? ⟨tb,3,none⟩=some (.int .i64 u.d):=HR4.out.cell 3
   have d4:w4.cell? ⟨tb,4,none⟩=some (.int .i64 u.e):=HR4.out.cell 4
   have HL5:=Lib.hid (HL4.out.below ((Below.refl w4.heap.size w4).alloc (Nat.le_refl _) (.cells #[.int .i64 u.a,.int .i64 u.b,.int .i64 u.c,.int .i64 u.d,.int .i64 u.e] 57)))
   have hr5:Row (w4.alloc (.cells #[.int .i64 u.a,.int .i64 u.b,.int .i64 u.c,.int .i64 u.d,.int .i64 u.e] 57)) w4.heap.size 57 (tupC u):=heap_alloc_new _ _
   have HR5:=Lib.hid hr5
   have HN5:Hid ((OL i).length=i):=HLN.out i hi
   clear hr5
   go_wp2_with (with_reducible refine stopAt 28 ?_)
   unfold Hid
   refine wpList_push_tup rfl _ _ rfl HL5.out.2 rfl ⟨w4.heap.size,0,none⟩ rfl u (fun j y hj=>?_) (by rw[HN5.out];omega) HL5.out.1.size ?_
   ·rw[←hj,addr_add0]
    exact HR5.out.cell j
   intro v' W9 hown hfar hv'
   have hL9:=HL5.out.push hfar hown
   rw[←HS4.out]at hL9
   have HL9:=Lib.hid hL9
   clear hown hfar hv' hL9 d0 d1 d2 d3 d4
   go_wp2
   go_roundw
   case rel=>exact⟨i+1,by omega,by go_num,HL9.out⟩
   case measure=>simp[intOf];omega
  ·obtain rfl:i=n:=by omega
   have g0:decide ((i:Int)<(i:Int))=false:=by simp
   go_wp2
   go_ret
   exact⟨_,rfl,HL.out⟩
theorem rkeep_any(A:Option Addr)(n c:Nat)(l:List Tup)(col:Nat)(lo hi:Int)(W:World)(h:ReadsT W W.heap.size A n l)(hk:col<5)(hn:n≤1000):
  Calls Try.prog 15 #[.slice A n c,.int .i64 col,.int .i64 lo,.int .i64 hi] W fun e w'=>∃v,e=.returned v∧RL W v (outL (keepC col lo hi) l n) w':=by
 have HRD:Hid (∀w,Below W.heap.size W w→ReadsT w w.heap.size A n l):=fun w hb=>(h.keep hb).mono hb.size
 have HLN:Hid (∀i,i≤n→(outL (keepC col lo hi) l i).length≤i):=fun i hi=>outL_len _ _ _
 have HST:Hid (∀i t,l[i]?=some t→outL (keepC col lo hi) l (i+1)=if lo≤colT t col∧colT t col≤hi then outL (keepC col lo hi) l i++[t]else outL (keepC col lo hi) l i):=fun i t ht=>by
  rw[outL_step ht]
  unfold keepC
  split<;>simp
 have HO0:Hid (outL (keepC col lo hi) l 0=[]):=rfl
 have HT3:Hid (∀t,(tupC t)[col]?=some (.int .i64 (colT t col))):=fun t=>tupC_at t hk
 have HRK:Hid (∀w,Below W.heap.size W w→∀i,i<n→∀bb off,A=some ⟨bb,off,none⟩→∀t,l[i]?=some t→w.cell? ⟨bb,off+i*5+col,none⟩=some (.int .i64 (colT t col))):=fun w hb i hi bb off hA t ht=>by
  obtain⟨h1,h2,h3⟩:=h.keep hb
  obtain⟨b',off',hA',hlt,hc⟩:=h3 (by omega)
  rw[hA']at hA
  injection hA with hA;injection hA with e1 e2
  subst e1;subst e2
  refine hc i hi col _ ?_
  rw[List.getD_eq_getElem?_getD,ht]
  exact tupC_at t hk
 have hki:(col:Int)<5:=by omega
 have hk0:(0:Int)≤(col:Int):=by omega
 generalize outL (keepC col lo hi) l=OL at*
 clear h hk
 go_enter Try.func15,Try.ntmps15
 go_wp2_with fail
 go_loopw [9,10] (fun lv iv wr=>∃i:Nat,i≤n∧iv=.int .i64 (i:Int)∧Hid (RL W lv (OL i) wr)) (fun _ iv _=>n-(intOf iv).toNat)
 case atStart=>exact⟨0,Nat.zero_le _,rfl,by unfold Hid;rw[HO0.out];exact RL.nil W⟩
 case round=>
  obtain⟨i,hin,rfl,HL⟩:=hrel
  by_cases hlt:i<n
  ·obtain⟨bb,off,u,rfl,hbl,d0,d1,d2,d3,d4,_,htu⟩:=(HRD.out _ HL.out.1).at_ hlt
   have qk:=HRK.out wr HL.out.1 i hlt bb off rfl u htu.out
   have hi0:(0:Int)≤(i:Int):=by omega
   have hi1:(i:Int)<(n:Int):=by omega
   have g0:decide ((i:Int)<(n:Int))=true:=by simpa using hlt
   have HS4:=Lib.hid (HST.out i u htu.out)
   obtain⟨x,hx⟩:∃x,x=colT u col:=⟨_,rfl⟩
   rw[←hx]at qk HS4
   clear hx
   have no:∀b,b=(decide (lo≤x)&&decide (x≤hi))→b=false→¬(lo≤x∧x≤hi):=fun b hb h0 h1=>by rw[h0]at hb;simp at hb;omega
   have HNO:=Lib.hid no
   clear no
   by_cases h1:lo≤x
   ·have g1:decide (x≥lo)=true:=by simpa using h1
    by_cases h2:x≤hi
    ·have g2:decide (x≤hi)=true:=by simpa using h2
     have hs:=HS4.out
     rw[if_pos ⟨h1,h2⟩]at hs
     have HS5:=Lib.hid hs
     have HL5:=Lib.hid (HL.out.below ((Below.refl wr.heap.size wr).alloc (Nat.le_refl _) (.cells #[.int .i64 u.a,.int .i64 u.b,.int .i64 u.c,.int .i64 u.d,.int .i64 u.e] 57)))
     have hr5:Row (wr.alloc (.cells #[.int .i64 u.a,.int .i64 u.b,.int .i64 u.c,.int .i64 u.d,.int .i64 u.e] 57)) wr.heap.size 57 (tupC u):=heap_alloc_new _ _
     have HR5:=Lib.hid hr5
     have HN5:Hid ((OL i).length≤i):=HLN.out i hin
     clear hr5 hs
     go_wp2_with (with_reducible refine stopAt 41 ?_)
     unfold Hid
     refine wpList_push_tup rfl _ _ rfl HL5.out.2 rfl ⟨wr.heap.size,0,none⟩ rfl u (fun j y hj=>?_) (by have:=HN5.out;omega) HL5.out.1.size ?_
     ·rw[←hj,addr_add0]
      exact HR5.out.cell j
     intro v' W9 hown hfar hv'
     have hL9:=HL5.out.push hfar hown
     rw[←HS5.out]at hL9
     have HL9:=Lib.hid hL9
     clear hown hfar hv' hL9 d0 d1 d2 d3 d4 qk
     go_wp2
     go_roundw
     case rel=>exact⟨i+1,by omega,by go_num,HL9.out⟩
     case measure=>simp[intOf];omega
    ·have g2:decide (x≤hi)=false:=by simpa using h2
     have hs:=HS4.out
     rw[if_neg (by omega)]at hs
     have hL9:=HL.out
     rw[←hs]at hL9
     have HL9:=Lib.hid hL9
     clear hs hL9
     go_wp2
     go_roundw
     case rel=>exact⟨i+1,by omega,by go_num,HL9.out⟩
     case measure=>simp[intOf];omega
   ·have g1:decide (x≥lo)=false:=by simpa using h1
    have hs:=HS4.out
    rw[if_neg (by omega)]at hs
    have hL9:=HL.out
    rw[←hs]at hL9
    have HL9:=Lib.hid hL9
    clear hs hL9
    go_wp2
    go_roundw
    case rel=>exact⟨i+1,by omega,by go_num,HL9.out⟩
    case measure=>simp[intOf];omega
  ·obtain rfl:i=n:=by omega
   have g0:decide ((i:Int)<(i:Int))=false:=by simp
   go_wp2
   go_ret
   exact⟨_,rfl,HL.out⟩
section
variable {H : Type} {enc : TypeId × Value → H} {P : Program} {w : World} {base b0 : Nat} {spare : Nat → Bool} {held : Bool} {r : Reach}
theorem nat_u8{z:Int}(h:(Lit.int .u8 z).wf=true):∃u:Nat,z=(u:Int)∧u≤255:=by
 have:=bounds_u8 h
 exact⟨z.toNat,by omega,by omega⟩
end
section
variable {H : Type} {enc : TypeId × Value → H} {P : Program} {w : World} {base b0 : Nat} {spare : Nat → Bool} {held : Bool} {r : Reach}
theorem open_table{g t e i u:TypeId}{g0 g1:Field}{v:Value}{d:DataW H}{p:List MemPlace}(hg:P.underlying g=some (.struct #[g0,g1]))(hgo:oneCellFields P #[g0,g1]=true)(hgC:P.cellsOf g=2)(hg0:g0.type=u)(hg1:g1.type=t)(hu:P.underlying u=some (.int .u8))
  (ht:P.underlying t=some (.slice e)) (he:P.underlying e=some (.array 5 i)) (hi:P.underlying i=some (.int .i64)) (hce:P.cellsOf i=1) (hC:P.cellsOf e=5)
  (hv:Value.okWide P w r b0 g v) (h:DataW.Trod enc P w base spare held g v d p):
  ∃(N:Nat) (a:Option Addr) (len cap:Nat) (l:List Tup),v=.agg #[.int .u8 N,.slice a len cap]∧N≤255∧ReadsT w w.heap.size a len l∧len≤maxLen:=by
 obtain⟨v0,v1,y0,y1,n,rfl,_,_,k0,k1⟩:=open_agg2 hg hgo hgC hv h
 obtain⟨N,hN,_,wN⟩:=DataW.trod_int (hg0▸hu) k0
 injection hN with hN;subst hN
 obtain⟨N,rfl,hN⟩:=nat_u8 wN
 obtain⟨a,len,cap,l,rfl,hr,hm⟩:=open_tups ht he hi hce hC (hg1▸k1)
 exact⟨N,a,len,cap,l,rfl,hN,hr,hm⟩
end
theorem keep_bad(p:Value)(f0 f1 f2 f3 c lo hi:Int)(w:World)(hno:¬(0≤c∧c<f2)):Calls Try.prog 14 #[p,.agg #[.int .i64 f0,.int .i64 f1,.int .i64 f2,.int .i64 f3],.int .i64 c,.int .i64 lo,.int .i64 hi] w fun e w'=>e=.returned (.tuple #[.agg #[.int .i64 0,.int .i64 0,.int .i64 0,.int .i64 0],.int .i64 1])∧Below w.heap.size w w':=by
 obtain⟨W3,hW3⟩:∃W3,W3=((((w.alloc (.cells #[.int .i64 f0,.int .i64 f1,.int .i64 f2,.int .i64 f3] 29)).alloc (.cells #[.int .i64 c] 3)).alloc (.cells #[.int .i64 lo] 2)).alloc (.cells #[.int .i64 hi] 2)).alloc (.cells #[.int .i64 0,.int .i64 0,.int .i64 0,.int .i64 0] 29):=⟨_,rfl⟩
 have hsz:∀(w:World) (o:Obj),(w.alloc o).heap.size=w.heap.size+1:=fun w o=>by simp
 have hb:Below w.heap.size w W3:=by
  have q0:=Below.refl w.heap.size w
  rw[hW3]
  have q1:=q0.alloc q0.size (.cells #[.int .i64 f0,.int .i64 f1,.int .i64 f2,.int .i64 f3] 29)
  have q2:=q1.alloc q1.size (.cells #[.int .i64 c] 3)
  have q3:=q2.alloc q2.size (.cells #[.int .i64 lo] 2)
  have q4:=q3.alloc q3.size (.cells #[.int .i64 hi] 2)
  exact q4.alloc q4.size _
 have r5:Row W3 (w.heap.size+4) 29 [.int .i64 0,.int .i64 0,.int .i64 0,.int .i64 0]:=by
  have q:=heap_alloc_new ((((w.alloc (.cells #[.int .i64 f0,.int .i64 f1,.int .i64 f2,.int .i64 f3] 29)).alloc (.cells #[.int .i64 c] 3)).alloc (.cells #[.int .i64 lo] 2)).alloc (.cells #[.int .i64 hi] 2)) (.cells #[.int .i64 0,.int .i64 0,.int .i64 0,.int .i64 0] 29)
  rw[←hW3]at q
  simp only[hsz,Nat.add_assoc,Nat.reduceAdd]at q
  exact q
 have r0:Row W3 w.heap.size 29 [.int .i64 f0,.int .i64 f1,.int .i64 f2,.int .i64 f3]:=by
  have q:Row (w.alloc (.cells #[.int .i64 f0,.int .i64 f1,.int .i64 f2,.int .i64 f3] 29)) w.heap.size 29 [.int .i64 f0,.int .i64 f1,.int .i64 f2,.int .i64 f3]:=heap_alloc_new _ _
  rw[hW3]
  have hlt:=q.lt
  have p0:=Below.refl (w.heap.size+1) (w.alloc (.cells #[.int .i64 f0,.int .i64 f1,.int .i64 f2,.int .i64 f3] 29))
  have p1:=p0.alloc (by rw[hsz];exact Nat.le_refl _) (.cells #[.int .i64 c] 3)
  have p2:=p1.alloc (by simp only[hsz];omega) (.cells #[.int .i64 lo] 2)
  have p3:=p2.alloc (by simp only[hsz];omega) (.cells #[.int .i64 hi] 2)
  have p4:=p3.alloc (by simp only[hsz];omega) (.cells #[.int .i64 0,.int .i64 0,.int .i64 0,.int .i64 0] 29)
  exact q.below p4 (by omega)
 have r1:W3.cell? ⟨w.heap.size+1,0,none⟩=some (.int .i64 c):=by
  have q:Row ((w.alloc (.cells #[.int .i64 f0,.int .i64 f1,.int .i64 f2,.int .i64 f3] 29)).alloc (.cells #[.int .i64 c] 3)) (w.alloc (.cells #[.int .i64 f0,.int .i64 f1,.int .i64 f2,.int .i64 f3] 29)).heap.size 3 [.int .i64 c]:=heap_alloc_new _ _
  rw[hsz]at q
  rw[hW3]
  have p0:=Below.refl (w.heap.size+2) ((w.alloc (.cells #[.int .i64 f0,.int .i64 f1,.int .i64 f2,.int .i64 f3] 29)).alloc (.cells #[.int .i64 c] 3))
  have p2:=p0.alloc (by simp only[hsz];omega) (.cells #[.int .i64 lo] 2)
  have p3:=p2.alloc (by simp only[hsz];omega) (.cells #[.int .i64 hi] 2)
  have p4:=p3.alloc (by simp only[hsz];omega) (.cells #[.int .i64 0,.int .i64 0,.int .i64 0,.int .i64 0] 29)
  exact(q.below p4 (by omega)).cell 0
 have HHC:Hid (∀w,Calls Try.prog 31 #[.agg #[.int .i64 f0,.int .i64 f1,.int .i64 f2,.int .i64 f3],.int .i64 c] w fun e w'=>e=.returned (.bool false)∧Below w.heap.size w w'):=fun w=>by
  have:=hascol_any f0 f1 f2 f3 c w
  rwa [decide_eq_false hno]at this
 have HR5:=Lib.hid r5
 have HBB:=Lib.hid hb
 have HW3:=Lib.hid hW3
 obtain⟨s0,hs0⟩:∃s0,s0=w.heap.size:=⟨_,rfl⟩
 have a0:W3.cell? ⟨s0,0,none⟩=some (.int .i64 f0):=by rw[hs0];exact r0.cell 0
 have a1:W3.cell? ⟨s0,1,none⟩=some (.int .i64 f1):=by rw[hs0];exact r0.cell 1
 have a2:W3.cell? ⟨s0,2,none⟩=some (.int .i64 f2):=by rw[hs0];exact r0.cell 2
 have a3:W3.cell? ⟨s0,3,none⟩=some (.int .i64 f3):=by rw[hs0];exact r0.cell 3
 have a4:W3.cell? ⟨s0+1,0,none⟩=some (.int .i64 c):=by rw[hs0];exact r1
 rw[←hs0]at HR5
 replace hs0:=Lib.hid hs0
 clear hW3 hsz hb r5 r0 r1 hno
 go_enter Try.func14,Try.ntmps14
 go_upto_region 1 with(fail)
 rw[←HW3.out,←hs0.out]
 clear HW3
 go_wp2_with fail
 refine(HHC.out _).mono ?_
 rintro e w4 ⟨rfl,hb4⟩
 have HR4:=Lib.hid (HR5.out.below hb4 HR5.out.lt)
 have HB4:=Lib.hid (HBB.out.trans (hb4.mono HBB.out.size))
 clear hb4 a0 a1 a2 a3 a4
 have z0:w4.cell? ⟨s0+4,0,none⟩=some (.int .i64 0):=HR4.out.cell 0
 have z1:w4.cell? ⟨s0+4,1,none⟩=some (.int .i64 0):=HR4.out.cell 1
 have z2:w4.cell? ⟨s0+4,2,none⟩=some (.int .i64 0):=HR4.out.cell 2
 have z3:w4.cell? ⟨s0+4,3,none⟩=some (.int .i64 0):=HR4.out.cell 3
 have f0:=HR4.out.free 0
 have f1:=HR4.out.free 1
 have f2:=HR4.out.free 2
 have f3:=HR4.out.free 3
 have hr9:=(((HR4.out.set 0 (.int .i64 0)).set 1 (.int .i64 0)).set 2 (.int .i64 0)).set 3 (.int .i64 0)
 have hle:w.heap.size≤s0+4:=by have:=hs0.out;omega
 have HB9:=Lib.hid ((((HB4.out.setCell (p:=⟨s0+4,0,none⟩) hle (.int .i64 0)).setCell (p:=⟨s0+4,1,none⟩) hle (.int .i64 0)).setCell (p:=⟨s0+4,2,none⟩) hle (.int .i64 0)).setCell (p:=⟨s0+4,3,none⟩) hle (.int .i64 0))
 have HR9:=Lib.hid hr9
 clear hr9 hle
 go_wp2
 have r0:=HR9.out.cell 0
 have r1:=HR9.out.cell 1
 have r2:=HR9.out.cell 2
 have r3:=HR9.out.cell 3
 simp only[List.set_cons_zero,List.set_cons_succ,List.getElem?_cons_zero,List.getElem?_cons_succ]at r0 r1 r2 r3
 refine bodyPost_ret (v:=.tuple #[.agg #[.int .i64 0,.int .i64 0,.int .i64 0,.int .i64 0],.int .i64 1]) (by simp[results,Try.results14,go_sem,r0,r1,r2,r3]) rfl ?_
 exact⟨rfl,HB9.out⟩
end Go.Proofs.Ytfpjmhnmpjdbiaa
