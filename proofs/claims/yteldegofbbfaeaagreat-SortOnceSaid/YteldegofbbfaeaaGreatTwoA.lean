/- What the laws stand on. -/
import Derived.Laws.BitsAllLaws
import Derived.Test.YteldegofbbfaeaaGreatRows
import Derived.WalkKit
import Derived.ProofKit
import Derived.OpenShut
import Derived.LoopTactic
import Derived.Outline
import Derived.Lib.Varint
import Derived.Lib.Hide
import Derived.Deep.QuietTactic
import Derived.BigQuiet
import Derived.Below
import Derived.Deep.Draws
import Derived.Laws.CopyOwn
import Derived.Laws.OwnMore
import Derived.Laws.MakeOwn
import Derived.Laws.Bits64b
import Derived.OwnWalk
import Derived.Laws.BytesArg
import Derived.Deep.RegionHeld3
import Derived.Deep.AppendLies
import Derived.Deep.DeepCutAuto
import Derived.Deep.CutBlock
import Derived.Lib.SmallJoins
import Derived.Deep.Slices
import Derived.Deep.Fields
import Derived.Maps.AppendAt
import Derived.Lib.AppendZerosOnto
import Derived.Lib.Overlaps
import Derived.Deep.RegionLaw
import Derived.Laws.Externs
import Derived.IntWalk
import Derived.Lib.QuietBelow
import Derived.Lib.SliceRun
import Derived.BigRegion
import Derived.Maps.OwnSet
import Derived.Maps.RangeWalk
import Derived.Shelf.SlMaps.Clone
import Derived.LaidEqlPtr
import Derived.WalkSpells
import Derived.ChangeKeysEq
import Derived.Laws.StructEq
import Derived.Defers
import Derived.Deep.CutRange
import Derived.StillTailTactics
import Derived.ShutString
import Derived.ChangeOld
namespace Go.Proofs.YteldegofbbfaeaaGreat
set_option linter.unusedVariables false
set_option maxRecDepth 100000
set_option maxHeartbeats 8000000
open Go.ChangeShapes Go.WideShapes Go.ChangeAt Go.RowKit
open Go.Joins Go.Deep
open Go.ChangeShapes Go.WideShapes Go.ChangeAt Go.RowKit Go.Maps
open Go.ChangeMaps (setBlock heap_setBlock_same heap_setBlock_other)
def st(n:Nat):Nat:=if n%2=1 then n/2^^^3988292384 else n/2
def eB:Nat→Nat→Nat
 |0,n=>n
 |k+1,n=>eB k (st n)
def gI(r c:Nat):Nat:=eB 8 (r^^^c)
def wd:Nat→Nat→Nat→Nat
 |0,r,_=>r
 |k+1,r,x=>wd k (gI r (x%256)) (x/256)
def top:Nat:=4294967295
def qQ(m n:Nat):Nat:=m^^^n
def cm(n:Nat):Nat:=qQ top n
def nx(s x:Nat):Nat:=cm (wd 8 (cm s) x)
def sm(l:List Nat):Nat:=l.foldl nx 0
def run(r:Nat)(l:List Nat):Nat:=l.foldl (wd 8) r
theorem jj{a:Nat}(h:a<4294967296):st a<4294967296:=by
 unfold st
 split
 ·exact Nat.xor_lt_two_pow (n:=32) (by omega) (by decide)
 ·omega
theorem lp(k:Nat):∀{a},a<4294967296→eB k a<4294967296:=by
 induction k with
 |zero=>intro a h;exact h
 |succ k ih=>intro a h;exact ih (jj h)
theorem Zk(j:Nat):∀k a,eB (k+j) a=eB k (eB j a):=by
 induction j with
 |zero=>intro k a;rfl
 |succ j ih=>intro k a;exact ih k (st a)
theorem WD{r c:Nat}(hr:r<4294967296)(hc:c<256):gI r c<4294967296:=lp 8 (Nat.xor_lt_two_pow (n:=32) hr (by omega))
theorem ji(k:Nat):∀{r:Nat} (x:Nat),r<4294967296→wd k r x<4294967296:=by
 induction k with
 |zero=>intro r x h;exact h
 |succ k ih=>intro r x h;exact ih _ (WD h (by omega))
theorem We{n:Nat}(h:n<4294967296):cm n<4294967296:=show qQ top n< _ from Nat.xor_lt_two_pow (n:=32) (by decide) h
theorem XC(m n:Nat):qQ m (qQ m n)=n:=by unfold qQ;rw[←Nat.xor_assoc,Nat.xor_self,Nat.zero_xor]
theorem tq(n:Nat):cm (cm n)=n:=XC _ n
theorem Sl{s:Nat}(x:Nat)(h:s<4294967296):nx s x<4294967296:=We (ji 8 x (We h))
theorem rH(r x:Nat):nx (cm r) x=cm (wd 8 r x):=by unfold nx;rw[tq]
theorem Qy(l:List Nat)(x:Nat):sm (l++[x])=nx (sm l) x:=by unfold sm;simp
theorem fY(r:Nat):run r []=r:=by unfold run;rw[List.foldl_nil]
theorem Z0(r x:Nat)(l:List Nat):run r (x::l)=run (wd 8 r x) l:=by unfold run;rw[List.foldl_cons]
theorem cM(l:List Nat):∀r,l.foldl nx (cm r)=cm (run r l):=by
 induction l with
 |nil=>intro r;rw[List.foldl_nil,fY]
 |cons x l ih=>intro r;rw[List.foldl_cons,rH,ih,Z0]
theorem oL:cm 4294967295=0:=by decide
theorem l9(l:List Nat):sm l=cm (run 4294967295 l):=by
 rw[←cM,oL];unfold sm;exact Eq.refl _
theorem mB(l:List Nat):∀{r},r<4294967296→run r l<4294967296:=by
 induction l with
 |nil=>intro r h;exact h
 |cons x l ih=>intro r h;exact ih (ji 8 x h)
theorem Pj(l:List Nat):sm l<4294967296:=by rw[l9];exact We (mB l (by decide))
def JR(l:List Nat):Prop:=∀x∈l,x<18446744073709551616
def Dh(l:List Nat)(num ad:Nat):Nat:=num*4294967296+sm (l++[num,ad])
def Bq(size tag:Nat)(pl:List Nat):List Nat:=pl++List.replicate (size-2-pl.length) 0++[tag]
def DK(size ad tag:Nat)(pl:List Nat):List Nat:=Bq size tag pl++[Dh (Bq size tag pl) (pl.length+1) ad]
def Ce(b:List Nat):Nat:=b.getD (b.length-1) 0/4294967296
def LU(b:List Nat):Nat:=b.getD (b.length-2) 0
def okW(b:List Nat)(ad:Nat):Bool:=decide (1≤Ce b)&&decide (Ce b≤b.length-1)&&decide (b=DK b.length ad (LU b) (b.take (Ce b-1)))
theorem Lv{size tag:Nat}{pl:List Nat}(h:pl.length≤size-2)(h2:2≤size):(Bq size tag pl).length=size-1:=by
 unfold Bq;simp;omega
theorem Ic{size ad tag:Nat}{pl:List Nat}(h:pl.length≤size-2)(h2:2≤size):(DK size ad tag pl).length=size:=by
 unfold DK;rw[List.length_append,Lv h h2];simp;omega
theorem gK{l:List Nat}{num ad:Nat}(h:num<4294967296):Dh l num ad<18446744073709551616:=by
 unfold Dh;have:=Pj (l++[num,ad]);omega
theorem af{l:List Nat}{num ad:Nat}:Dh l num ad/4294967296=num:=by
 unfold Dh;have:=Pj (l++[num,ad]);omega
theorem gJ{l:List Nat}{num ad:Nat}:num*4294967296|||sm (l++[num,ad])=Dh l num ad:=by
 unfold Dh
 rw[show num*4294967296=2^32*num by rw[Nat.mul_comm]]
 exact(Nat.two_pow_add_eq_or_of_lt (i:=32) (Pj _) num).symm
theorem QG{size tag:Nat}{pl:List Nat}(hp:JR pl)(ht:tag<18446744073709551616):JR (Bq size tag pl):=by
 intro x hx
 unfold Bq at hx
 rcases List.mem_append.1 hx with hx|hx
 ·rcases List.mem_append.1 hx with hx|hx
  ·exact hp x hx
  ·rw[List.mem_replicate]at hx;omega
 ·simp at hx;omega
theorem Zv{size ad tag:Nat}{pl:List Nat}(hp:JR pl)(ht:tag<18446744073709551616)(hn:pl.length+1<4294967296):JR (DK size ad tag pl):=by
 intro x hx
 unfold DK at hx
 rcases List.mem_append.1 hx with hx|hx
 ·exact QG hp ht x hx
 ·simp at hx;subst hx;exact gK hn
theorem OE{α:Type}{l m:List α}{k:Nat}{x d:α}(h:l.length=k):(l++x::m).getD k d=x:=by
 rw[List.getD_eq_getElem?_getD,List.getElem?_append_right (by omega),h,Nat.sub_self];rfl
theorem Xc{size ad tag:Nat}{pl:List Nat}(h:pl.length≤size-2)(h2:2≤size):(DK size ad tag pl).getD (size-1) 0=Dh (Bq size tag pl) (pl.length+1) ad:=by
 unfold DK;exact OE (Lv h h2)
theorem SO{size ad tag:Nat}{pl:List Nat}(h:pl.length≤size-2)(h2:2≤size):Ce (DK size ad tag pl)=pl.length+1:=by
 unfold Ce;rw[Ic h h2,Xc h h2,af]
theorem SN{size ad tag:Nat}{pl:List Nat}(h:pl.length≤size-2)(h2:2≤size):LU (DK size ad tag pl)=tag:=by
 unfold LU;rw[Ic h h2]
 unfold DK
 have e:Bq size tag pl++[Dh (Bq size tag pl) (pl.length+1) ad]=(pl++List.replicate (size-2-pl.length) 0)++tag::[Dh (Bq size tag pl) (pl.length+1) ad]:=by
  conv=>lhs;unfold Bq
  rw[List.append_assoc,List.singleton_append];rfl
 rw[e]
 exact OE (by simp;omega)
theorem Pm{size ad tag:Nat}{pl:List Nat}:(DK size ad tag pl).take pl.length=pl:=by
 unfold DK Bq
 rw[List.append_assoc,List.append_assoc]
 exact List.take_left' rfl
theorem fW{size ad tag:Nat}{pl:List Nat}(h:pl.length≤size-2)(h2:2≤size):okW (DK size ad tag pl) ad=true:=by
 unfold okW
 rw[SO h h2,SN h h2,Ic h h2,Nat.add_sub_cancel,Pm]
 simp;omega
theorem Uk{b:List Nat}{n p:Nat}(hn:b.length=n)(h2:2≤n)(hp:p≤n-2):
  b=b.take p++(b.drop p).take (n-2-p)++[b.getD (n-2) 0]++[b.getD (n-1) 0]∧b.take (n-1)=b.take p++(b.drop p).take (n-2-p)++[b.getD (n-2) 0]:=by
 have h1:b.take (n-1)=b.take (n-2)++[b.getD (n-2) 0]:=by
  rw[show n-1=n-2+1 by omega,List.take_succ_eq_append_getElem (by omega),List.getD_eq_getElem?_getD,List.getElem?_eq_getElem (by omega)];rfl
 have h0:b.take (n-2)=b.take p++(b.drop p).take (n-2-p):=by
  conv=>lhs;rw[show n-2=p+(n-2-p)by omega]
  rw[List.take_add]
 have h3:b.take n=b.take (n-1)++[b.getD (n-1) 0]:=by
  conv=>lhs;rw[show n=n-1+1 by omega]
  rw[List.take_succ_eq_append_getElem (by omega),List.getD_eq_getElem?_getD,List.getElem?_eq_getElem (by omega)];rfl
 refine⟨?_,by rw[h1,h0]⟩
 rw[←h0,←h1,←h3,List.take_of_length_le (by omega)]
theorem Rh{l:List Nat}:(∀x∈l,x=0)↔l=List.replicate l.length 0:=by
 rw[List.eq_replicate_iff];simp
theorem mU{b:List Nat}{ad n:Nat}(hn:b.length=n)(h2:2≤n)(h3:1≤Ce b)(h4:Ce b≤n-1):
  okW b ad=true↔(∀x∈(b.drop (Ce b-1)).take (n-2-(Ce b-1)),x=0)∧b.getD (n-1) 0=Dh (b.take (n-1)) (Ce b) ad:=by
 have hp:Ce b-1≤n-2:=by omega
 obtain⟨e1,e2⟩:=Uk hn h2 hp
 have hlen:(b.take (Ce b-1)).length=Ce b-1:=by rw[List.length_take];omega
 have D8:((b.drop (Ce b-1)).take (n-2-(Ce b-1))).length=n-2-(Ce b-1):=by rw[List.length_take,List.length_drop];omega
 have hok:okW b ad=true↔b=DK n ad (b.getD (n-2) 0) (b.take (Ce b-1)):=by
  unfold okW LU
  rw[hn]
  simp[h3,h4]
 rw[hok,Rh,D8]
 have hS:DK n ad (b.getD (n-2) 0) (b.take (Ce b-1))=b.take (Ce b-1)++List.replicate (n-2-(Ce b-1)) 0++[b.getD (n-2) 0]++[Dh (b.take (Ce b-1)++List.replicate (n-2-(Ce b-1)) 0++[b.getD (n-2) 0]) (Ce b) ad]:=by
  unfold DK Bq
  rw[hlen,show Ce b-1+1=Ce b by omega]
 rw[hS,e2]
 generalize b.take (Ce b-1)=P at*
 generalize(b.drop (Ce b-1)).take (n-2-(Ce b-1))=M at*
 generalize n-2-(Ce b-1)=k at*
 generalize b.getD (n-2) 0=t at*
 generalize b.getD (n-1) 0=z at*
 generalize Ce b=num at*
 constructor
 ·intro h
  rw[e1]at h
  have h5:=List.append_inj h (by simp[D8])
  have h6:=List.append_inj h5.1 (by simp[D8])
  have h7:=List.append_inj h6.1 rfl
  refine⟨h7.2,?_⟩
  have h8:z=Dh (P++List.replicate k 0++[t]) num ad:=by simpa using h5.2
  rw[h7.2];exact h8
 ·rintro⟨h5,h6⟩
  conv=>lhs;rw[e1,h6]
  rw[h5]
theorem Mu{k:IntKind}{a b:Int}(h:a=b):Ending.returned (.int k a)=.returned (.int k b):=by rw[h]
theorem Du{a b:Bool}(h:a=b):Ending.returned (.bool a)=.returned (.bool b):=by rw[h]
def Reads(k:IntKind)(w:World)(B:Nat)(a:Option Addr)(n:Nat)(l:List Nat):Prop:=
 l.length=n∧(∀x∈l,(Lit.int k x).wf=true)∧
 (0<n→∃b off,a=some ⟨b,off,none⟩∧b<B∧∀i,i<n→w.cell? ⟨b,off+i,none⟩=some (.int k (l.getD i 0:Nat)))
theorem Reads.at_{k:IntKind}{w:World}{B:Nat}{a:Option Addr}{n:Nat}{l:List Nat}(h:Reads k w B a n l){i:Nat}(hi:i<n):
  ∃b off c,a=some ⟨b,off,none⟩∧b<B∧w.cell? ⟨b,off+i,none⟩=some (.int k (c:Nat))∧(Lit.int k c).wf=true∧Hid (c=l.getD i 0):=by
 obtain⟨hl,hw,hc⟩:=h
 obtain⟨b,off,rfl,hb,hc⟩:=hc (by omega)
 refine⟨b,off,l.getD i 0,rfl,hb,hc i hi,hw _ ?_,rfl⟩
 have:i<l.length:=by omega
 rw[List.getD_eq_getElem?_getD,List.getElem?_eq_getElem this]
 exact List.getElem_mem this
theorem Reads.CL{k:IntKind}{w w':World}{B:Nat}{a:Option Addr}{n:Nat}{l:List Nat}(h:Reads k w B a n l)(hb:Below B w w'):Reads k w' B a n l:=by
 obtain⟨hl,hw,hc⟩:=h
 refine⟨hl,hw,fun hn=>?_⟩
 obtain⟨b,off,rfl,Mz,hc⟩:=hc hn
 exact⟨b,off,rfl,Mz,fun i hi=>(hb.cell (p:=⟨b,off+i,none⟩) Mz).trans (hc i hi)⟩
theorem Reads.drewN{k:IntKind}{w:World}{B:Nat}{a:Option Addr}{n:Nat}{l:List Nat}(h:Reads k w B a n l)(m:Nat):Reads k (w.drewN m) B a n l:=h
theorem Reads.mono{k:IntKind}{w:World}{B B':Nat}{a:Option Addr}{n:Nat}{l:List Nat}(h:Reads k w B a n l)(hb:B≤B'):Reads k w B' a n l:=by
 obtain⟨hl,hw,hc⟩:=h
 refine⟨hl,hw,fun hn=>?_⟩
 obtain⟨b,off,rfl,Mz,hc⟩:=hc hn
 exact⟨b,off,rfl,by omega,hc⟩
theorem AF{B:Nat}{a w:World}(h:Below B a w)(n:Nat):Below B a (w.drewN n):=⟨h.os,h.tape,h.output,h.size,h.block⟩
theorem NN{c:Nat}(h:(Lit.int .u64 c).wf=true):c<18446744073709551616:=by
 simp[Lit.wf,IntKind.min,IntKind.max,IntKind.signed,IntKind.bits]at h;omega
theorem LS{c:Nat}(h:c<18446744073709551616):(Lit.int .u64 c).wf=true:=by
 simp[Lit.wf,IntKind.min,IntKind.max,IntKind.signed,IntKind.bits];omega
theorem info_parts{t:TypeId}{z:Value}{s b:Nat}(h:(Tryz.prog.info? t).map (fun i=>(i.zero,i.size,i.bytes))=some (some z,s,b)):
  ∃i,Tryz.prog.info? t=some i∧i.zero=some z∧i.size=s∧i.bytes=b:=by
 rcases hi:Tryz.prog.info? t with _|i
 ·rw[hi]at h;cases h
 ·rw[hi]at h;simp at h;exact⟨i,rfl,h.1,h.2.1,h.2.2⟩
def Row(w:World)(g:Nat)(t:TypeId)(cs:List Value):Prop:=w.heap[g]?=some (.cells cs.toArray t (0,0))
section
variable {w w' : World} {g : Nat} {t : TypeId} {cs : List Value}
theorem Row.lt(h:Row w g t cs):g<w.heap.size:=by
 rcases Nat.lt_or_ge g w.heap.size with hlt|hge
 ·exact hlt
 ·unfold Row at h;rw[Array.getElem?_eq_none hge]at h;cases h
theorem Row.cell(h:Row w g t cs)(i:Nat):w.cell? ⟨g,i,none⟩=cs[i]?:=by
 unfold Row at h;simp[World.cell?,h]
theorem Row.free(h:Row w g t cs)(i:Nat):w.frozen? ⟨g,i,none⟩=false:=frozen_of_row w g i _ t h
theorem Row.set(h:Row w g t cs)(i:Nat)(u:Value):Row (w.setCell ⟨g,i,none⟩ u) g t (cs.set i u):=by
 unfold Row at h⊢
 rw[heap_setCell_same w g i _ t u h];simp
theorem Row.Cc(h:Row w g t cs){p:Addr}(hp:g≠p.block)(u:Value):Row (w.setCell p u) g t cs:=(heap_setCell_other w p g u hp).trans h
theorem Row.drewN(h:Row w g t cs)(n:Nat):Row (w.drewN n) g t cs:=h
theorem Row.alloc(h:Row w g t cs)(o:Obj):Row (w.alloc o) g t cs:=(Below.heap_alloc w o g h.lt).trans h
theorem Row.below{B:Nat}(h:Row w g t cs)(hb:Below B w w')(hg:g<B):Row w' g t cs:=(hb.block g hg).trans h
theorem Row.reads{k:IntKind}{l:List Nat}(h:Row w g t cs){n:Nat}(hn:l.length=n)(hw:∀x∈l,(Lit.int k x).wf=true)
  (hc:∀i,i<n→cs[i]?=some (.int k (l.getD i 0:Nat))) {B:Nat} (hB:g<B):Reads k w B (some ⟨g,0,none⟩) n l:=
 ⟨hn,hw,fun _=>⟨g,0,rfl,hB,fun i hi=>by rw[Nat.zero_add,h.cell];exact hc i hi⟩⟩
end
theorem Ei{P:Program}(w:World){ops:Array Oper}{rest:List Oper}{o:Oper}{a:Act}{Q:Exit→Act→World→Prop}
  (hg:o.guard=none) (l c:Operand) (t:TypeId) (gh:o.op=Op.makeSlice t l c)
  (e:TypeId) (i:TypeInfo) (z:Value) (h1:P.underlying t=some (.slice e)) (h2:P.info? e=some i) (h3:i.zero=some z) (h4:i.size=1) (h5:z.cells=#[z])
  (kl kc:IntKind) (L C:Int) (n:Nat) (hl:a.eval l=.int kl L) (hc:a.eval c=.int kc C) (hL:L=(n:Int)) (hC:C=(n:Int)) (b2:i.bytes*n≤281474976710656) (b3:n≤9223372036854775807)
  (hK:∀w',Row w' w.heap.size e (List.replicate n z)→Below w.heap.size w w'→w'.heap.size=w.heap.size+1→wpList P ops Q rest (a.put o.dst (.slice (some ⟨w.heap.size,0,none⟩) n n)) w'):
  wpList P ops Q (o::rest) a w:=by
 refine wpList_plain hg fun K tK=>?_
 have hb':(i.bytes:Int)*(n:Int)≤281474976710656:=by
  have h:((i.bytes*n:Nat):Int)≤281474976710656:=by omega
  rwa [Int.natCast_mul]at h
 have hrun:=run_make (P:=P) w t e i z h1 h2 h3 kl kc n n (by omega) (Int.le_refl _) hb' (by omega)
 subst hL
 subst hC
 simp only[Int.toNat_natCast]at hrun
 unfold Oper.wp
 simp[execOp,gh,hl,hc,hrun,Result.andThen]
 refine tK _ _ (hK _ ?_ ((Below.refl _ _).alloc (Nat.le_refl _) _) (by simp))
 show _= _
 rw[heap_alloc_new,h4,Nat.mul_one,h5]
 congr 2
 exact Array.toList_inj.1 (by rw[toList_madeCells_one])
theorem Jp{P:Program}(w:World)(base:Nat)(t ty e:TypeId)(i:TypeInfo)(ht:P.underlying t=some (.slice e))(hi:P.info? e=some i)
  (v:Value) (n:Nat) (xs:List Value) (Ap:w.ownsRow base e 1 v n xs) (c:Nat):(Builtin.append_ #[t,t] ty #[v,.slice none 0 c]).run P w=.ok v w:=by
 rcases Ap.2 with⟨rfl,rfl⟩|⟨g,cap,cur,rfl,_,_,hnc,_⟩
 ·simp[Builtin.append_,run_underlying ht,sizeOf,typeInfo,hi,Builtin.lenOf,Builtin.firstCells]
 ·simp[Builtin.append_,run_underlying ht,sizeOf,typeInfo,hi,Builtin.lenOf,Builtin.firstCells,hnc,storeCells]
theorem FU{P:Program}(w:World){ops:Array Oper}{rest:List Oper}{o:Oper}{a:Act}{Q:Exit→Act→World→Prop}(Py:o.guard=none)(s x:Operand)(t:TypeId)
  (ho:o.op=.call {callee:=.builtin .append,args:=#[s,x],argTypes:=#[t,t]})
  (base:Nat) (e:TypeId) (i:TypeInfo) (z:Value) (bytes:Nat) (ht:P.underlying t=some (.slice e)) (hi:P.info? e=some i) (hz:i.zero=some z)
  (Cm:i.size=1) (kV:i.bytes=bytes) (mc:z.cells.size=1)
  (v:Value) (n:Nat) (xs:List Value) (hs:a.eval s=v) (Ap:w.ownsRow base e 1 v n xs)
  (A:Option Addr) (m c:Nat) (news:List Value) (hx:a.eval x=.slice A m c) (hl:news.length=m)
  (MH:0<m→∃ad,A=some ad∧∀j u,news[j]?=some u→w.cell? (ad.add j)=some u) (h1:∀u∈news,u.oneCell'=true)
  (iE:n+m≤9223372036854775807) (Iz:(n+m)*bytes≤140737488355328) (Co:base≤w.heap.size)
  (h:∀v' w',w'.ownsRow base e 1 v' (n+m) (xs++news)→Below base w w'→wpList P ops Q rest (a.put o.dst v') w'):wpList P ops Q (o::rest) a w:=by
 rcases A with _|ad
 ·have hm:m=0:=by
   rcases Nat.eq_zero_or_pos m with h0|h0
   ·exact h0
   ·obtain⟨ad,hh,_⟩:=MH h0;cases hh
  subst hm
  obtain rfl:news=[]:=List.eq_nil_of_length_eq_zero hl
  refine wpList_plain Py fun K hK=>?_
  have hrun:=Jp (P:=P) w base t o.type e i ht hi v n xs Ap c
  unfold Oper.wp
  simp[execOp,ho,resolve,invoke,builtin,hs,hx,hrun,Result.andThen]
  exact hK _ _ (h v w (by simpa using Ap) (Below.refl _ _))
 ·refine wpList_append_own w Py s x t ho base e i z 1 bytes ht hi hz Cm kV mc (by omega) v n xs hs Ap ad m c news hx (by omega) ?_ h1 iE Iz Co ?_
  ·intro j u hj
   rcases Nat.eq_zero_or_pos m with h0|h0
   ·obtain rfl:news=[]:=List.eq_nil_of_length_eq_zero (by omega)
    simp at hj
   ·obtain⟨ad',hh,hc⟩:=MH h0
    injection hh with hh;subst hh
    exact hc j u hj
  ·intro v' w' h2 h3 _
   exact h v' w' h2 ((Below.refl _ _).grown h3 Co fun k hk=>(Ap.lt k hk).1)
theorem Xv{w:World}{base:Nat}{e:TypeId}{v:Value}{n:Nat}{k:IntKind}{l:List Nat}(h:w.ownsRow base e 1 v n (l.map fun c:Nat=>Value.int k c))(hw:∀x∈l,(Lit.int k x).wf=true):
  ∃A c,v=.slice A n c∧Reads k w w.heap.size A n l∧l.length=n:=by
 obtain⟨hl,h2⟩:=h
 have U4:l.length=n:=by simpa using hl
 rcases h2 with⟨rfl,rfl⟩|⟨g,cap,cur,rfl,hg,hh,hcap,hm,hs,ht⟩
 ·exact⟨none,0,rfl,⟨U4,hw,fun h=>absurd h (by omega)⟩,U4⟩
 ·refine⟨some ⟨g,0,none⟩,cap,rfl,⟨U4,hw,fun _=>⟨g,0,rfl,?_,fun i hi=>?_⟩⟩,U4⟩
  ·rcases Nat.lt_or_ge g w.heap.size with hlt|hge
   ·exact hlt
   ·rw[Array.getElem?_eq_none hge]at hh;cases hh
  ·have h3:w.cell? ⟨g,0+i,none⟩=cur[0+i]?:=by simp[World.cell?,hh]
   rw[h3,Nat.zero_add]
   have h4:(cur.toList.take (n*1))[i]?=cur.toList[i]?:=by rw[List.getElem?_take,if_pos (by omega)]
   rw[ht]at h4
   rw[←Array.getElem?_toList,←h4,List.getElem?_map,List.getD_eq_getElem?_getD]
   rw[List.getElem?_eq_getElem (by omega)];rfl
theorem fu{w:World}{base:Nat}{e:TypeId}{v:Value}{n:Nat}{xs:List Value}(h:w.ownsRow base e 1 v n xs)(hn:0<n):
  ∃g cap cs,v=.slice (some ⟨g,0,none⟩) n cap∧base≤g∧Row w g e cs∧n≤cap∧cap≤maxLen∧cs.length=cap∧cs.take n=xs:=by
 rcases h.2 with⟨_,h0⟩|⟨g,cap,cur,rfl,hg,hh,hcap,hm,hs,ht⟩
 ·omega
 ·exact⟨g,cap,cur.toList,rfl,hg,hh,hcap,hm,by simpa using hs,by simpa using ht⟩
def Wu(k:IntKind)(w:World)(a:Option Addr)(len cap:Nat)(zs:List Int):Prop:=
 (a=none∧len=0∧cap=0∧zs=[])∨
 ∃x,a=some x∧len≤cap∧cap≤maxLen∧zs.length=cap∧(∀i,i<zs.length→w.cell? (x.add i)=some (.int k (zs.getD i 0)))∧∀n∈zs,(Lit.int k n).wf=true
theorem Wu.reads{k:IntKind}{w:World}{a:Option Addr}{len cap:Nat}{zs:List Int}(h:Wu k w a len cap zs)(h0:∀n:Int,(Lit.int k n).wf=true→0≤n):
  ∃l:List Nat,Reads k w w.heap.size a len l:=by
 rcases h with⟨rfl,rfl,rfl,rfl⟩|⟨x,rfl,hlc,hm,hz,Bk,xk⟩
 ·exact⟨[],rfl,by simp,fun h=>absurd h (by omega)⟩
 ·refine⟨(zs.take len).map Int.toNat,by simp;omega,?_,fun B6=>?_⟩
  ·intro c hc
   obtain⟨z,B3,rfl⟩:=List.mem_map.1 hc
   have EX:=xk z (List.mem_of_mem_take B3)
   rw[Int.toNat_of_nonneg (h0 z EX)];exact EX
  ·obtain⟨b,off,spot⟩:=x
   have hc:=Bk 0 (by omega)
   have bD:spot=none:=by simpa [Addr.add]using World.cell?_spot hc
   subst bD
   refine⟨b,off,rfl,block_lt_of_cell hc,fun i hi=>?_⟩
   have kL:i<zs.length:=by omega
   have h1:=Bk i kL
   have e:(⟨b,off,none⟩:Addr).add i=⟨b,off+i,none⟩:=by unfold Addr.add;split<;>simp_all
   rw[e]at h1
   rw[h1,List.getD_eq_getElem?_getD,List.getD_eq_getElem?_getD,List.getElem?_map,List.getElem?_take,if_pos hi,List.getElem?_eq_getElem kL]
   have:=h0 zs[i] (xk _ (List.getElem_mem kL))
   simp[Int.toNat_of_nonneg this]
theorem Wu.cap{k:IntKind}{w:World}{a:Option Addr}{len cap:Nat}{zs:List Int}(h:Wu k w a len cap zs):len≤cap∧cap≤9223372036854775807:=by
 rcases h with⟨_,h1,h2,_⟩|⟨_,_,h1,h2,_⟩
 ·omega
 ·unfold maxLen at h2;omega
theorem Uq{n:Int}(h:(Lit.int .i64 n).wf=true):-9223372036854775808≤n∧n≤9223372036854775807:=by
 simp[Lit.wf,IntKind.min,IntKind.max,IntKind.signed,IntKind.bits]at h;omega
theorem fe{P:Program}(w:World)(t e:TypeId)(i0:TypeInfo)(ht:P.underlying t=some (.slice e))(hi:P.info? e=some i0)(hs:i0.size=1)(b off len cap i j:Nat)(Fq:i≤j)(hj:j≤cap)(hne:i<cap)
  (kl kh:IntKind) (I J:Int) (hI:I=i) (hJ:J=j):
  (Instr.slice t (.slice (some ⟨b,off,none⟩) len cap) (some (.int kl I)) (some (.int kh J)) none).run P w=.ok (.slice (some ⟨b,off+i,none⟩) (j-i) (cap-i)) w:=by
 subst hI hJ
 have he:P.elem t=e:=by simp[Program.elem,ht]
 rw[run_slice_lh w t _ len cap (by rw[he];exact ht) kl kh i j (by omega) (by omega) (by omega)]
 have nH:¬cap=i:=by omega
 simp[he,sizeOf,typeInfo,hi,hs,sliced,nH,Addr.add]
theorem BN{P:Program}{ops:Array Oper}{Q:Exit→Act→World→Prop}{rest:List Oper}{a:Act}{w:World}(s:Nat){op:Op}{ty:TypeId}{pos:String}{after:Array Edge}{guard:Option (Nat×Bool)}
  (h:Hid (wpList P ops Q (⟨some s,op,ty,pos,after,guard⟩::rest) a w)):wpList P ops Q (⟨some s,op,ty,pos,after,guard⟩::rest) a w:=h
theorem Reads.source{k:IntKind}{w:World}{B:Nat}{a:Option Addr}{n:Nat}{l:List Nat}(h:Reads k w B a n l):
  0<n→∃ad,a=some ad∧∀j u,(l.map fun c:Nat=>Value.int k c)[j]?=some u→w.cell? (ad.add j)=some u:=by
 intro B6
 obtain⟨hlen,_,hc⟩:=h
 obtain⟨b,off,rfl,hb,hc⟩:=hc B6
 refine⟨_,rfl,fun j v hj=>?_⟩
 have E1:j<l.length:=by
  rcases Nat.lt_or_ge j l.length with hlt|hge
  ·exact hlt
  ·rw[List.getElem?_eq_none (by simpa using hge)]at hj;cases hj
 have h1:=hc j (by omega)
 rw[List.getElem?_map,List.getElem?_eq_getElem E1]at hj
 have e:(⟨b,off,none⟩:Addr).add j=⟨b,off+j,none⟩:=by unfold Addr.add;split<;>simp_all
 rw[e,h1,←hj]
 simp[E1]
theorem QY{k:IntKind}{l:List Nat}:∀u∈l.map (fun c:Nat=>Value.int k c),u.oneCell'=true:=by
 intro v hv;obtain⟨c,_,rfl⟩:=List.mem_map.1 hv;rfl
theorem Reads.take{k:IntKind}{w:World}{B:Nat}{a:Option Addr}{n m:Nat}{l:List Nat}(h:Reads k w B a n l)(hm:m≤n):Reads k w B a m (l.take m):=by
 obtain⟨hl,hw,hc⟩:=h
 refine⟨by simp;omega,fun x hx=>hw x (List.mem_of_mem_take hx),fun B6=>?_⟩
 obtain⟨b,off,rfl,hb,hc⟩:=hc (by omega)
 refine⟨b,off,rfl,hb,fun i hi=>?_⟩
 rw[hc i (by omega)]
 simp only[List.getD_eq_getElem?_getD,List.getElem?_take,if_pos hi]
theorem CK{P:Program}(w:World)(t e:TypeId)(i0:TypeInfo)(ht:P.underlying t=some (.slice e))(hi:P.info? e=some i0)(a:Option Addr)(len cap j:Nat)(hj:j≤cap)
  (kh:IntKind) (J:Int) (hJ:J=j):
  (Instr.slice t (.slice a len cap) none (some (.int kh J)) none).run P w=.ok (.slice a j cap) w:=by
 subst hJ
 have he:P.elem t=e:=by simp[Program.elem,ht]
 rw[run_slice_h w t a len cap (by rw[he];exact ht) kh j (by omega) (by omega)]
 have e2:a.map (fun x:Addr=>x.add 0)=a:=by cases a<;>simp[Addr.add]
 simp[he,sizeOf,typeInfo,hi,sliced,e2]
section
variable {H : Type} {enc : TypeId × Value → H} {P : Program} {w : World} {base b0 : Nat} {spare : Nat → Bool} {held : Bool} {t e : TypeId} {k : IntKind} {r : Reach}
theorem aQ{n:Nat}{v:Value}{d:DataW H}{p:List MemPlace}(ht:P.underlying t=some (.array n e))(he:P.underlying e=some (.int k))(nU:P.cellsOf e=1)(hct:P.cellsOf t=n)
  (hv:Value.okWide P w r b0 t v) (h:DataW.Trod enc P w base spare held t v d p):
  ∃zs:List Int,zs.length=n∧v=.agg (zs.map (Value.int k)).toArray∧∀z∈zs,(Lit.int k z).wf=true:=by
 have h0:∃cs,v=.agg cs∧cs.size=P.cellsOf t:=by
  simp only[Value.okWide,ht]at hv
  obtain⟨cs,h1,h2,_⟩:=hv
  exact⟨cs,h1,h2⟩
 obtain⟨cs,rfl,hsz⟩:=h0
 obtain⟨fuel,hf⟩:=h
 obtain⟨xs,m,_,_,hl,xg,hx⟩:=DataW.trod_array ht hf
 have Lp:(Value.agg cs).cells.toList=cs.toList:=by simp[Value.cells]
 rw[Lp]at hx hl
 have Bk:∀i,i<n→∃z,cs[i]?=some (.int k z)∧(Lit.int k z).wf=true:=by
  intro i hi
  have h1:=hx i hi
  rw[nU,Nat.mul_one]at h1
  have kL:i<cs.toList.length:=by simp;omega
  rw[List.drop_eq_getElem_cons kL,List.take_succ_cons,List.take_zero]at h1
  rw[List.getElem?_eq_getElem (by omega)]at h1
  obtain⟨z,hz,_,hw⟩:=DataW.trod_int he h1
  injection hz with hz
  exact⟨z,by rw[←Array.getElem?_toList,List.getElem?_eq_getElem kL,hz],hw⟩
 have Hw:∀c∈cs.toList,c=.int k (intOf c)∧(Lit.int k (intOf c)).wf=true:=by
  intro c hc
  obtain⟨i,hi,rfl⟩:=List.getElem_of_mem hc
  obtain⟨z,hz,hw⟩:=Bk i (by omega)
  rw[←Array.getElem?_toList,List.getElem?_eq_getElem hi]at hz
  injection hz with hz
  rw[hz];exact⟨rfl,hw⟩
 refine⟨cs.toList.map intOf,by rw[List.length_map];omega,?_,?_⟩
 ·congr 1
  apply Array.ext'
  rw[List.map_map]
  have e1:∀l:List Value,(∀c∈l,c=.int k (intOf c)∧(Lit.int k (intOf c)).wf=true)→l=l.map (Value.int k∘intOf):=by
   intro l
   induction l with
   |nil=>intro _;rfl
   |cons c l ih=>intro h;rw[List.map_cons,←ih fun x hx=>h x (by simp[hx])];congr 1;exact(h c (by simp)).1
  exact e1 _ Hw
 ·intro z hz
  obtain⟨c,hc,rfl⟩:=List.mem_map.1 hz
  exact(Hw c hc).2
end
def Fv(n:Int):Prop:=(Lit.int .i64 n).wf=true
theorem Fv.bounds{n:Int}(h:Fv n):-9223372036854775808≤n∧n≤9223372036854775807:=Uq h
theorem Fv.of{n:Int}(h0:-9223372036854775808≤n)(h1:n≤9223372036854775807):Fv n:=by
 simp[Fv,Lit.wf,IntKind.min,IntKind.max,IntKind.signed,IntKind.bits];omega
structure AL (F:Nat→Prop) (w w':World):Prop where
 os:w'.os=w.os
 tape:w'.tape=w.tape
 output:w'.output=w.output
 size:w.heap.size≤w'.heap.size
 block:∀k,k<w.heap.size→¬F k→w'.heap[k]?=w.heap[k]?
section
variable {F F' : Nat → Prop} {w w1 w2 : World}
theorem AL.refl(F:Nat→Prop)(w:World):AL F w w:=⟨rfl,rfl,rfl,Nat.le_refl _,fun _ _ _=>rfl⟩
theorem AL.trans(h:AL F w w1)(k:AL F' w1 w2)(hF:∀b,F' b→F b∨w.heap.size≤b):AL F w w2:=
 ⟨k.os.trans h.os,k.tape.trans h.tape,k.output.trans h.output,Nat.le_trans h.size k.size,fun b hb hn=>(k.block b (Nat.lt_of_lt_of_le hb h.size) fun hf=>by
  rcases hF b hf with h1|h1
  ·exact hn h1
  ·omega).trans (h.block b hb hn)⟩
theorem AL.AJ(h:Below w.heap.size w w1)(F:Nat→Prop):AL F w w1:=⟨h.os,h.tape,h.output,h.size,fun k hk _=>h.block k hk⟩
theorem AL.below(h:AL F w w1){B:Nat}(hB:B≤w.heap.size)(hF:∀b,F b→B≤b):Below B w w1:=⟨h.os,h.tape,h.output,h.size,fun k hk=>h.block k (by omega) fun hf=>by have:=hF k hf;omega⟩
theorem AL.mono(h:AL F w w1)(hF:∀b,F b→F' b):AL F' w w1:=⟨h.os,h.tape,h.output,h.size,fun k hk hn=>h.block k hk fun hf=>hn (hF k hf)⟩
theorem AL.drewN(h:AL F w w1)(m:Nat):AL F w (w1.drewN m):=⟨h.os,h.tape,h.output,h.size,h.block⟩
theorem AL.drew(h:AL F w w1):AL F w w1.drew:=⟨h.os,h.tape,h.output,h.size,h.block⟩
theorem AL.set(h:AL F w w1){p:Addr}(hp:F p.block∨w.heap.size≤p.block)(v:Value):AL F w (w1.setCell p v):=by
 have h0:=(Below.refl 0 w1).setCell (Nat.zero_le p.block) v
 refine h.trans (F':=fun b=>b=p.block) ⟨h0.os,h0.tape,h0.output,h0.size,fun k _ hn=>heap_setCell_other w1 p k v hn⟩ ?_
 intro b hb;subst hb;exact hp
theorem AL.alloc(h:AL F w w1)(o:Obj):AL F w (w1.alloc o):=h.trans (AL.AJ ((Below.refl _ w1).alloc (Nat.le_refl _) o) fun _=>False) fun _ hf=>hf.elim
theorem AL.grown(h:AL F w w1){row:Option Nat}(hg:w1.grownBy w2 row)(hr:∀k,row=some k→F k∨w.heap.size≤k):AL F w w2:=
 h.trans (F':=fun b=>row=some b) ⟨hg.os,hg.tape,hg.output,hg.size,fun k hk hn=>hg.block k hk fun e=>hn e.symm⟩ fun b hb=>hr b hb
theorem AL.row(h:AL F w w1){g:Nat}{t:TypeId}{cs:List Value}(hr:Row w g t cs)(hn:¬F g):Row w1 g t cs:=(h.block g hr.lt hn).trans hr
end
def II(w:World)(B:Nat)(a:Option Addr)(n:Nat)(l:List Bool):Prop:=
 l.length=n∧(0<n→∃b off,a=some ⟨b,off,none⟩∧b<B∧∀i,i<n→w.cell? ⟨b,off+i,none⟩=some (.bool (l.getD i false)))
theorem II.CL{w w':World}{B:Nat}{a:Option Addr}{n:Nat}{l:List Bool}(h:II w B a n l)(hb:Below B w w'):II w' B a n l:=by
 obtain⟨hl,hc⟩:=h
 refine⟨hl,fun hn=>?_⟩
 obtain⟨b,off,rfl,Mz,hc⟩:=hc hn
 exact⟨b,off,rfl,Mz,fun i hi=>(hb.cell (p:=⟨b,off+i,none⟩) Mz).trans (hc i hi)⟩
theorem II.Cc{w w1:World}{B:Nat}{A:Option Addr}{n:Nat}{l:List Bool}{F:Nat→Prop}(h:II w B A n l)(hB:B≤w.heap.size)(hf:AL F w w1)(hF:0<n→∀b off,A=some ⟨b,off,none⟩→¬F b):II w1 B A n l:=by
 obtain⟨h1,h3⟩:=h
 refine⟨h1,fun hn=>?_⟩
 obtain⟨b,off,hA,hb,hc⟩:=h3 hn
 refine⟨b,off,hA,hb,fun i hi=>?_⟩
 rw[World.cell?_of_block (w:=w) (w':=w1) (hf.block b (by omega) (hF hn b off hA))]
 exact hc i hi
theorem II.mono{w:World}{B B':Nat}{a:Option Addr}{n:Nat}{l:List Bool}(h:II w B a n l)(hb:B≤B'):II w B' a n l:=by
 obtain⟨hl,hc⟩:=h
 refine⟨hl,fun hn=>?_⟩
 obtain⟨b,off,rfl,Mz,hc⟩:=hc hn
 exact⟨b,off,rfl,by omega,hc⟩
theorem Qw{P:Program}{ops:Array Oper}{Q:Exit→Act→World→Prop}{rest:List Oper}{a:Act}{w:World}{t:TypeId}{m x v:Operand}{ty:TypeId}{pos:String}{after:Array Edge}{guard:Option (Nat×Bool)}
  (h:Hid (wpList P ops Q (⟨none,.mapUpdate t m x v,ty,pos,after,guard⟩::rest) a w)):wpList P ops Q (⟨none,.mapUpdate t m x v,ty,pos,after,guard⟩::rest) a w:=h
structure Kept (K:Obj→Prop) (w w':World):Prop where
 os:w'.os=w.os
 tape:w'.tape=w.tape
 output:w'.output=w.output
 size:w.heap.size≤w'.heap.size
 block:∀(k:Nat) (o:Obj),w.heap[k]?=some o→¬K o→w'.heap[k]?=some o
def rowsOf(T:TypeId→Prop)(o:Obj):Prop:=∃(cs:Array Value) (t:TypeId),o=.cells cs t (0,0)∧T t
section
variable {K : Obj → Prop} {T : TypeId → Prop} {w w1 w2 : World}
theorem Kept.refl(K:Obj→Prop)(w:World):Kept K w w:=⟨rfl,rfl,rfl,Nat.le_refl _,fun _ _ h _=>h⟩
theorem Kept.trans(h:Kept K w w1)(k:Kept K w1 w2):Kept K w w2:=⟨k.os.trans h.os,k.tape.trans h.tape,k.output.trans h.output,Nat.le_trans h.size k.size,fun i o hi ho=>k.block i o (h.block i o hi ho) ho⟩
theorem Kept.drew(h:Kept K w w1):Kept K w w1.drew:=⟨h.os,h.tape,h.output,h.size,h.block⟩
theorem Kept.drewN(h:Kept K w w1)(m:Nat):Kept K w (w1.drewN m):=⟨h.os,h.tape,h.output,h.size,h.block⟩
theorem Jv{k:Nat}{o:Obj}(h:w.heap[k]?=some o):k<w.heap.size:=by
 rcases Nat.lt_or_ge k w.heap.size with h1|h1
 ·exact h1
 ·rw[Array.getElem?_eq_none h1]at h;cases h
theorem Kept.AJ(h:Below w.heap.size w w1)(K:Obj→Prop):Kept K w w1:=⟨h.os,h.tape,h.output,h.size,fun k _ hk _=>(h.block k (Jv hk)).trans hk⟩
theorem Kept.row(h:Kept (rowsOf T) w w1){k:Nat}{t:TypeId}{cs:List Value}(hr:Row w k t cs)(ht:¬T t):Row w1 k t cs:=
 h.block k _ hr fun⟨_,_,e,hT⟩=>ht (by injection e with _ e;subst e;exact hT)
theorem Kept.set(h:Kept (rowsOf T) w w1){p:Addr}{t:TypeId}{cs:List Value}(hr:Row w1 p.block t cs)(ht:T t)(v:Value):Kept (rowsOf T) w (w1.setCell p v):=by
 have h0:=(Below.refl 0 w1).setCell (Nat.zero_le p.block) v
 refine h.trans ⟨h0.os,h0.tape,h0.output,h0.size,fun k o hk ho=>?_⟩
 rw[heap_setCell_other w1 p k v fun e=>?_]
 ·exact hk
 ·subst e
  unfold Row at hr
  rw[hr]at hk;injection hk with hk;subst hk
  exact ho ⟨_,_,rfl,ht⟩
theorem Kept.append(h:Kept (rowsOf T) w w1){base:Nat}{e:TypeId}{n:Nat}{v:Value}{xs:List Value}{s:Nat}(Ap:w1.ownsRow base e s v n xs)(hT:T e)(hb:Below base w1 w2)(hf:∀k,k<w1.heap.size→some k≠v.ownBlock→w2.heap[k]?=w1.heap[k]?):Kept (rowsOf T) w w2:=by
 refine h.trans ⟨hb.os,hb.tape,hb.output,hb.size,fun k o hk ho=>(hf k (Jv hk) fun e1=>?_).trans hk⟩
 rcases Ap.2 with⟨rfl,_⟩|⟨g,cap,cur,rfl,_,hh,_⟩
 ·simp[Value.ownBlock]at e1
 ·simp only[Value.ownBlock]at e1
  injection e1 with e1;subst e1
  rw[hh]at hk;injection hk with hk;subst hk
  exact ho ⟨_,_,rfl,hT⟩
theorem RD(h:Kept (rowsOf T) w w1){base:Nat}{e:TypeId}{n s:Nat}{v:Value}{xs:List Value}(Ap:w.ownsRow base e s v n xs)(hT:¬T e):w1.ownsRow base e s v n xs:=by
 obtain⟨h1,h2⟩:=Ap
 refine⟨h1,?_⟩
 rcases h2 with h2|⟨g,cap,cur,rfl,hg,hh,r⟩
 ·exact .inl h2
 ·exact .inr ⟨g,cap,cur,rfl,hg,h.block g _ hh fun⟨_,_,e1,e2⟩=>hT (by injection e1 with _ e1;subst e1;exact e2),r⟩
theorem Si{base:Nat}{e:TypeId}{n s:Nat}{v:Value}{xs:List Value}(Ap:w.ownsRow base e s v n xs){p:Addr}{t:TypeId}{cs:List Value}(hr:Row w p.block t cs)(ht:e≠t)(u:Value):(w.setCell p u).ownsRow base e s v n xs:=
 RD (T:=fun x=>x=t) (Kept.set (T:=fun x=>x=t) (Kept.refl _ w) hr rfl u) Ap ht
end
theorem CV{w w':World}{base s:Nat}{e:TypeId}{v:Value}{n:Nat}{xs:List Value}(h:w.ownsRow base e s v n xs)(hb:∀k,v.ownBlock=some k→w'.heap[k]?=w.heap[k]?):w'.ownsRow base e s v n xs:=by
 obtain⟨h1,h2⟩:=h
 refine⟨h1,?_⟩
 rcases h2 with h2|⟨g,cap,cur,rfl,hg,hh,r⟩
 ·exact .inl h2
 ·exact .inr ⟨g,cap,cur,rfl,hg,(hb g rfl).trans hh,r⟩
section
variable {α : Type}
def Rv(f:Int→Option α)(i:Int)(x:α):Int→Option α:=fun k=>if k=i then some x else f k
def lay(f:Int→Option α)(l:List (Int×α)):Int→Option α:=l.foldl (fun f e=>Rv f e.1 e.2) f
def nothing:Int→Option α:=fun _=>none
theorem GZ(f:Int→Option α)(i:Int)(x:α):Rv f i x i=some x:=by simp[Rv]
theorem FQ(f:Int→Option α){i k:Int}(x:α)(h:k≠i):Rv f i x k=f k:=by simp[Rv,h]
theorem Nt(f:Int→Option α)(l:List (Int×α))(i:Int)(x:α):lay f (l++[(i,x)])=Rv (lay f l) i x:=by simp[lay,List.foldl_append]
def over(f g:Int→Option α):Int→Option α:=fun k=>match f k with|some x=>some x|none=>g k
theorem aP(f g:Int→Option α)(i:Int)(x:α):over (Rv f i x) g=Rv (over f g) i x:=by
 funext k
 by_cases h:k=i
 ·subst h;simp[over,Rv]
 ·simp[over,Rv,h]
theorem Sy(g:Int→Option α):∀(l:List (Int×α)) (f:Int→Option α),lay (over f g) l=over (lay f l) g
 |[],_=>rfl
 |e::l,f=>by
  show lay (Rv (over f g) e.1 e.2) l=over (lay (Rv f e.1 e.2) l) g
  rw[←aP];exact Sy g l _
theorem RE(g:Int→Option α):over nothing g=g:=by funext k;rfl
theorem mX(g:Int→Option α)(l:List (Int×α)):lay g l=over (lay nothing l) g:=by rw[←Sy,RE]
def kept:List Bool→List (Int×α)→List (Int×α)
 | _,[]=>[]
 |[],_=>[]
 |b::k,e::l=>if b then e::kept k l else kept k l
theorem RI(p:α→Prop):∀(l:List (Int×α)) (f:Int→Option α),(∀k x,f k=some x→p x)→(∀e∈l,p e.2)→∀k x,lay f l k=some x→p x
 |[],f,hf,_=>hf
 |e::l,f,hf,hl=>by
  refine RI p l (Rv f e.1 e.2) ?_ fun e' he=>hl e' (List.mem_cons_of_mem _ he)
  intro k x hx
  by_cases h:k=e.1
  ·subst h;rw[GZ]at hx;injection hx with hx;subst hx;exact hl e List.mem_cons_self
  ·rw[FQ _ _ h]at hx;exact hf k x hx
end
structure St where
 size:Nat
 blocks:Int
 fl:Int→Option (List Nat)
 Ak:List (Int×List Nat)
 fb:Bool
 fn:Int
 tb:Bool
 tn:Int
 down:Bool
 Al:Int
def fresh(size:Nat)(blocks:Int):St:=⟨size,blocks,nothing,[],false,0,false,0,false,0⟩
def blk(n:Nat)(o:Option (List Nat)):List Nat:=match o with|some l=>l|none=>List.replicate n 0
def St.now(s:St)(x:Int):List Nat:=blk s.size (lay s.fl s.Ak x)
def begin(s:St)(right:Bool):Int×St:=
 if s.down then (8,s)else if right=false then (1,s)
 else if s.fb=true∧s.fn=0 then (8,{s with down:=true})
 else
  let fn':=if s.fb then s.fn-1 else s.fn
  if s.tb=true∧s.tn=0 then (6,{s with fn:=fn',tb:=false,tn:=0})
  else (0,{s with fn:=fn',tn:=if s.tb then s.tn-1 else s.tn,Al:=s.Al+1})
def right(s:St)(i:Int):Bool:=decide (0≤i)&&decide (i<s.blocks)
def read(s:St)(i:Int):Int×St:=begin s (right s i)
def write(s:St)(i:Int)(l:List Nat):Int×St:=
 let r:=begin s (right s i&&decide (l.length=s.size))
 if r.1=0 then (0,{r.2 with Ak:=s.Ak++[(i,l)]})else r
theorem DC(s:St)(b:Bool):(begin s b).2.size=s.size∧(begin s b).2.blocks=s.blocks∧(begin s b).2.fl=s.fl∧(begin s b).2.Ak=s.Ak:=by
 unfold begin;split<;>(try split)<;>(try split)<;>(try dsimp only)<;>(try split)<;>exact⟨rfl,rfl,rfl,rfl⟩
theorem VW(s:St)(b:Bool):(begin s b).2.Al=s.Al∨(begin s b).2.Al=s.Al+1:=by
 unfold begin;split<;>(try split)<;>(try split)<;>(try dsimp only)<;>(try split)<;>first|exact .inl rfl|exact .inr rfl
theorem dB(s:St)(h1:s.down=false)(h2:s.fb=false)(h3:s.tb=false):begin s true=(0,{s with Al:=s.Al+1}):=by
 unfold begin;simp[h1,h2,h3]
def Calm(s:St):Prop:=s.down=false∧s.fb=false∧s.tb=false
theorem OG(n:Nat)(b:Int):Calm (fresh n b):=⟨rfl,rfl,rfl⟩
theorem ZN{s:St}(h:Calm s){i:Int}(hi:right s i=true){l:List Nat}(hl:l.length=s.size):write s i l=(0,{s with Al:=s.Al+1,Ak:=s.Ak++[(i,l)]}):=by
 have:(right s i&&decide (l.length=s.size))=true:=by simp[hi,hl]
 unfold write;rw[this,dB s h.1 h.2.1 h.2.2];rfl
theorem VV(s:St)(b:Bool)(h1:s.down=true):begin s b=(8,s):=by unfold begin;simp[h1]
theorem Yb{l:List (Int×Int)}{i:Nat}(h:i<l.length):l.getD i (0,0)∈l:=by
 rw[List.getD_eq_getElem?_getD,List.getElem?_eq_getElem h];exact List.getElem_mem h
def Dc(w:World)(B:Nat)(a:Option Addr)(n:Nat)(l:List (Int×Int)):Prop:=
 l.length=n∧(∀x∈l,Fv x.1∧Fv x.2)∧
 (0<n→∃b off,a=some ⟨b,off,none⟩∧b<B∧∀i,i<n→w.cell? ⟨b,off+i*2,none⟩=some (.int .i64 (l.getD i (0,0)).1)∧w.cell? ⟨b,off+i*2+1,none⟩=some (.int .i64 (l.getD i (0,0)).2))
theorem Dc.at_{w:World}{B:Nat}{a:Option Addr}{n:Nat}{l:List (Int×Int)}(h:Dc w B a n l){i:Nat}(hi:i<n):
  ∃b off u v,a=some ⟨b,off,none⟩∧b<B∧w.cell? ⟨b,off+i*2,none⟩=some (.int .i64 u)∧w.cell? ⟨b,off+i*2+1,none⟩=some (.int .i64 v)∧Fv u∧Fv v∧Hid (l.getD i (0,0)=(u,v)):=by
 obtain⟨hl,hw,hc⟩:=h
 obtain⟨b,off,rfl,hb,hc⟩:=hc (by omega)
 have hm:=hw _ (Yb (l:=l) (i:=i) (by omega))
 exact⟨b,off,_,_,rfl,hb,(hc i hi).1,(hc i hi).2,hm.1,hm.2,rfl⟩
theorem Dc.CL{w w':World}{B:Nat}{a:Option Addr}{n:Nat}{l:List (Int×Int)}(h:Dc w B a n l)(hb:Below B w w'):Dc w' B a n l:=by
 obtain⟨hl,hw,hc⟩:=h
 refine⟨hl,hw,fun hn=>?_⟩
 obtain⟨b,off,rfl,Mz,hc⟩:=hc hn
 exact⟨b,off,rfl,Mz,fun i hi=>⟨(hb.cell (p:=⟨b,off+i*2,none⟩) Mz).trans (hc i hi).1,(hb.cell (p:=⟨b,off+i*2+1,none⟩) Mz).trans (hc i hi).2⟩⟩
theorem Dc.drewN{w:World}{B:Nat}{a:Option Addr}{n:Nat}{l:List (Int×Int)}(h:Dc w B a n l)(m:Nat):Dc (w.drewN m) B a n l:=h
theorem Dc.mono{w:World}{B B':Nat}{a:Option Addr}{n:Nat}{l:List (Int×Int)}(h:Dc w B a n l)(hb:B≤B'):Dc w B' a n l:=by
 obtain⟨hl,hw,hc⟩:=h
 refine⟨hl,hw,fun hn=>?_⟩
 obtain⟨b,off,rfl,Mz,hc⟩:=hc hn
 exact⟨b,off,rfl,by omega,hc⟩
theorem Dc.nil(w:World)(B:Nat)(a:Option Addr):Dc w B a 0 []:=⟨rfl,by simp,fun h=>absurd h (by omega)⟩
theorem Dc.lt{w:World}{B:Nat}{a:Option Addr}{n:Nat}{l:List (Int×Int)}(h:Dc w B a n l){x:Addr}(hx:a=some x)(hn:0<n):x.block<B:=by
 obtain⟨b,off,rfl,hb,_⟩:=h.2.2 hn
 injection hx with hx;subst hx;exact hb
def Oa(w:World)(B:Nat)(a:Option Addr)(n:Nat)(l:List Int):Prop:=
 l.length=n∧(∀x∈l,Fv x)∧(0<n→∃b off,a=some ⟨b,off,none⟩∧b<B∧∀i,i<n→w.cell? ⟨b,off+i,none⟩=some (.int .i64 (l.getD i 0)))
theorem Oa.at_{w:World}{B:Nat}{a:Option Addr}{n:Nat}{l:List Int}(h:Oa w B a n l){i:Nat}(hi:i<n):
  ∃b off u,a=some ⟨b,off,none⟩∧b<B∧w.cell? ⟨b,off+i,none⟩=some (.int .i64 u)∧Fv u∧Hid (l.getD i 0=u):=by
 obtain⟨hl,hw,hc⟩:=h
 obtain⟨b,off,rfl,hb,hc⟩:=hc (by omega)
 have:i<l.length:=by omega
 have hm:l.getD i 0∈l:=by rw[List.getD_eq_getElem?_getD,List.getElem?_eq_getElem this];exact List.getElem_mem this
 exact⟨b,off,_,rfl,hb,hc i hi,hw _ hm,rfl⟩
theorem Oa.CL{w w':World}{B:Nat}{a:Option Addr}{n:Nat}{l:List Int}(h:Oa w B a n l)(hb:Below B w w'):Oa w' B a n l:=by
 obtain⟨hl,hw,hc⟩:=h
 refine⟨hl,hw,fun hn=>?_⟩
 obtain⟨b,off,rfl,Mz,hc⟩:=hc hn
 exact⟨b,off,rfl,Mz,fun i hi=>(hb.cell (p:=⟨b,off+i,none⟩) Mz).trans (hc i hi)⟩
def NT(a:Option Addr)(i cap sz:Nat):Option Addr:=if cap=i then a else a.map (·.add (i*sz))
theorem BU{g off i cap sz:Nat}(h:i<cap):NT (some ⟨g,off,none⟩) i cap sz=some ⟨g,off+i*sz,none⟩:=by
 unfold NT;rw[if_neg (by omega)];simp[Addr.add]
section
variable {P : Program} {w : World}
theorem BV(w:World)(t e:TypeId)(i0:TypeInfo){sz:Nat}(ht:P.underlying t=some (.slice e))(hi:P.info? e=some i0)(hs:i0.size=sz)(a:Option Addr)(len cap i:Nat)(hil:i≤len)
  (kl:IntKind) (I:Int) (hI:I=i):(Instr.slice t (.slice a len cap) (some (.int kl I)) none none).run P w=.ok (.slice (NT a i cap sz) (len-i) (cap-i)) w:=by
 subst hI
 have he:P.elem t=e:=by simp[Program.elem,ht]
 rw[run_slice_l w t a len cap (by rw[he];exact ht) kl i (by omega) (by omega)]
 simp[he,sizeOf,typeInfo,hi,hs,sliced,NT]
theorem GA(w:World)(t e:TypeId)(i0:TypeInfo){sz:Nat}(ht:P.underlying t=some (.slice e))(hi:P.info? e=some i0)(hs:i0.size=sz)(a:Option Addr)(len cap i j:Nat)(Fq:i≤j)(hj:j≤cap)
  (kl kh:IntKind) (I J:Int) (hI:I=i) (hJ:J=j):(Instr.slice t (.slice a len cap) (some (.int kl I)) (some (.int kh J)) none).run P w=.ok (.slice (NT a i cap sz) (j-i) (cap-i)) w:=by
 subst hI hJ
 have he:P.elem t=e:=by simp[Program.elem,ht]
 rw[run_slice_lh w t a len cap (by rw[he];exact ht) kl kh i j (by omega) (by omega) (by omega)]
 simp[he,sizeOf,typeInfo,hi,hs,sliced,NT]
theorem AS{α:Type}(L:List α)(off:Nat)(cs:List α)(h:off+cs.length≤L.length):(splice L off cs).length=L.length:=length_splice L off cs h
theorem BP{α:Type}(L:List α)(off:Nat)(cs:List α)(h:off+cs.length≤L.length){k:Nat}(hk:k<off∨off+cs.length≤k):(splice L off cs)[k]?=L[k]?:=by
 unfold splice
 rcases hk with hk|hk
 ·rw[List.getElem?_append_left (by rw[List.length_take];omega),List.getElem?_take,if_pos hk]
 ·rw[List.getElem?_append_right (by rw[List.length_take];omega),List.getElem?_append_right (by rw[List.length_take];omega),List.getElem?_drop]
  congr 1;rw[List.length_take];omega
theorem E7{α:Type}(C X Y:List α)(a b c:Nat)(hb:b=a+X.length)(hc:c=b+Y.length)(h:c≤C.length):(splice (splice C a X) b Y).take c=C.take a++X++Y:=by
 have h1:(splice C a X).take b=C.take a++X:=by
  unfold splice
  rw[←List.append_assoc,List.take_append_of_le_length (by simp;omega)]
  exact List.take_of_length_le (by simp;omega)
 unfold splice at h1⊢
 rw[h1,←List.append_assoc,List.take_append_of_le_length (by simp;omega)]
 exact List.take_of_length_le (by simp;omega)
theorem JV{α:Type}(C X Y:List α)(a b c:Nat)(hb:b=a+X.length)(hc:c=b+Y.length)(h:c≤C.length):(splice (splice C b Y) a X).take c=C.take a++X++Y:=by
 have e:splice (splice C b Y) a X=splice (splice C a X) b Y:=by
  apply List.ext_getElem?
  intro k
  have l1:(splice C a X).length=C.length:=length_splice _ _ _ (by omega)
  have l2:(splice C b Y).length=C.length:=length_splice _ _ _ (by omega)
  by_cases hx:a≤k∧k<a+X.length
  ·rw[BP (splice C a X) b Y (by omega) (by omega)]
   unfold splice
   rw[List.getElem?_append_right (by simp;omega),List.getElem?_append_left (by simp;omega),List.getElem?_append_right (by simp;omega),List.getElem?_append_left (by simp;omega)]
   congr 1
   simp;omega
  ·rw[BP (splice C b Y) a X (by omega) (by omega)]
   by_cases hy:b≤k∧k<b+Y.length
   ·unfold splice
    rw[List.getElem?_append_right (by simp;omega),List.getElem?_append_left (by simp;omega),List.getElem?_append_right (by simp;omega),List.getElem?_append_left (by simp;omega)]
    congr 1
    simp;omega
   ·rw[BP C b Y (by omega) (by omega),BP (splice C a X) b Y (by omega) (by omega),BP C a X (by omega) (by omega)]
 rw[e];exact E7 C X Y a b c hb hc h
theorem AL.setRow(w:World)(g:Nat)(cs:Array Value):AL (fun k=>k=g) w (w.setRow g cs):=
 ⟨rfl,rfl,rfl,by simp[World.setRow],fun k _ hk=>setRow_other w g k cs hk⟩
theorem JX(w:World)(dT sT ty e:TypeId){sz:Nat}(hu:P.underlying dT=some (.slice e))(hsz:(P.info? e).map (·.size)=some sz)(Ny:0<sz)(dp sp:Option Addr)(JQ VM Ie SQ g off:Nat)(cur:List Value)(t:TypeId)(hg:Row w g t cur)
  (cs:List Value) (hn:cs.length=Nat.min Ie JQ*sz) (B6:0<cs.length→dp=some ⟨g,off,none⟩∧∃ad,sp=some ad∧∀j v,cs[j]?=some v→w.cell? (ad.add j)=some v) (hfit:off+cs.length≤cur.length) (h1:∀v∈cs,v.oneCell'=true):
  ∃w',(Builtin.copy_ #[dT,sT] ty #[.slice dp JQ VM,.slice sp Ie SQ]).run P w=.ok (goInt (Nat.min Ie JQ)) w'∧Row w' g t (splice cur off cs)∧AL (fun k=>k=g) w w':=by
 obtain⟨i,hi,hs⟩:∃i,P.info? e=some i∧i.size=sz:=by
  rcases hq:P.info? e with _|i
  ·rw[hq]at hsz;cases hsz
  ·rw[hq]at hsz;exact⟨i,rfl,by simpa using hsz⟩
 by_cases h0:cs.length=0
 ·obtain rfl:cs=[]:=List.eq_nil_of_length_eq_zero h0
  have Ir:Nat.min Ie JQ=0:=by
   rcases Nat.eq_zero_or_pos (Nat.min Ie JQ)with h|h
   ·exact h
   ·have:=Nat.mul_pos h Ny;simp at hn;omega
  have hl:∀(x:Addr),(loadCells x 0).run P w=.ok #[] w:=fun x=>by simpa using run_loadCells_list (P:=P) w x [] (by simp)
  refine⟨w,?_,by simpa [splice]using hg,AL.refl _ _⟩
  rw[Ir]
  cases dp<;>cases sp<;>simp[Builtin.copy_,run_underlying hu,Builtin.lenOf,Builtin.firstCells,sizeOf,typeInfo,hi,Ir,storeCells,hl]
 ·obtain⟨rfl,ad,rfl,B4⟩:=B6 (by omega)
  have hf:=run_firstCells_some (P:=P) w sz (Nat.min Ie JQ) ad Ie SQ cs hn B4
  have hst:=run_storeCells_at P g off t cs 0 cur.toArray w hg (by simpa using hfit) h1
  refine⟨w.setRow g (splice cur off cs).toArray,?_,setRow_heap w g _ _ t _ hg,AL.setRow w g _⟩
  simp only[Nat.add_zero]at hst
  have e2:splice cur off cs=cur.take off++cs++cur.drop (off+cs.length):=by unfold splice;rw[List.append_assoc]
  simp[Builtin.copy_,run_underlying hu,Builtin.lenOf,sizeOf,typeInfo,hi,hs,hf,hst,e2]
theorem BY{ops:Array Oper}{rest:List Oper}{o:Oper}{a:Act}{Q:Exit→Act→World→Prop}(Py:o.guard=none)(d s:Operand)(dT sT:TypeId)
  (ho:o.op=.call {callee:=.builtin .copy,args:=#[d,s],argTypes:=#[dT,sT]}) (e:TypeId) {sz:Nat} (hu:P.underlying dT=some (.slice e)) (hsz:(P.info? e).map (·.size)=some sz) (Ny:0<sz)
  (dp sp:Option Addr) (JQ VM Ie SQ:Nat) (hd:a.eval d=.slice dp JQ VM) (hs:a.eval s=.slice sp Ie SQ) (g off:Nat) (cur:List Value) (t:TypeId) (hg:Row w g t cur)
  (cs:List Value) (hn:cs.length=Nat.min Ie JQ*sz) (B6:0<cs.length→dp=some ⟨g,off,none⟩∧∃ad,sp=some ad∧∀j v,cs[j]?=some v→w.cell? (ad.add j)=some v) (hfit:off+cs.length≤cur.length) (h1:∀v∈cs,v.oneCell'=true)
  (h:∀w',Hid (Row w' g t (splice cur off cs))→Hid (AL (fun k=>k=g) w w')→wpList P ops Q rest (a.put o.dst (goInt (Nat.min Ie JQ))) w'):wpList P ops Q (o::rest) a w:=by
 obtain⟨w',hrun,h2,h3⟩:=JX w dT sT o.type e hu hsz Ny dp sp JQ VM Ie SQ g off cur t hg cs hn B6 hfit h1
 refine wpList_plain Py fun K hK=>?_
 unfold Oper.wp
 simp[execOp,ho,resolve,invoke,builtin,hd,hs,hrun,Result.andThen]
 exact hK _ _ (h w' h2 h3)
theorem Cs{ops:Array Oper}{o:Oper}{a:Act}{K:Act→World→Prop}{Q:Exit→Act→World→Prop}{E:Prop}(Py:o.guard=none)(d s:Operand)(dT sT:TypeId)
  (ho:o.op=.call {callee:=.builtin .copy,args:=#[d,s],argTypes:=#[dT,sT]}) (e:TypeId) {sz:Nat} (hu:P.underlying dT=some (.slice e)) (hsz:(P.info? e).map (·.size)=some sz) (Ny:0<sz)
  (dp sp:Option Addr) (JQ VM Ie SQ:Nat) (hd:a.eval d=.slice dp JQ VM) (hs:a.eval s=.slice sp Ie SQ) (g off:Nat) (cur:List Value) (t:TypeId) (hg:Row w g t cur)
  (cs:List Value) (hn:cs.length=Nat.min Ie JQ*sz) (B6:0<cs.length→dp=some ⟨g,off,none⟩∧∃ad,sp=some ad∧∀j v,cs[j]?=some v→w.cell? (ad.add j)=some v) (hfit:off+cs.length≤cur.length) (h1:∀v∈cs,v.oneCell'=true)
  (h:∀w',Hid (Row w' g t (splice cur off cs))→Hid (AL (fun k=>k=g) w w')→K (a.put o.dst (goInt (Nat.min Ie JQ))) w'):if Region.wanted o (yielded ops a.tmps)=true then Oper.wp P o a w K Q else E:=by
 have hw:Region.wanted o (yielded ops a.tmps)=true:=by simp[Region.wanted,Py]
 rw[if_pos hw]
 obtain⟨w',hrun,h2,h3⟩:=JX w dT sT o.type e hu hsz Ny dp sp JQ VM Ie SQ g off cur t hg cs hn B6 hfit h1
 unfold Oper.wp
 simp[execOp,ho,resolve,invoke,builtin,hd,hs,hrun,Result.andThen]
 exact h w' h2 h3
theorem O8{z:Array Value}(h:∀v∈z.toList,v.oneCell'=true)(n:Nat):∀v∈(Builtin.zeroCells z n).toList,v.oneCell'=true:=by
 intro v hv
 simp only[Builtin.zeroCells,Array.toList_map,List.mem_map,Array.mem_toList_iff]at hv
 obtain⟨i,hi,rfl⟩:=hv
 have hi:i<n*z.size:=by simpa using hi
 have hz:0<z.size:=by
  rcases Nat.eq_zero_or_pos z.size with h0|h0
  ·rw[h0,Nat.mul_zero]at hi;omega
  ·exact h0
 have hm:=Nat.mod_lt i hz
 rw[getElem!_pos z _ hm]
 exact h _ (by simp)
theorem Na(w:World)(t e ty:TypeId)(z:Value){sz:Nat}(ht:P.underlying t=some (.slice e))(hv:∀w,(zeroValue e).run P w=.ok z w)(hz:z.cells.size=sz)(h1:∀v∈z.cells.toList,v.oneCell'=true)
  (A:Option Addr) (n c g off:Nat) (cur:List Value) (tt:TypeId) (hg:Row w g tt cur) (B6:0<n→A=some ⟨g,off,none⟩) (hfit:off+n*sz≤cur.length):
  ∃w' Ra,(Builtin.clear_ #[t] ty #[.slice A n c]).run P w=.ok (.tuple #[]) w'∧Row w' g tt Ra∧Ra.length=cur.length∧Ra.take off=cur.take off∧AL (fun k=>k=g) w w':=by
 cases n with
 |zero=>
  refine⟨w,cur,?_,hg,rfl,rfl,AL.refl _ _⟩
  cases A<;>simp[Builtin.clear_,run_underlying ht]
 |succ m=>
  obtain rfl:=B6 (by omega)
  have hlen:(Builtin.zeroCells z.cells (m+1)).toList.length=(m+1)*sz:=by simp[Builtin.zeroCells,hz]
  have hst:=run_storeCells_at P g off tt (Builtin.zeroCells z.cells (m+1)).toList 0 cur.toArray w hg (by rw[hlen];simpa using hfit) (O8 h1 _)
  simp only[Nat.add_zero]at hst
  refine⟨_,cur.take off++(Builtin.zeroCells z.cells (m+1)).toList++cur.drop (off+(Builtin.zeroCells z.cells (m+1)).toList.length),?_,setRow_heap w g cur.toArray _ tt (0,0) hg,?_,?_,AL.setRow w g _⟩
  ·simp[Builtin.clear_,run_underlying ht,hv,hst]
  ·simp[hlen];omega
  ·rw[List.append_assoc,List.take_append_of_le_length (by rw[List.length_take];omega)]
   rw[List.take_take,Nat.min_self]
end
theorem Fz{P:Program}{w:World}{ops:Array Oper}{rest:List Oper}{o:Oper}{a:Act}{Q:Exit→Act→World→Prop}(Py:o.guard=none)(s:Operand)(t:TypeId)
  (ho:o.op=.call {callee:=.builtin .clear,args:=#[s],argTypes:=#[t]}) (e:TypeId) (z:Value) {sz:Nat} (ht:P.underlying t=some (.slice e)) (hv:∀w,(zeroValue e).run P w=.ok z w) (hz:z.cells.size=sz) (h1:∀v∈z.cells.toList,v.oneCell'=true)
  (A:Option Addr) (n c:Nat) (hs:a.eval s=.slice A n c) (g off:Nat) (cur:List Value) (tt:TypeId) (hg:Row w g tt cur) (B6:0<n→A=some ⟨g,off,none⟩) (hfit:off+n*sz≤cur.length)
  (h:∀w' Ra,Row w' g tt Ra→Ra.length=cur.length→Ra.take off=cur.take off→AL (fun k=>k=g) w w'→wpList P ops Q rest (a.put o.dst (.tuple #[])) w'):wpList P ops Q (o::rest) a w:=by
 obtain⟨w',Ra,hrun,h2,h3,h4,h5⟩:=Na w t e o.type z ht hv hz h1 A n c g off cur tt hg B6 hfit
 refine wpList_plain Py fun K hK=>?_
 unfold Oper.wp
 simp[execOp,ho,resolve,invoke,builtin,hs,hrun,Result.andThen]
 exact hK _ _ (h w' Ra h2 h3 h4 h5)
theorem Pe{P:Program}{ops:Array Oper}{Q:Exit→Act→World→Prop}{rest:List Oper}{a:Act}{w:World}{s:Operand}{ts:Array TypeId}{ty:TypeId}{pos:String}{after:Array Edge}{guard:Option (Nat×Bool)}
  (h:Hid (wpList P ops Q (⟨none,.call {callee:=.builtin .clear,args:=#[s],argTypes:=ts},ty,pos,after,guard⟩::rest) a w)):wpList P ops Q (⟨none,.call {callee:=.builtin .clear,args:=#[s],argTypes:=ts},ty,pos,after,guard⟩::rest) a w:=h
theorem Dt{P:Program}{w:World}{ops:Array Oper}{rest:List Oper}{o:Oper}{a:Act}{Q:Exit→Act→World→Prop}(Py:o.guard=none)(s x:Operand)(t:TypeId)
  (ho:o.op=.call {callee:=.builtin .append,args:=#[s,x],argTypes:=#[t,t]}) (e:TypeId) (i:TypeInfo) {sz:Nat} (ht:P.underlying t=some (.slice e)) (hi:P.info? e=some i) (hsz:i.size=sz)
  (g k cap:Nat) (hs:a.eval s=.slice (some ⟨g,0,none⟩) k cap) (cur:List Value) (hg:Row w g e cur) (A:Option Addr) (m c:Nat) (hx:a.eval x=.slice A m c) (cs:List Value) (hl:cs.length=m*sz)
  (B4:0<m→∃ad,A=some ad∧∀j v,cs[j]?=some v→w.cell? (ad.add j)=some v) (h1:∀v∈cs,v.oneCell'=true) (hroom:k+m≤cap) (hfit:k*sz+cs.length≤cur.length)
  (h:∀w',Hid (Row w' g e (splice cur (k*sz) cs))→Hid (AL (fun b=>b=g) w w')→wpList P ops Q rest (a.put o.dst (.slice (some ⟨g,0,none⟩) (k+m) cap)) w'):wpList P ops Q (o::rest) a w:=by
 subst hsz
 rcases Nat.eq_zero_or_pos m with h0|h0
 ·subst h0
  obtain rfl:cs=[]:=List.eq_nil_of_length_eq_zero (by simpa using hl)
  have hld:∀ad:Addr,(loadCells ad 0).run P w=.ok #[] w:=fun ad=>by simpa using run_loadCells_list (P:=P) w ad [] (by simp)
  have hkc:k≤cap:=by omega
  have hrun:(Builtin.append_ #[t,t] o.type #[.slice (some ⟨g,0,none⟩) k cap,.slice A 0 c]).run P w=.ok (.slice (some ⟨g,0,none⟩) k cap) w:=by
   cases A<;>simp[Builtin.append_,run_underlying ht,sizeOf,typeInfo,hi,Builtin.lenOf,Builtin.firstCells,hkc,storeCells,hld]
  refine wpList_plain Py fun K hK=>?_
  unfold Oper.wp
  simp[execOp,ho,resolve,invoke,builtin,hs,hx,hrun,Result.andThen]
  exact hK _ _ (h w (by simpa [splice,Hid]using hg) (AL.refl _ _))
 ·obtain⟨ad,rfl,rX⟩:=B4 h0
  have hrun:=run_append_room (P:=P) w t o.type e i ht hi g k cap cur.toArray hg ad m c cs hl rX h1 hroom (by simpa using hfit)
  refine wpList_plain Py fun K hK=>?_
  unfold Oper.wp
  simp only[execOp,ho,resolve,invoke,builtin,hs,hx,hrun,Result.andThen,Sem.run_bind,Sem.run_pure,List.map_toArray,List.map_cons,List.map_nil]
  refine hK _ _ (h _ ?_ (AL.setRow w g _))
  have e2:splice cur (k*i.size) cs=cur.take (k*i.size)++cs++cur.drop (k*i.size+cs.length):=by unfold splice;rw[List.append_assoc]
  rw[e2]
  exact setRow_heap w g _ _ e _ hg
theorem DR{P:Program}{w:World}{ops:Array Oper}{rest:List Oper}{o:Oper}{a:Act}{Q:Exit→Act→World→Prop}(Py:o.guard=none)(s x:Operand)(t tn:TypeId)
  (ho:o.op=.call {callee:=.builtin .append,args:=#[s,x],argTypes:=#[t,tn]}) (e:TypeId) (i:TypeInfo) (z:Value) {sz bytes:Nat} (kn kq:IntKind) (ht:P.underlying t=some (.slice e)) (mq:P.underlying tn=some (.int kn)) (hi:P.info? e=some i) (hz:i.zero=some z)
  (hsz:i.size=sz) (Ny:0<sz) (kV:i.bytes=bytes) (mc:z.cells.size=sz) (A:Option Addr) (k cap:Nat) (hs:a.eval s=.slice A k cap) (PA:List Value) (hl:PA.length=k*sz) (hA:A=none→k=0)
  (hold:∀ad,A=some ad→∀j v,PA[j]?=some v→w.cell? (ad.add j)=some v) (m:Nat) (I:Int) (hx:a.eval x=.int kq I) (hI:I=(m:Nat)) (hm:0<m) (hroom:cap<k+m) (iE:k+m≤maxLen) (Iz:(k+m)*bytes≤140737488355328)
  (h:∀w' C cur,k+m≤C→C≤maxLen→cur.length=C*sz→cur.take (k*sz)=PA→Row w' w.heap.size e cur→w'.heap.size=w.heap.size+1→Below w.heap.size w w'→wpList P ops Q rest (a.put o.dst (.slice (some ⟨w.heap.size,0,none⟩) (k+m) C)) w'):wpList P ops Q (o::rest) a w:=by
 subst hsz;subst kV;subst hI
 have hf:(Builtin.firstCells i.size k (.slice A k cap)).run P w.drew=.ok PA.toArray w.drew:=by
  cases A with
  |none=>
   obtain rfl:=hA rfl
   obtain rfl:PA=[]:=List.eq_nil_of_length_eq_zero (by simpa using hl)
   simp[Builtin.firstCells]
  |some ad=>exact run_firstCells_some (P:=P) w.drew i.size k ad k cap PA hl (hold ad rfl)
 have AZ:m*i.bytes≤281474976710656:=by
  have:=Nat.mul_le_mul_right i.bytes (show m≤k+m by omega);omega
 have hrun:=Lib.run_append_grow_zeros (P:=P) w t tn o.type e i z kq kn ht mq hi hz A k cap PA hf m hm Ny hroom (by unfold maxLen at iE;omega) AZ (growslice_fits (by omega) Iz)
 have hge:=grownCap_ge w (k+m) cap e
 have hle:=grownCap_le_maxLen w (k+m) cap e iE
 generalize hC:grownCap w (k+m) cap e=C at hrun hge hle
 refine wpList_plain Py fun K hK=>?_
 unfold Oper.wp
 simp only[execOp,ho,resolve,invoke,builtin,hs,hx,hrun,Result.andThen,Sem.run_bind,Sem.run_pure,List.map_toArray,List.map_cons,List.map_nil]
 refine hK _ _ (h _ C (PA++(Builtin.zeroCells z.cells m).toList++(Builtin.zeroCells z.cells (C-(k+m))).toList) hge hle ?_ ?_ ?_ ?_ ?_)
 ·simp only[List.length_append,Array.length_toList,size_zeroCells,hl,mc,←Nat.add_mul]
  congr 1;omega
 ·rw[List.append_assoc,←hl];exact List.take_left
 ·unfold Row
  rw[show (PA++(Builtin.zeroCells z.cells m).toList++(Builtin.zeroCells z.cells (C-(k+m))).toList).toArray=PA.toArray++Builtin.zeroCells z.cells m++Builtin.zeroCells z.cells (C-(k+m))by apply Array.ext';simp]
  exact heap_alloc_new w.drew _
 ·simp
 ·exact⟨rfl,rfl,rfl,by simp,fun k hk=>Below.heap_alloc w.drew _ k hk⟩
theorem MY{P:Program}(w:World)(base:Nat)(t ty e:TypeId)(i:TypeInfo)(z:Value)(size bytes:Nat)(ht:P.underlying t=some (.slice e))(hi:P.info? e=some i)(hz:i.zero=some z)
  (Cm:i.size=size) (kV:i.bytes=bytes) (mc:z.cells.size=size) (hsz:0<size) (v:Value) (n:Nat) (xs:List Value) (Ap:w.ownsRow base e size v n xs)
  (a:Addr) (m c:Nat) (news:List Value) (hl:news.length=m*size) (MH:∀j u,news[j]?=some u→w.cell? (a.add j)=some u) (h1:∀u∈news,u.oneCell'=true)
  (iE:n+m≤maxLen) (Iz:(n+m)*bytes≤140737488355328) (Co:base≤w.heap.size):
  ∃v' w',(Builtin.append_ #[t,t] ty #[v,.slice (some a) m c]).run P w=.ok v' w'∧w'.ownsRow base e size v' (n+m) (xs++news)∧w.grownBy w' v.ownBlock∧w'.ownsRow base e size v n xs:=by
 obtain⟨v',w',hr,h2,h3,_,_⟩:=run_append_own_at (P:=P) w base t ty e i z size bytes ht hi hz Cm kV mc hsz v n xs Ap a m c news hl MH h1 iE Iz Co
 refine⟨v',w',hr,h2,h3,?_⟩
 subst Cm;subst kV
 have kD:=Ap
 obtain⟨k1,k2⟩:=Ap
 rcases k2 with⟨rfl,rfl⟩|⟨g,cap,cur,rfl,Ry,hg,hnc,Dn,sq,rS⟩
 ·exact⟨k1,.inl ⟨rfl,rfl⟩⟩
 ·by_cases hroom:n+m≤cap
  ·have hfit:n*i.size+news.length≤cur.size:=by rw[hl,sq,←Nat.add_mul];exact Nat.mul_le_mul_right _ hroom
   have Av:=run_append_room (P:=P) w t ty e i ht hi g n cap cur hg a m c news hl MH h1 hroom hfit
   rw[hr]at Av;injection Av with _ Av;subst Av
   refine⟨k1,.inr ⟨g,cap,_,rfl,Ry,setRow_heap w g cur _ e _ hg,hnc,Dn,?_,?_⟩⟩
   ·simp only[List.size_toArray,List.length_append,List.length_take,List.length_drop,Array.length_toList]
    omega
   ·rw[rS,List.append_assoc]
    exact List.take_append_of_le_length (by omega)|>.trans (List.take_of_length_le (by omega))
  ·refine kD.kept (row:=none) ⟨h3.os,h3.tape,h3.output,h3.size,fun k hk _=>?_⟩ (.inr (by simp[Value.ownBlock]))
   have holds:∀j u,xs[j]?=some u→w.cell? ((⟨g,0,none⟩:Addr).add j)=some u:=kD.cells (g:=g) rfl
   have x7:n+m≤9223372036854775807:=by simp only[maxLen]at iE;omega
   have Av:=run_append_grow (P:=P) w t ty e i z ht hi hz ⟨g,0,none⟩ n cap xs k1 holds a m c news hl MH (by omega) (by omega) (growslice_fits (by omega) Iz)
   rw[hr]at Av;injection Av with _ Av;subst Av
   exact Below.heap_alloc w.drew _ k hk
theorem Gh{P:Program}{w:World}{ops:Array Oper}{o:Oper}{a:Act}{K:Act→World→Prop}{Q:Exit→Act→World→Prop}{E:Prop}(Py:o.guard=none)(s x:Operand)(t:TypeId)
  (ho:o.op=.call {callee:=.builtin .append,args:=#[s,x],argTypes:=#[t,t]}) (base:Nat) (e:TypeId) (i:TypeInfo) (z:Value) (size bytes:Nat) (ht:P.underlying t=some (.slice e)) (hi:P.info? e=some i) (hz:i.zero=some z)
  (Cm:i.size=size) (kV:i.bytes=bytes) (mc:z.cells.size=size) (hsz:0<size) (v:Value) (n:Nat) (xs:List Value) (hs:a.eval s=v) (Ap:w.ownsRow base e size v n xs)
  (ad:Addr) (m c:Nat) (news:List Value) (hx:a.eval x=.slice (some ad) m c) (hl:news.length=m*size) (MH:∀j u,news[j]?=some u→w.cell? (ad.add j)=some u) (h1:∀u∈news,u.oneCell'=true)
  (iE:n+m≤maxLen) (Iz:(n+m)*bytes≤140737488355328) (Co:base≤w.heap.size)
  (h:∀v' w',Hid (w'.ownsRow base e size v' (n+m) (xs++news))→w.grownBy w' v.ownBlock→w'.ownsRow base e size v n xs→K (a.put o.dst v') w'):if Region.wanted o (yielded ops a.tmps)=true then Oper.wp P o a w K Q else E:=by
 have hw:Region.wanted o (yielded ops a.tmps)=true:=by simp[Region.wanted,Py]
 rw[if_pos hw]
 obtain⟨v',w',hrun,h2,h3,h4⟩:=MY w base t o.type e i z size bytes ht hi hz Cm kV mc hsz v n xs Ap ad m c news hl MH h1 iE Iz Co
 unfold Oper.wp
 simp[execOp,ho,resolve,invoke,builtin,hs,hx,hrun,Result.andThen]
 exact h v' w' h2 h3 h4
structure AB where
 a:Int
 b:Int
 c:Int
 d:Int
 e:Int
def AB.Bb(t:AB):List Int:=[t.a,t.b,t.c,t.d,t.e]
def BX(t:AB):Prop:=∀x∈t.Bb,Fv x
def AD:AB:=⟨0,0,0,0,0⟩
theorem AB.Th(t:AB):t.Bb.length=5:=rfl
theorem AB.cT{t u:AB}(h:t.Bb=u.Bb):t=u:=by
 obtain⟨a,b,c,d,e⟩:=t;obtain⟨a',b',c',d',e'⟩:=u
 simp[AB.Bb]at h
 obtain⟨rfl,rfl,rfl,rfl,rfl⟩:=h;rfl
def uw(z:Int):Nat:=(z%18446744073709551616).toNat
theorem Vt(z:Int):IntKind.u64.wrap z=((uw z:Nat):Int):=by unfold uw;rw[IntKind.wrap_u64];omega
theorem qu(z:Int):uw z<18446744073709551616:=by unfold uw;omega
theorem KR{z:Int}(h:Fv z):IntKind.i64.wrap ((uw z:Nat):Int)=z:=by
 have:=h.bounds;unfold uw;rw[IntKind.wrap_i64];omega
def Aa(k:Nat)(t:AB):List Nat:=(t.Bb.take k).map uw
theorem CR{k:Nat}(hk:k≤5)(t:AB):(Aa k t).length=k:=by unfold Aa;simp[AB.Th];omega
def BC(k:Nat)(l:List AB):List Nat:=l.flatMap (Aa k)
theorem RX(k:Nat)(l m:List AB):BC k (l++m)=BC k l++BC k m:=by simp[BC]
theorem QK(k:Nat)(t:AB):BC k [t]=Aa k t:=by simp[BC]
theorem Gr{k:Nat}(hk:k≤5):∀l:List AB,(BC k l).length=l.length*k
 |[]=>by simp[BC]
 |t::l=>by
  have h:=Gr hk l
  show (Aa k t++BC k l).length= _
  rw[List.length_append,CR hk,h,List.length_cons,Nat.add_mul];omega
theorem Lw(k:Nat)(l:List AB):∀x∈BC k l,x<18446744073709551616:=by
 intro x hx
 obtain⟨t,_,hx⟩:=List.mem_flatMap.1 hx
 obtain⟨z,_,rfl⟩:=List.mem_map.1 hx
 exact qu z
theorem OJ{k:Nat}(hk:k≤5):∀(l:List AB) (i:Nat),(BC k l).drop (i*k)=BC k (l.drop i)
 |[],i=>by simp[BC]
 |t::l,0=>by simp
 |t::l,i+1=>by
  show (Aa k t++BC k l).drop ((i+1)*k)=BC k (l.drop i)
  rw[←OJ hk l i,Nat.add_mul,Nat.one_mul,Nat.add_comm,←List.drop_drop,List.drop_left' (CR hk t)]
theorem Ta{k:Nat}(hk:k≤5){l:List AB}{i:Nat}{t:AB}(h:l[i]?=some t):((BC k l).drop (i*k)).take k=Aa k t:=by
 rw[OJ hk]
 have hi:i<l.length:=(List.getElem?_eq_some_iff.1 h).1
 rw[List.drop_eq_getElem_cons hi]
 have e:l[i]=t:=(List.getElem?_eq_some_iff.1 h).2
 rw[e]
 show (Aa k t++BC k (l.drop (i+1))).take k=Aa k t
 exact List.take_left' (CR hk t)
def Af(k:Nat)(t:AB):Bool:=(t.Bb.drop k).all (·==0)
def F4(k:Nat)(ws:List Nat):AB:=
 let g:=fun i=>if i<k then IntKind.i64.wrap ((ws.getD i 0:Nat):Int)else 0
 ⟨g 0,g 1,g 2,g 3,g 4⟩
theorem NO{k:Nat}(hk:k≤5){t:AB}(hok:BX t)(hf:Af k t=true):F4 k (Aa k t)=t:=by
 obtain⟨a,b,c,d,e⟩:=t
 have ha:=KR (hok a (by simp[AB.Bb]))
 have hb:=KR (hok b (by simp[AB.Bb]))
 have hc:=KR (hok c (by simp[AB.Bb]))
 have hd:=KR (hok d (by simp[AB.Bb]))
 have he:=KR (hok e (by simp[AB.Bb]))
 match k,hk with
 |0,_=>simp[Af,AB.Bb]at hf;simp[F4,hf]
 |1,_=>simp[Af,AB.Bb]at hf;simp[F4,Aa,AB.Bb,hf,ha]
 |2,_=>simp[Af,AB.Bb]at hf;simp[F4,Aa,AB.Bb,hf,ha,hb]
 |3,_=>simp[Af,AB.Bb]at hf;simp[F4,Aa,AB.Bb,hf,ha,hb,hc]
 |4,_=>simp[Af,AB.Bb]at hf;simp[F4,Aa,AB.Bb,hf,ha,hb,hc,hd]
 |5,_=>simp[F4,Aa,AB.Bb,ha,hb,hc,hd,he]
def AH(size:Nat)(width:Int):Nat:=if width<1∨5<width then 0 else (size-2)/width.toNat
def AA(h c:Nat):Nat:=if 0<c%h then c/h+1 else c/h
section
variable {h c : Nat}
theorem A7(h:Nat):AA h 0=0:=by simp[AA]
theorem Bj(_hh:0<h)(hc:0<c):0<AA h c:=by
 have h1:=Nat.div_add_mod c h
 unfold AA;split
 ·exact Nat.succ_pos _
 ·rcases Nat.eq_zero_or_pos (c/h)with h0|h0
  ·rw[h0]at h1;omega
  ·exact h0
theorem BL(h c:Nat):AA h c≤c:=by
 unfold AA
 have h1:=Nat.div_add_mod c h
 have h2:=Nat.div_le_self c h
 split
 ·rename_i h3
  rcases Nat.eq_zero_or_pos h with h0|h0
  ·subst h0;simp at h3⊢;omega
  ·rcases Nat.eq_zero_or_pos (c/h)with h4|h4
   ·rw[h4]at h1⊢;omega
   ·have:c/h*1≤c/h*h:=Nat.mul_le_mul_left _ h0
    rw[Nat.mul_comm (c/h) h]at this;omega
 ·exact h2
theorem Eb(hh:0<h)(hc:0<c):(AA h c-1)*h<c∧c≤(AA h c-1)*h+h∧c-(AA h c-1)*h=if 0<c%h then c%h else h:=by
 have h1:=Nat.div_add_mod c h
 have h2:=Nat.mod_lt c hh
 have hp:=Bj hh hc
 unfold AA at hp⊢
 rw[Nat.mul_comm]at h1
 by_cases h3:0<c%h
 ·rw[if_pos h3,if_pos h3,Nat.add_sub_cancel];omega
 ·rw[if_neg h3]at hp
  rw[if_neg h3,if_neg h3]
  have h4:(c/h-1)*h+h=c/h*h:=by
   conv=>rhs;rw[show c/h=(c/h-1)+1 by omega,Nat.add_mul,Nat.one_mul]
  omega
theorem IG(hh:0<h):c≤AA h c*h:=by
 rcases Nat.eq_zero_or_pos c with h0|h0
 ·omega
 ·have h1:=Eb hh h0
  have h2:=Bj hh h0
  have h4:(AA h c-1)*h+h=AA h c*h:=by
   conv=>rhs;rw[show AA h c=(AA h c-1)+1 by omega,Nat.add_mul,Nat.one_mul]
  omega
theorem K6(hh:0<h){k:Nat}(hk:c≤k*h):AA h c≤k:=by
 rcases Nat.eq_zero_or_pos c with h0|h0
 ·subst h0;rw[A7];exact Nat.zero_le _
 ·have h1:=(Eb hh h0).1
  have h2:(AA h c-1)*h<k*h:=by omega
  have h3:AA h c-1<k:=Nat.lt_of_mul_lt_mul_right h2
  omega
theorem Aq(hh:0<h){c':Nat}(hc:c≤c'):AA h c≤AA h c':=K6 hh (Nat.le_trans hc (IG hh))
theorem MM(hh:0<h):(AA h (c+1)-1)*h+c%h=c∧c+1-(AA h (c+1)-1)*h=c%h+1∧AA h (c+1)-1=c/h:=by
 have h1:=Nat.div_add_mod c h
 have h2:=Nat.mod_lt c hh
 have key:AA h (c+1)=c/h+1:=by
  have h5:c+1≤(c/h+1)*h:=by rw[Nat.add_mul,Nat.one_mul,Nat.mul_comm];omega
  have h6:=K6 hh h5
  have h7:=IG (c:=c+1) hh
  have h8:c/h<AA h (c+1):=by
   apply Nat.lt_of_not_le
   intro h9
   have:=Nat.mul_le_mul_right h h9
   rw[Nat.mul_comm (c/h)]at this
   omega
  omega
 rw[key,Nat.add_sub_cancel,Nat.mul_comm]
 refine⟨h1,?_,rfl⟩
 omega
theorem Ec(h3:c%h=0):AA h c=c/h:=by unfold AA;rw[if_neg (by omega)]
end
def Cv(h:Nat)(l:List AB):List AB:=l.drop ((AA h l.length-1)*h)
def FG(h k:Nat)(l:List AB)(j:Nat):List Nat:=BC k ((l.drop (j*h)).take h)
theorem JH{h:Nat}{l:List AB}(hh:0<h)(hl:0<l.length):(Cv h l).length≤h∧0<(Cv h l).length∧(Cv h l).length=l.length-(AA h l.length-1)*h:=by
 obtain⟨h1,h2,h3⟩:=Eb hh hl
 unfold Cv;rw[List.length_drop];omega
theorem aL{h k:Nat}{l:List AB}(hh:0<h)(hl:0<l.length):FG h k l (AA h l.length-1)=BC k (Cv h l):=by
 unfold FG
 rw[show l.drop ((AA h l.length-1)*h)=Cv h l from rfl,List.take_of_length_le (JH hh hl).1]
theorem fq{h k:Nat}(hk:k≤5)(l:List AB)(j:Nat):(FG h k l j).length≤h*k:=by
 unfold FG;rw[Gr hk];exact Nat.mul_le_mul_right _ (by rw[List.length_take];omega)
theorem aK{h k:Nat}{l m:List AB}{j:Nat}(hj:(j+1)*h≤l.length):FG h k (l++m) j=FG h k l j:=by
 unfold FG
 rw[Nat.add_mul,Nat.one_mul]at hj
 rw[List.drop_append_of_le_length (by omega),List.take_append_of_le_length (by rw[List.length_drop];omega)]
theorem Xr{h k:Nat}(hk:k≤5)(l:List AB)(j:Nat):(FG h k l j).length=min h (l.length-j*h)*k:=by
 unfold FG;rw[Gr hk,List.length_take,List.length_drop]
theorem Ul{h:Nat}(hh:0<h)(l:List AB)(t:AB):Cv h (l++[t])=l.drop (l.length-l.length%h)++[t]∧(Cv h (l++[t])).length=l.length%h+1:=by
 obtain⟨h1,h2,h3⟩:=MM (c:=l.length) hh
 have e:Cv h (l++[t])=l.drop (l.length-l.length%h)++[t]:=by
  unfold Cv
  rw[List.length_append,List.length_singleton,show (AA h (l.length+1)-1)*h=l.length-l.length%h by omega,List.drop_append_of_le_length (by omega)]
 refine⟨e,?_⟩
 rw[e,List.length_append,List.length_drop,List.length_singleton]
 have:=Nat.mod_le l.length h
 omega
def Oc(k h:Nat)(l:List AB)(ws:List Nat):Prop:=ws.take (l.length%h*k)=BC k (l.drop (l.length-l.length%h))
theorem cA(k h:Nat)(ws:List Nat):Oc k h [] ws:=by simp[Oc,BC]
theorem YU{k h:Nat}{l:List AB}(ws:List Nat)(h0:l.length%h=0):Oc k h l ws:=by
 unfold Oc;rw[h0,Nat.zero_mul,Nat.sub_zero,List.drop_length];simp[BC]
theorem bw{k h:Nat}(hk:k≤5)(hh:0<h){l:List AB}{ws:List Nat}(hw:Oc k h l ws)(hl:h*k≤ws.length)(t:AB):
  (splice ws (l.length%h*k) (Aa k t)).take ((Cv h (l++[t])).length*k)=BC k (Cv h (l++[t])):=by
 obtain⟨e1,e2⟩:=Ul hh l t
 rw[e2,e1,RX,QK,←hw]
 have hm:=Nat.mod_lt l.length hh
 have hb:l.length%h*k+k≤h*k:=by
  have:=Nat.mul_le_mul_right k (show l.length%h+1≤h by omega)
  rw[Nat.add_mul,Nat.one_mul]at this;exact this
 have Pv:=CR hk t
 unfold splice
 rw[←List.append_assoc,List.take_append_of_le_length (by simp[Pv,Nat.add_mul];omega)]
 exact List.take_of_length_le (by simp[Pv,Nat.add_mul];omega)
theorem P4{k h:Nat}(hh:0<h){l:List AB}{ws:List Nat}(h0:l.length%h≠0):Oc k h l ws↔ws.take ((Cv h l).length*k)=BC k (Cv h l):=by
 have hl:0<l.length:=by
  rcases Nat.eq_zero_or_pos l.length with h1|h1
  ·rw[h1]at h0;simp at h0
  ·exact h1
 obtain⟨h1,h2,h3⟩:=Eb hh hl
 rw[if_pos (by omega)]at h3
 have e1:=(JH hh hl).2.2
 unfold Oc
 rw[e1,h3]
 unfold Cv
 rw[show l.length-l.length%h=(AA h l.length-1)*h by omega]
def BA(D:St)(first k h:Nat)(l:List AB)(m:Nat):Prop:=∀j,j<m→D.now ((first+j:Nat):Int)=DK D.size (first+j) k (FG h k l j)
theorem Le{s:St}{i:Int}{l:List Nat}(h0:(write s i l).1=0):(write s i l).2.now i=l∧(∀x,x≠i→(write s i l).2.now x=s.now x)∧(write s i l).2.size=s.size∧(write s i l).2.blocks=s.blocks:=by
 obtain⟨e1,e2,e3,e4⟩:=DC s (right s i&&decide (l.length=s.size))
 unfold write at h0⊢
 dsimp only at h0⊢
 by_cases hb:(begin s (right s i&&decide (l.length=s.size))).1=0
 ·rw[if_pos hb]
  refine⟨?_,fun x hx=>?_,e1,e2⟩
  ·unfold St.now
   dsimp only
   rw[e3,Nt,GZ];rfl
  ·unfold St.now
   dsimp only
   rw[e1,e3,Nt,FQ _ _ hx]
 ·rw[if_neg hb]at h0;exact absurd h0 hb
theorem Sm{s:St}{i:Int}{l:List Nat}(h0:(write s i l).1≠0):(∀x,(write s i l).2.now x=s.now x)∧(write s i l).2.size=s.size∧(write s i l).2.blocks=s.blocks:=by
 obtain⟨e1,e2,e3,e4⟩:=DC s (right s i&&decide (l.length=s.size))
 unfold write at h0⊢
 dsimp only at h0⊢
 by_cases hb:(begin s (right s i&&decide (l.length=s.size))).1=0
 ·rw[if_pos hb]at h0;exact absurd rfl h0
 ·rw[if_neg hb]
  refine⟨fun x=>?_,e1,e2⟩
  unfold St.now;rw[e1,e3,e4]
theorem Fa(s:St)(i x:Int):(read s i).2.now x=s.now x∧(read s i).2.size=s.size∧(read s i).2.blocks=s.blocks:=by
 obtain⟨e1,e2,e3,e4⟩:=DC s (right s i)
 unfold read St.now;rw[e1,e3,e4];exact⟨rfl,rfl,e2⟩
theorem S9:(Tryz.prog.info? 63).map (fun i=>(i.zero,i.size,i.bytes))=some (some (.agg #[.int .i64 0,.int .i64 0,.int .i64 0,.int .i64 0,.int .i64 0]),5,40):=by kernel_rfl
def Ai(t:AB):List Value:=[.int .i64 t.a,.int .i64 t.b,.int .i64 t.c,.int .i64 t.d,.int .i64 t.e]
def AY(l:List AB):List Value:=l.flatMap Ai
theorem QJ(l:List AB):(AY l).length=l.length*5:=by
 unfold AY
 induction l with
 |nil=>rfl
 |cons e l ih=>rw[List.flatMap_cons,List.length_append,ih,List.length_cons];show 5+ _= _;omega
theorem Ff(l:List AB)(e:AB):AY (l++[e])=AY l++Ai e:=by unfold AY;simp
theorem OI:∀(l:List AB) (i:Nat),i<l.length→∀(j:Nat) (u:Value),(Ai (l.getD i AD))[j]?=some u→(AY l)[i*5+j]?=some u
 |[],i,h=>by simp at h
 |e::l,0,_=>by
  intro j u h
  have hj:j<(Ai e).length:=(List.getElem?_eq_some_iff.1 h).1
  show (Ai e++AY l)[0*5+j]?= _
  rw[Nat.zero_mul,Nat.zero_add,List.getElem?_append_left hj];exact h
 |e::l,i+1,hi=>by
  intro j u h
  show (Ai e++AY l)[(i+1)*5+j]?= _
  rw[List.getElem?_append_right (by show 5≤ _;omega),show (i+1)*5+j-(Ai e).length=i*5+j by show _-5= _;omega]
  exact OI l i (by simpa using hi) j u (by simpa using h)
theorem JJ{l:List AB}{i:Nat}(h:i<l.length):l.getD i AD∈l:=by
 rw[List.getD_eq_getElem?_getD,List.getElem?_eq_getElem h];exact List.getElem_mem h
def BD(w:World)(B:Nat)(a:Option Addr)(n:Nat)(l:List AB):Prop:=
 l.length=n∧(∀e∈l,BX e)∧(0<n→∃b off,a=some ⟨b,off,none⟩∧b<B∧∀(i:Nat),i<n→∀(j:Nat) (u:Value),(Ai (l.getD i AD))[j]?=some u→w.cell? ⟨b,off+i*5+j,none⟩=some u)
section
variable {w w' : World} {B : Nat} {a : Option Addr} {n : Nat} {l : List AB}
theorem BD.CL(h:BD w B a n l)(hb:Below B w w'):BD w' B a n l:=by
 obtain⟨hl,hw,hc⟩:=h
 refine⟨hl,hw,fun hn=>?_⟩
 obtain⟨b,off,rfl,Mz,hc⟩:=hc hn
 exact⟨b,off,rfl,Mz,fun i hi j u hj=>(hb.cell (p:=⟨b,off+i*5+j,none⟩) Mz).trans (hc i hi j u hj)⟩
theorem BD.mono{B':Nat}(h:BD w B a n l)(hb:B≤B'):BD w B' a n l:=by
 obtain⟨hl,hw,hc⟩:=h
 refine⟨hl,hw,fun hn=>?_⟩
 obtain⟨b,off,rfl,Mz,hc⟩:=hc hn
 exact⟨b,off,rfl,by omega,hc⟩
theorem BD.drewN(h:BD w B a n l)(m:Nat):BD (w.drewN m) B a n l:=h
theorem BD.nil(w:World)(B:Nat)(a:Option Addr):BD w B a 0 []:=⟨rfl,by simp,fun h=>absurd h (by omega)⟩
theorem BD.Cc{F:Nat→Prop}(h:BD w B a n l)(hB:B≤w.heap.size)(hf:AL F w w')(hF:0<n→∀b off,a=some ⟨b,off,none⟩→¬F b):BD w' B a n l:=by
 obtain⟨hl,hw,hc⟩:=h
 refine⟨hl,hw,fun hn=>?_⟩
 obtain⟨b,off,hA,Mz,hc⟩:=hc hn
 refine⟨b,off,hA,Mz,fun i hi j u hj=>?_⟩
 have h1:=hf.block b (by omega) (hF hn b off hA)
 have h2:w'.cell? ⟨b,off+i*5+j,none⟩=w.cell? ⟨b,off+i*5+j,none⟩:=by simp only[World.cell?,h1]
 exact h2.trans (hc i hi j u hj)
theorem BD.at_(h:BD w B a n l){i:Nat}(hi:i<n):∃b off t,a=some ⟨b,off,none⟩∧b<B∧w.cell? ⟨b,off+i*5,none⟩=some (.int .i64 t.a)∧w.cell? ⟨b,off+i*5+1,none⟩=some (.int .i64 t.b)∧w.cell? ⟨b,off+i*5+2,none⟩=some (.int .i64 t.c)∧
  w.cell? ⟨b,off+i*5+3,none⟩=some (.int .i64 t.d)∧w.cell? ⟨b,off+i*5+4,none⟩=some (.int .i64 t.e)∧BX t∧Hid (l[i]?=some t):=by
 obtain⟨hl,hw,hc⟩:=h
 obtain⟨b,off,rfl,hb,hc⟩:=hc (by omega)
 refine⟨b,off,l.getD i AD,rfl,hb,hc i hi 0 _ rfl,hc i hi 1 _ rfl,hc i hi 2 _ rfl,hc i hi 3 _ rfl,hc i hi 4 _ rfl,hw _ (JJ (by omega)),?_⟩
 show l[i]?=some (l.getD i AD)
 rw[List.getD_eq_getElem?_getD,List.getElem?_eq_getElem (by omega)];rfl
end
theorem Nh{w:World}{base:Nat}{t:TypeId}{v:Value}{n:Nat}{l:List AB}(h:w.ownsRow base t 5 v n (AY l))(hw:∀e∈l,BX e):∃A c,v=.slice A n c∧BD w w.heap.size A n l∧l.length=n∧c≤maxLen∧n≤c∧(0<n→∀b off,A=some ⟨b,off,none⟩→base≤b):=by
 obtain⟨hl,h2⟩:=h
 have U4:l.length=n:=by rw[QJ]at hl;omega
 rcases h2 with⟨rfl,rfl⟩|⟨g,cap,cur,rfl,hg,hh,hcap,hm,hs,ht⟩
 ·exact⟨none,0,rfl,⟨U4,hw,fun h=>absurd h (by omega)⟩,U4,by unfold maxLen;omega,Nat.le_refl _,fun h=>absurd h (by omega)⟩
 ·refine⟨some ⟨g,0,none⟩,cap,rfl,⟨U4,hw,fun _=>⟨g,0,rfl,?_,fun i hi j u hj=>?_⟩⟩,U4,hm,hcap,fun _ b off e=>?_⟩
  ·exact Jv hh
  ·have h3:w.cell? ⟨g,0+i*5+j,none⟩=cur[0+i*5+j]?:=by simp[World.cell?,hh]
   rw[h3,Nat.zero_add]
   have WT:j<5:=(List.getElem?_eq_some_iff.1 hj).1
   have h4:(cur.toList.take (n*5))[i*5+j]?=cur.toList[i*5+j]?:=by rw[List.getElem?_take,if_pos (by omega)]
   rw[ht,OI l i (by omega) j u hj]at h4
   rw[←Array.getElem?_toList];exact h4.symm
  ·injection e with e;injection e with e _;subst e;exact hg
theorem BZ{w w':World}{base:Nat}{e:TypeId}{s n:Nat}{v:Value}{xs:List Value}(h:w.ownsRow base e s v n xs)(hb:Below w.heap.size w w'):w'.ownsRow base e s v n xs:=
 CV h fun k hk=>hb.block k (h.lt k hk).2
theorem aN(w:World)(base:Nat)(e:TypeId):w.ownsRow base e 5 (.slice none 0 0) 0 (AY []):=⟨rfl,.inl ⟨rfl,rfl⟩⟩
theorem MT{w:World}{ops:Array Oper}{rest:List Oper}{o:Oper}{a:Act}{Q:Exit→Act→World→Prop}(Py:o.guard=none)(sl x:Operand)
  (ho:o.op=.call {callee:=.builtin .append,args:=#[sl,x],argTypes:=#[24,24]}) {v:Value} {base n:Nat} {l:List AB} (h:w.ownsRow base 63 5 v n (AY l)) (hs:a.eval sl=v) (ad:Addr) (hx:a.eval x=.slice (some ad) 1 1) (t:AB)
  (B4:∀j u,(Ai t)[j]?=some u→w.cell? (ad.add j)=some u) (hn:n≤1000000) (Co:base≤w.heap.size)
  (hK:∀v' w',w'.ownsRow base 63 5 v' (n+1) (AY (l++[t]))→AL (fun k=>v.ownBlock=some k) w w'→(v'.ownBlock=v.ownBlock∨v'.ownBlock=some w.heap.size)→wpList Tryz.prog ops Q rest (a.put o.dst v') w'):wpList Tryz.prog ops Q (o::rest) a w:=by
 obtain⟨i0,B7,By,hz,TF⟩:=info_parts S9
 refine wpList_append_own_at w Py sl x 24 ho base 63 i0 _ 5 40 Tryz.underlying24 B7 By hz TF rfl (by decide) v n (AY l) hs h ad 1 1 (Ai t) hx rfl B4 (fun u hu=>by simp[Ai]at hu;rcases hu with rfl|rfl|rfl|rfl|rfl<;>rfl) (by unfold maxLen;omega) (by omega) Co ?_
 intro v' w' Ap Gp _ Bp
 rw[←Ff]at Ap
 exact hK v' w' Ap ((AL.refl _ w).grown Gp fun k hk=>.inl hk) Bp
section
variable {H : Type} {enc : TypeId × Value → H} {P : Program} {w : World} {base b0 : Nat} {spare : Nat → Bool} {held : Bool} {r : Reach}
theorem rG{t e:TypeId}{v:Value}{d:DataW H}{p:List MemPlace}(ht:P.underlying t=some (.array 5 e))(he:P.underlying e=some (.int .i64))(nU:P.cellsOf e=1)(hct:P.cellsOf t=5)
  (hv:Value.okWide P w r b0 t v) (h:DataW.Trod enc P w base spare held t v d p):
  ∃t:AB,v=.agg #[.int .i64 t.a,.int .i64 t.b,.int .i64 t.c,.int .i64 t.d,.int .i64 t.e]∧BX t:=by
 obtain⟨zs,hl,rfl,hw⟩:=aQ ht he nU hct hv h
 match zs,hl,hw with
 |[x,y,z,u,q],_,hw=>exact⟨⟨x,y,z,u,q⟩,rfl,fun k hk=>hw k hk⟩
theorem XI{t e:TypeId}{fuel:Nat}{cs:List Value}{x:DataW H×List MemPlace}(ht:P.underlying t=some (.array 5 e))(he:P.underlying e=some (.int .i64))(nU:P.cellsOf e=1)(hct:P.cellsOf t=5)(h:DataW.trod enc P w base spare held fuel t cs=some x):∃u:AB,cs=Ai u∧BX u:=by
 obtain⟨xs,m,_,_,hl,xg,hx⟩:=DataW.trod_array ht h
 rw[hct]at hl
 have Bk:∀i,i<5→∃z,cs[i]?=some (.int .i64 z)∧Fv z:=by
  intro i hi
  have h1:=hx i hi
  rw[nU,Nat.mul_one]at h1
  rw[List.drop_eq_getElem_cons (by omega),List.take_succ_cons,List.take_zero]at h1
  rw[List.getElem?_eq_getElem (show i<xs.length by omega)]at h1
  obtain⟨z,hz,_,hw⟩:=DataW.trod_int he h1
  injection hz with hz
  exact⟨z,by rw[List.getElem?_eq_getElem (by omega),hz],hw⟩
 clear hx h
 match cs,hl,Bk with
 |[c0,c1,c2,c3,c4],_,Bk=>
  obtain⟨z0,e0,w0⟩:=Bk 0 (by omega)
  obtain⟨z1,e1,w1⟩:=Bk 1 (by omega)
  obtain⟨z2,e2,w2⟩:=Bk 2 (by omega)
  obtain⟨z3,e3,w3⟩:=Bk 3 (by omega)
  obtain⟨z4,e4,w4⟩:=Bk 4 (by omega)
  have zx:some c0=some (Value.int .i64 z0):=e0
  injection zx with zx
  subst zx
  have zw:some c1=some (Value.int .i64 z1):=e1
  injection zw with zw
  subst zw
  have zq:some c2=some (Value.int .i64 z2):=e2
  injection zq with zq
  subst zq
  have zo:some c3=some (Value.int .i64 z3):=e3
  injection zo with zo
  subst zo
  have zn:some c4=some (Value.int .i64 z4):=e4
  injection zn with zn
  subst zn
  refine⟨⟨z0,z1,z2,z3,z4⟩,rfl,fun z hz=>?_⟩
  simp[AB.Bb]at hz
  rcases hz with rfl|rfl|rfl|rfl|rfl<;>assumption
theorem pZ{t e i:TypeId}{fuel:Nat}{v:Value}{x:DataW H×List MemPlace}(ht:P.underlying t=some (.slice e))(he:P.underlying e=some (.array 5 i))(hi:P.underlying i=some (.int .i64))(nU:P.cellsOf i=1)(hC:P.cellsOf e=5)
  (h:DataW.trod enc P w base spare held fuel t [v]=some x):∃a len cap l,v=.slice a len cap∧BD w w.heap.size a len l∧len≤maxLen:=by
 rcases open_slice ht h with h0|⟨a,len,cap,m,n,D,Pl,sq,hb,hl,hm,hmm,hx,hit⟩
 ·have h2:=h0.1
  injection h2 with h2;subst h2
  exact⟨none,0,0,[],rfl,BD.nil _ _ _,Nat.zero_le _⟩
 ·injection sq with sq;subst sq
  have hlm:len≤m:=by split at hmm<;>omega
  have hex:∀k,k<len→∃o:AB,BX o∧∀(j:Nat) (u:Value),(Ai o)[j]?=some u→w.cell? (a.add (k*5+j))=some u:=by
   intro k hk
   obtain⟨qP,hc,rT⟩:=hit k (by omega)
   rw[hC]at hc
   obtain⟨o,rfl,ho⟩:=XI he hi nU hC rT
   obtain⟨_,D9,Bp⟩:=World.cells?_some hc
   refine⟨o,ho,fun j u hj=>?_⟩
   have WT:j<5:=(List.getElem?_eq_some_iff.1 hj).1
   rw[←Go.Deep.add_add,Bp j WT,hj]
  obtain⟨f,hf⟩:∃f:Nat→AB,∀k,k<len→BX (f k)∧∀(j:Nat) (u:Value),(Ai (f k))[j]?=some u→w.cell? (a.add (k*5+j))=some u:=by
   have:∀k,∃o:AB,k<len→BX o∧∀(j:Nat) (u:Value),(Ai o)[j]?=some u→w.cell? (a.add (k*5+j))=some u:=fun k=>by
    by_cases hk:k<len
    ·obtain⟨o,ho⟩:=hex k hk;exact⟨o,fun _=>ho⟩
    ·exact⟨AD,fun h=>absurd h hk⟩
   exact⟨fun k=>(this k).choose,fun k=>(this k).choose_spec⟩
  have bD:0<len→a.spot=none:=fun hp=>by
   have:=(hf 0 hp).2 0 _ rfl
   simpa [Addr.add]using World.cell?_spot this
  obtain⟨b,off,spot⟩:=a
  have e:∀k j,spot=none→(⟨b,off,spot⟩:Addr).add (k*5+j)=⟨b,off+k*5+j,none⟩:=by
   intro k j hs;subst hs;unfold Addr.add;split<;>simp_all [Nat.add_assoc]
  refine⟨_,len,cap,(List.range len).map f,rfl,⟨by simp,?_,fun B6=>?_⟩,by omega⟩
  ·intro o ho
   obtain⟨k,hk,rfl⟩:=List.mem_map.1 ho
   exact(hf k (List.mem_range.1 hk)).1
  ·have hs:spot=none:=bD B6
   subst hs
   refine⟨b,off,rfl,?_,fun k WS j u hj=>?_⟩
   ·have:=(hf 0 B6).2 0 _ rfl;rw[e _ _ rfl]at this;exact block_lt_of_cell this
   ·have hD:((List.range len).map f).getD k AD=f k:=by
     rw[List.getD_eq_getElem?_getD,List.getElem?_map,List.getElem?_range WS];rfl
    rw[hD]at hj
    have:=(hf k WS).2 j u hj
    rw[e _ _ rfl]at this;exact this
end
section
variable {H : Type} {enc : TypeId × Value → H} {P : Program} {w : World} {base b0 : Nat} {spare : Nat → Bool} {held : Bool} {r : Reach}
theorem Nl{t i:TypeId}{fs:Array Field}{v:Value}{d:DataW H}{p:List MemPlace}(ht:P.underlying t=some (.struct fs))(PE:oneCellFields P fs=true)(hC:P.cellsOf t=fs.size)(hi:P.underlying i=some (.int .u8))(Hw:∀(j:Nat) (f:Field),fs[j]?=some f→f.type=i)
  (hv:Value.okWide P w r b0 t v) (h:DataW.Trod enc P w base spare held t v d p):
  ∃zs:List Int,zs.length=fs.size∧v=.agg (zs.map (Value.int .u8)).toArray∧∀z∈zs,(Lit.int .u8 z).wf=true:=by
 have h0:∃cs,v=.agg cs∧cs.size=P.cellsOf t:=by
  simp only[Value.okWide,ht]at hv
  obtain⟨cs,h1,h2,_⟩:=hv
  exact⟨cs,h1,h2⟩
 obtain⟨cs,rfl,hsz⟩:=h0
 obtain⟨fuel,hf⟩:=h
 have Lp:(Value.agg cs).cells.toList=cs.toList:=by simp[Value.cells]
 rw[Lp]at hf
 obtain⟨ys,n',yQ,hy,hlen,hyl,br⟩:=DataW.trod_struct ht hf
 have tH:∀j,j<fs.size→∃z,cs[j]?=some (.int .u8 z)∧(Lit.int .u8 z).wf=true:=by
  intro j hj
  have yg:fs[j]?=some fs[j]:=Array.getElem?_eq_getElem hj
  obtain⟨ho,hk⟩:=hone_of PE j _ yg
  have h1:=br j _ yg
  rw[ho,hk]at h1
  have E1:j<cs.toList.length:=by simp;omega
  have sP:(cs.toList.drop j).take 1=[cs.toList[j]'E1]:=by
   rw[List.drop_eq_getElem_cons E1];rfl
  rw[sP]at h1
  have hys:ys[j]?=some (ys[j]'(by omega)):=List.getElem?_eq_getElem (by omega)
  rw[Hw j _ yg]at h1
  obtain⟨z,hz,_,hw⟩:=DataW.trod_int hi (h1.trans hys)
  injection hz with hz
  exact⟨z,by rw[←Array.getElem?_toList,List.getElem?_eq_getElem E1,hz],hw⟩
 have kW:∀c∈cs.toList,c=.int .u8 (intOf c)∧(Lit.int .u8 (intOf c)).wf=true:=by
  intro c hc
  obtain⟨j,hj,rfl⟩:=List.getElem_of_mem hc
  obtain⟨z,hz,hw⟩:=tH j (by simp at hj;omega)
  rw[←Array.getElem?_toList,List.getElem?_eq_getElem hj]at hz
  injection hz with hz
  rw[hz];exact⟨rfl,hw⟩
 refine⟨cs.toList.map intOf,by rw[List.length_map];simp;omega,?_,?_⟩
 ·congr 1
  apply Array.ext'
  rw[List.map_map]
  have e1:∀l:List Value,(∀c∈l,c=.int .u8 (intOf c)∧(Lit.int .u8 (intOf c)).wf=true)→l=l.map (Value.int .u8∘intOf):=by
   intro l
   induction l with
   |nil=>intro _;rfl
   |cons c l ih=>intro h;rw[List.map_cons,←ih fun x hx=>h x (by simp[hx])];congr 1;exact(h c (by simp)).1
  exact e1 _ kW
 ·intro z hz
  obtain⟨c,hc,rfl⟩:=List.mem_map.1 hz
  exact(kW c hc).2
theorem RH{z:Int}(h:(Lit.int .u8 z).wf=true):∃u:Nat,z=(u:Int)∧u≤255:=by
 have:=bounds_u8 h
 exact⟨z.toNat,by omega,by omega⟩
theorem mR{t i:TypeId}{f0 f1 f2 f3:Field}{v:Value}{d:DataW H}{p:List MemPlace}(ht:P.underlying t=some (.struct #[f0,f1,f2,f3]))(PE:oneCellFields P #[f0,f1,f2,f3]=true)(hC:P.cellsOf t=4)(hi:P.underlying i=some (.int .u8))(h0:f0.type=i)(h1:f1.type=i)(h2:f2.type=i)(h3:f3.type=i)
  (hv:Value.okWide P w r b0 t v) (h:DataW.Trod enc P w base spare held t v d p):
  ∃x y z u:Nat,v=.agg #[.int .u8 x,.int .u8 y,.int .u8 z,.int .u8 u]∧x≤255∧y≤255∧z≤255∧u≤255:=by
 obtain⟨zs,hl,rfl,hw⟩:=Nl ht PE hC hi (fun j f hj=>by
  match j,hj with
  |0,hj=>simp at hj;rw[←hj];exact h0
  |1,hj=>simp at hj;rw[←hj];exact h1
  |2,hj=>simp at hj;rw[←hj];exact h2
  |3,hj=>simp at hj;rw[←hj];exact h3
  |j+4,hj=>simp at hj) hv h
 match zs,hl,hw with
 |[x,y,z,u],_,hw=>
  obtain⟨x',rfl,bx⟩:=RH (hw x (by simp))
  obtain⟨y',rfl,by'⟩:=RH (hw y (by simp))
  obtain⟨z',rfl,bz⟩:=RH (hw z (by simp))
  obtain⟨u',rfl,bu⟩:=RH (hw u (by simp))
  exact⟨x',y',z',u',rfl,bx,by',bz,bu⟩
end
def As(t:AB)(i:Nat):Int:=t.Bb.getD i 0
def B2(k:Int):Nat:=k.natAbs-1
theorem gL{k:Int}(h:0<k):((B2 k:Nat):Int)=k-1:=by unfold B2;omega
theorem gM{k:Int}(h:k<0):((B2 k:Nat):Int)=-k-1:=by unfold B2;omega
def Fm(o:AB):Prop:=∀i,i<5→(-5≤As o i∧As o i≤5)∧∀k,k<i→As o i≠0→As o k≠0∧B2 (As o k)≠B2 (As o i)
instance fmDec (o : AB) : Decidable (Fm o) := by unfold Fm; exact inferInstance
def cmpL:List Int→AB→AB→Int
 |[],_,_=>0
 |k::ks,a,b=>if k=0 then 0 else if As a (B2 k)=As b (B2 k)then cmpL ks a b else if decide (As a (B2 k)<As b (B2 k))=decide (0<k)then -1 else 1
def AO(o a b:AB):Int:=if Fm o then cmpL o.Bb a b else 0
theorem EG(ks:List Int)(a b:AB):cmpL (0::ks) a b=0:=by unfold cmpL;rw[if_pos rfl]
theorem IF{k:Int}(h0:k≠0)(ks:List Int){a b:AB}(h1:As a (B2 k)=As b (B2 k)):cmpL (k::ks) a b=cmpL ks a b:=by rw[cmpL,if_neg h0,if_pos h1]
theorem EP{k:Int}(h0:k≠0)(ks:List Int){a b:AB}(h1:As a (B2 k)<As b (B2 k)):cmpL (k::ks) a b=if 0<k then -1 else 1:=by
 rw[cmpL,if_neg h0,if_neg (by omega)]
 by_cases h4:0<k<;>simp[h1,h4]
theorem ER{k:Int}(h0:k≠0)(ks:List Int){a b:AB}(h1:As b (B2 k)<As a (B2 k)):cmpL (k::ks) a b=if 0<k then 1 else -1:=by
 rw[cmpL,if_neg h0,if_neg (by omega)]
 have h2:¬As a (B2 k)<As b (B2 k):=by omega
 by_cases h4:0<k<;>simp[h2,h4]
theorem QW:∀(ks:List Int) (a b:AB),cmpL ks a b=-cmpL ks b a
 |[],_,_=>rfl
 |k::ks,a,b=>by
  by_cases h0:k=0
  ·rw[h0,EG,EG];rfl
  ·rcases Int.lt_trichotomy (As a (B2 k)) (As b (B2 k))with h|h|h
   ·rw[EP h0 ks h,ER h0 ks h];split<;>rfl
   ·rw[IF h0 ks h,IF h0 ks h.symm];exact QW ks a b
   ·rw[ER h0 ks h,EP h0 ks h];split<;>rfl
theorem OP:∀(ks:List Int) (a b c:AB),cmpL ks a b≤0→cmpL ks b c≤0→cmpL ks a c≤0
 |[],_,_,_=>fun _ _=>Int.le_refl _
 |k::ks,a,b,c=>by
  by_cases h0:k=0
  ·rw[h0,EG,EG,EG];omega
  ·rcases Int.lt_trichotomy (As a (B2 k)) (As b (B2 k))with h|h|h
   ·rw[EP h0 ks h]
    intro g1
    have hk:0<k:=by
     by_cases hk:0<k
     ·exact hk
     ·rw[if_neg hk]at g1;omega
    rcases Int.lt_trichotomy (As b (B2 k)) (As c (B2 k))with g|g|g
    ·rw[EP h0 ks (a:=a) (b:=c) (by omega),if_pos hk];omega
    ·rw[EP h0 ks (a:=a) (b:=c) (by omega),if_pos hk];omega
    ·rw[ER h0 ks g,if_pos hk];omega
   ·rcases Int.lt_trichotomy (As b (B2 k)) (As c (B2 k))with g|g|g
    ·rw[EP h0 ks g,EP h0 ks (a:=a) (b:=c) (by omega)];exact fun _ h=>h
    ·rw[IF h0 ks h,IF h0 ks g,IF h0 ks (h.trans g)];exact OP ks a b c
    ·rw[ER h0 ks g,ER h0 ks (a:=a) (b:=c) (by omega)];exact fun _ h=>h
   ·rw[ER h0 ks h]
    intro g1
    have hk:¬0<k:=by
     intro hk
     rw[if_pos hk]at g1;omega
    rcases Int.lt_trichotomy (As b (B2 k)) (As c (B2 k))with g|g|g
    ·rw[EP h0 ks g,if_neg hk];omega
    ·rw[ER h0 ks (a:=a) (b:=c) (by omega),if_neg hk];omega
    ·rw[ER h0 ks (a:=a) (b:=c) (by omega),if_neg hk];omega
theorem Ah(o a b:AB):AO o a b=-AO o b a:=by
 unfold AO;split
 ·exact QW _ _ _
 ·rfl
theorem CB{o a b c:AB}(h1:AO o a b≤0)(h2:AO o b c≤0):AO o a c≤0:=by
 unfold AO at*
 by_cases h:Fm o
 ·rw[if_pos h]at*;exact OP _ _ _ _ h1 h2
 ·rw[if_neg h]at*;exact Int.le_refl _
theorem Gw(o a:AB):AO o a a=0:=by have:=Ah o a a;omega
def posB(f:AB→Bool)(l:List AB):Nat→Nat
 |0=>0
 |k+1=>if f (l.getD k AD)=true then posB f l k else k+1
theorem Kf(f:AB→Bool)(l:List AB):∀k,posB f l k≤k
 |0=>Nat.le_refl _
 |k+1=>by
  unfold posB
  split
  ·exact Nat.le_succ_of_le (Kf f l k)
  ·exact Nat.le_refl _
theorem Jq(f:AB→Bool)(l:List AB):∀k,0<posB f l k→f (l.getD (posB f l k-1) AD)=false
 |0,h=>absurd h (by simp[posB])
 |k+1,h=>by
  unfold posB at h⊢
  by_cases e:f (l.getD k AD)=true
  ·rw[if_pos e]at h⊢;exact Jq f l k h
  ·rw[if_neg e];simpa using e
theorem GB(f:AB→Bool)(l:List AB):∀k i,posB f l k≤i→i<k→f (l.getD i AD)=true
 |0,i,_,h=>absurd h (by omega)
 |k+1,i,h1,h2=>by
  unfold posB at h1
  by_cases e:f (l.getD k AD)=true
  ·rw[if_pos e]at h1
   by_cases U6:i=k
   ·rw[U6];exact e
   ·exact GB f l k i h1 (by omega)
  ·rw[if_neg e]at h1;omega
def CM(o:AB)(l:List AB)(t:AB):List AB:=l.take (posB (fun y=>decide (AO o t y<0)) l l.length)++t::l.drop (posB (fun y=>decide (AO o t y<0)) l l.length)
def oR(o:AB)(l:List AB):Prop:=∀i,i+1<l.length→AO o (l.getD i AD) (l.getD (i+1) AD)≤0
theorem Vy(o:AB):oR o []:=fun i h=>by simp at h
theorem Im(o:AB)(l:List AB)(t:AB):(CM o l t).length=l.length+1:=by
 unfold CM
 have:=Kf (fun y=>decide (AO o t y<0)) l l.length
 rw[List.length_append,List.length_cons,List.length_take,List.length_drop];omega
theorem WH(o:AB)(l:List AB)(t:AB)(i:Nat):(CM o l t).getD i AD=if i<posB (fun y=>decide (AO o t y<0)) l l.length then l.getD i AD else if i=posB (fun y=>decide (AO o t y<0)) l l.length then t else l.getD (i-1) AD:=by
 unfold CM
 have hk:=Kf (fun y=>decide (AO o t y<0)) l l.length
 generalize posB (fun y=>decide (AO o t y<0)) l l.length=k at*
 have hlt:(l.take k).length=k:=by rw[List.length_take];omega
 rw[List.getD_eq_getElem?_getD,List.getD_eq_getElem?_getD,List.getD_eq_getElem?_getD]
 by_cases h1:i<k
 ·rw[if_pos h1,List.getElem?_append_left (by omega),List.getElem?_take,if_pos h1]
 ·rw[if_neg h1,List.getElem?_append_right (by omega),hlt]
  by_cases h2:i=k
  ·rw[if_pos h2,h2,Nat.sub_self];rfl
  ·rw[if_neg h2,show i-k=(i-k-1)+1 by omega,List.getElem?_cons_succ,List.getElem?_drop,show k+(i-k-1)=i-1 by omega]
theorem S8{o:AB}{l:List AB}(h:oR o l)(t:AB):oR o (CM o l t):=by
 intro i hi
 rw[Im]at hi
 rw[WH,WH]
 have hk:=Kf (fun y=>decide (AO o t y<0)) l l.length
 have ha:=Jq (fun y=>decide (AO o t y<0)) l l.length
 have hb:=GB (fun y=>decide (AO o t y<0)) l l.length
 generalize posB (fun y=>decide (AO o t y<0)) l l.length=k at*
 by_cases h1:i+1<k
 ·rw[if_pos (by omega),if_pos h1];exact h i (by omega)
 ·rw[if_neg h1]
  by_cases h2:i+1=k
  ·rw[if_pos (by omega),if_pos h2]
   have:=ha (by omega)
   rw[show k-1=i by omega]at this
   have h3:¬AO o t (l.getD i AD)<0:=by simpa using this
   rw[Ah];omega
  ·rw[if_neg h2,if_neg (by omega)]
   by_cases h3:i=k
   ·rw[if_pos h3,show i+1-1=i by omega]
    have h4:AO o t (l.getD i AD)<0:=by simpa using hb i (by omega) (by omega)
    omega
   ·rw[if_neg h3]
    have:=h (i-1) (by omega)
    rw[show i-1+1=i by omega]at this
    rw[show i+1-1=i by omega]
    exact this
def Ev(o:AB):List AB→List AB→List AB
 |out,[]=>out
 |out,t::l=>Ev o (CM o out t) l
theorem LY(o:AB):∀(l out:List AB),oR o out→oR o (Ev o out l)
 |[],_,h=>h
 |t::l,out,h=>LY o l (CM o out t) (S8 h t)
def Wf(k:Int):Int:=if k<0 then -k-1 else k-1
theorem K5{k:Int}(h:k≠0):Wf k=((B2 k:Nat):Int):=by
 unfold Wf
 split
 ·rw[gM (by omega)]
 ·rw[gL (by omega)]
theorem Um{k:Int}(_h0:k≠0)(h:-5≤k∧k≤5):B2 k<5:=by unfold B2;omega
def OZ(t:AB):List Value:=[.int .i64 t.a,.int .i64 t.b,.int .i64 t.c,.int .i64 t.d,.int .i64 t.e]
theorem Gz{W:World}{g:Nat}{T:TypeId}{t:AB}(h:Row W g T (OZ t)){i:Nat}(hi:i<5):W.cell? ⟨g,i,none⟩=some (.int .i64 (As t i)):=by
 rw[h.cell i]
 match i,hi with
 |0,_=>rfl
 |1,_=>rfl
 |2,_=>rfl
 |3,_=>rfl
 |4,_=>rfl
theorem Ad{B:Nat}{a w:World}(h:Below B a w)(q:Nat):Below B a (w.drewN q):=⟨h.os,h.tape,h.output,h.size,h.block⟩
theorem Nf(k:Int)(hk:-5≤k∧k≤5)(w:World):Calls Tryz.prog 58 #[.int .i64 k] w fun e w'=>e=.returned (.int .i64 (Wf k))∧w'=w:=by
 by_cases h:k<0
 ·have g:decide (k<0)=true:=by simpa using h
  have e:Wf k=-k-1:=by unfold Wf;rw[if_pos h]
  rw[e]
  go_enter Tryz.func58,Tryz.ntmps58
  go_wp2
  go_ret
  exact⟨rfl,rfl⟩
 ·have g:decide (k<0)=false:=by simpa using h
  have e:Wf k=k-1:=by unfold Wf;rw[if_neg h]
  rw[e]
  go_enter Tryz.func58,Tryz.ntmps58
  go_wp2
  go_ret
  exact⟨rfl,rfl⟩
def Oo(o:AB)(i:Nat):Prop:=(-5≤As o i∧As o i≤5)∧∀k,k<i→As o i≠0→As o k≠0∧B2 (As o k)≠B2 (As o i)
theorem Ih(o:AB)(w:World):Calls Tryz.prog 33 #[.agg #[.int .i64 o.a,.int .i64 o.b,.int .i64 o.c,.int .i64 o.d,.int .i64 o.e]] w fun e w'=>e=.returned (.bool (decide (Fm o)))∧Below w.heap.size w w':=by
 have hr:Row (w.alloc (.cells #[.int .i64 o.a,.int .i64 o.b,.int .i64 o.c,.int .i64 o.d,.int .i64 o.e] 66)) w.heap.size 66 (OZ o):=heap_alloc_new _ _
 have HB:Hid (∀q,Below w.heap.size w ((w.alloc (.cells #[.int .i64 o.a,.int .i64 o.b,.int .i64 o.c,.int .i64 o.d,.int .i64 o.e] 66)).drewN q)):=fun q=>Ad ((Below.refl w.heap.size w).alloc (Nat.le_refl _) _) q
 have HC:Hid (∀q i,i<5→((w.alloc (.cells #[.int .i64 o.a,.int .i64 o.b,.int .i64 o.c,.int .i64 o.d,.int .i64 o.e] 66)).drewN q).cell? ⟨w.heap.size,i,none⟩=some (.int .i64 (As o i))):=fun q i hi=>Gz hr hi
 have LO:Hid (∀i,i<5→¬Oo o i→decide (Fm o)=false):=fun i hi h=>decide_eq_false fun hf=>h (hf i hi)
 have dN:Hid ((∀i,i<5→Oo o i)→decide (Fm o)=true):=fun h=>decide_eq_true h
 generalize decide (Fm o)=res at*
 clear hr
 go_enter Tryz.func33,Tryz.ntmps33
 go_upto_region 1 with(fail)
 generalize w.alloc (.cells #[.int .i64 o.a,.int .i64 o.b,.int .i64 o.c,.int .i64 o.d,.int .i64 o.e] 66)=W1 at*
 go_wp2_with fail
 go_loopw [3] (fun iv wr=>∃i q:Nat,i≤5∧iv=.int .i64 (i:Int)∧W1.drewN q=wr∧Hid (∀j,j<i→Oo o j)) (fun iv _=>5-(intOf iv).toNat)
 case atStart=>exact⟨0,0,by omega,rfl,rfl,fun j hj=>by omega⟩
 case round=>
  obtain⟨i,q,hi,rfl,rfl,HF⟩:=hrel
  by_cases hlt:i<5
  ·have g1:decide ((i:Int)<5)=true:=by simp;omega
   have i0:(0:Int)≤(i:Int):=by omega
   have i1:(i:Int)<5:=by omega
   obtain⟨x,hx⟩:∃x,x=As o i:=⟨_,rfl⟩
   have Hx:=Lib.hid hx
   have cx:∀q,(W1.drewN q).cell? ⟨w.heap.size,i,none⟩=some (.int .i64 x):=fun q=>by rw[hx];exact HC.out q i hlt
   clear hx
   by_cases h1:x< -5
   ·have hres:res=false:=LO.out i hlt fun h=>by have:=h.1;rw[←Hx.out]at this;omega
    have g2:decide (x< -5)=true:=by simpa using h1
    subst hres
    go_wp2
    go_ret
    exact⟨rfl,(by first|exact HB.out _|exact Ad (HB.out _) _)⟩
   ·have g2:decide (x< -5)=false:=by simpa using h1
    by_cases h2:x>5
    ·have hres:res=false:=LO.out i hlt fun h=>by have:=h.1;rw[←Hx.out]at this;omega
     have g3:decide (x>5)=true:=by simpa using h2
     subst hres
     go_wp2
     go_ret
     exact⟨rfl,(by first|exact HB.out _|exact Ad (HB.out _) _)⟩
    ·have g3:decide (x>5)=false:=by simpa using h2
     have Hrx:Hid (-5≤x∧x≤5):=⟨by omega,by omega⟩
     clear h1 h2
     go_wp2_with fail
     go_loopw [4] (fun kv wr=>∃k q2:Nat,k≤i∧kv=.int .i64 (k:Int)∧W1.drewN q2=wr∧Hid (∀j,j<k→x≠0→As o j≠0∧B2 (As o j)≠B2 x)) (fun kv _=>i-(intOf kv).toNat)
     case atStart=>exact⟨0,q,by omega,rfl,rfl,fun j hj=>by omega⟩
     case round=>
      obtain⟨k,q2,hk,rfl,rfl,HK⟩:=hrel
      by_cases WS:k<i
      ·have g4:decide ((k:Int)<(i:Int))=true:=by simp;omega
       have k0:(0:Int)≤(k:Int):=by omega
       have k1:(k:Int)<5:=by omega
       have k2:k<5:=by omega
       obtain⟨y,hy⟩:∃y,y=As o k:=⟨_,rfl⟩
       have Hy:=Lib.hid hy
       have cy:∀q,(W1.drewN q).cell? ⟨w.heap.size,k,none⟩=some (.int .i64 y):=fun q=>by rw[hy];exact HC.out q k (by omega)
       have Hry:Hid (-5≤y∧y≤5):=by have:=(HF.out k WS).1;rw[←Hy.out]at this;exact this
       clear hy
       by_cases eC:y=0
       ·have gy:(y==0)=true:=by simpa using eC
        by_cases Ht:x=0
        ·have gx:(x !=0)=false:=by simpa using Ht
         have Vi:Hid (∀j,j<k+1→x≠0→As o j≠0∧B2 (As o j)≠B2 x):=fun j _ h=>absurd Ht h
         clear eC Ht HK
         go_wp2
         go_quiet (fail)
         go_wp2
         go_roundw
         case rel=>exact⟨k+1,_,by omega,by go_num,rfl,Vi.out⟩
         case measure=>simp[intOf];omega
        ·have gx:(x !=0)=true:=by simpa using Ht
         have hres:res=false:=LO.out i hlt fun h=>by
          have:=(h.2 k WS (by rw[←Hx.out];exact Ht)).1
          rw[←Hy.out]at this;exact this eC
         subst hres
         clear eC Ht HK
         go_wp2
         go_quiet (fail)
         go_wp2
         go_ret
         exact⟨rfl,(by first|exact HB.out _|exact Ad (HB.out _) _)⟩
       ·have gy:(y==0)=false:=by simpa using eC
        by_cases Ht:x=0
        ·have gx:(x !=0)=false:=by simpa using Ht
         have Vi:Hid (∀j,j<k+1→x≠0→As o j≠0∧B2 (As o j)≠B2 x):=fun j _ h=>absurd Ht h
         clear eC Ht HK
         go_wp2
         go_quiet (fail)
         go_wp2
         go_roundw
         case rel=>exact⟨k+1,_,by omega,by go_num,rfl,Vi.out⟩
         case measure=>simp[intOf];omega
        ·have gx:(x !=0)=true:=by simpa using Ht
         have HQx:Hid (∀q r,Calls Tryz.prog 58 #[.int .i64 x] (W1.drewN (q+r)) fun e Cq=>e=.returned (.int .i64 (Wf x))∧∃n,Cq=W1.drewN (q+n)):=fun q r=>(Nf x Hrx.out _).mono fun _ _ ⟨he,hw⟩=>⟨he,r,hw⟩
         have wP:Hid (∀q r,Calls Tryz.prog 58 #[.int .i64 y] (W1.drewN (q+r)) fun e Cq=>e=.returned (.int .i64 (Wf y))∧∃n,Cq=W1.drewN (q+n)):=fun q r=>(Nf y Hry.out _).mono fun _ _ ⟨he,hw⟩=>⟨he,r,hw⟩
         rw[K5 Ht]at HQx
         rw[K5 eC]at wP
         by_cases hc:B2 y=B2 x
         ·have hres:res=false:=LO.out i hlt fun h=>by
           have:=(h.2 k WS (by rw[←Hx.out];exact Ht)).2
           rw[←Hy.out,←Hx.out]at this;exact this hc
          have gc:((B2 y:Nat):Int)=((B2 x:Nat):Int):=by rw[hc]
          rw[hc]at wP
          subst hres
          clear eC Ht HK hc gc
          generalize B2 x=cx' at*
          go_wp2
          go_quiet ((with_reducible first|exact HQx.out _ _|exact wP.out _ _))
          go_wp2
          go_ret
          exact⟨rfl,(by first|exact HB.out _|exact Ad (HB.out _) _)⟩
         ·have Vi:Hid (∀j,j<k+1→x≠0→As o j≠0∧B2 (As o j)≠B2 x):=fun j hj h=>by
           by_cases e:j=k
           ·rw[e,←Hy.out];exact⟨eC,hc⟩
           ·exact HK.out j (by omega) h
          have gc:decide (((B2 y:Nat):Int)=((B2 x:Nat):Int))=false:=by simp;omega
          have gc2:(((B2 y:Nat):Int)==((B2 x:Nat):Int))=false:=by simp;omega
          clear eC Ht HK hc
          generalize B2 x=cx' at*
          generalize B2 y=cy' at*
          go_wp2
          go_quiet ((with_reducible first|exact HQx.out _ _|exact wP.out _ _))
          go_wp2
          go_roundw
          case rel=>exact⟨k+1,_,by omega,by go_num,rfl,Vi.out⟩
          case measure=>simp[intOf];omega
      ·have hkk:k=i:=by omega
       have g4:decide ((k:Int)<(i:Int))=false:=by simp;omega
       have Oh:Hid (∀j,j<i+1→Oo o j):=fun j hj=>by
        by_cases e:j=i
        ·rw[e]
         refine⟨by rw[←Hx.out];exact Hrx.out,fun k' E0 hne=>?_⟩
         rw[←Hx.out]at hne⊢
         exact HK.out k' (by omega) hne
        ·exact HF.out j (by omega)
       clear HK HF hkk
       go_wp2
       go_roundw
       case rel=>exact⟨i+1,_,by omega,by go_num,rfl,Oh.out⟩
       case measure=>simp[intOf];omega
  ·have g1:decide ((i:Int)<5)=false:=by simp;omega
   have hres:res=true:=dN.out fun j hj=>HF.out j (by omega)
   subst hres
   go_wp2
   go_ret
   exact⟨rfl,(by first|exact HB.out _|exact Ad (HB.out _) _)⟩
theorem Wa{o:AB}{i:Nat}(hi:i<5):o.Bb.drop i=As o i::o.Bb.drop (i+1):=by
 match i,hi with
 |0,_=>rfl
 |1,_=>rfl
 |2,_=>rfl
 |3,_=>rfl
 |4,_=>rfl
theorem Tf(o:AB):o.Bb.drop 5=[]:=rfl
theorem Sa(o a b:AB)(w:World):Calls Tryz.prog 59 #[.agg #[.int .i64 a.a,.int .i64 a.b,.int .i64 a.c,.int .i64 a.d,.int .i64 a.e],.agg #[.int .i64 b.a,.int .i64 b.b,.int .i64 b.c,.int .i64 b.d,.int .i64 b.e],.agg #[.int .i64 o.a,.int .i64 o.b,.int .i64 o.c,.int .i64 o.d,.int .i64 o.e]] w fun e w'=>e=.returned (.int .i64 (AO o a b))∧Below w.heap.size w w':=by
 have b1:Below w.heap.size w (w.alloc (.cells #[.int .i64 a.a,.int .i64 a.b,.int .i64 a.c,.int .i64 a.d,.int .i64 a.e] 63)):=(Below.refl _ _).alloc (Nat.le_refl _) _
 have r1:Row (w.alloc (.cells #[.int .i64 a.a,.int .i64 a.b,.int .i64 a.c,.int .i64 a.d,.int .i64 a.e] 63)) w.heap.size 63 (OZ a):=heap_alloc_new _ _
 have s1:(w.alloc (.cells #[.int .i64 a.a,.int .i64 a.b,.int .i64 a.c,.int .i64 a.d,.int .i64 a.e] 63)).heap.size=w.heap.size+1:=by simp
 have b2:Below (w.heap.size+1) (w.alloc (.cells #[.int .i64 a.a,.int .i64 a.b,.int .i64 a.c,.int .i64 a.d,.int .i64 a.e] 63)) ((w.alloc (.cells #[.int .i64 a.a,.int .i64 a.b,.int .i64 a.c,.int .i64 a.d,.int .i64 a.e] 63)).alloc (.cells #[.int .i64 b.a,.int .i64 b.b,.int .i64 b.c,.int .i64 b.d,.int .i64 b.e] 63)):=(Below.refl _ _).alloc (by rw[s1];exact Nat.le_refl _) _
 have r2:Row ((w.alloc (.cells #[.int .i64 a.a,.int .i64 a.b,.int .i64 a.c,.int .i64 a.d,.int .i64 a.e] 63)).alloc (.cells #[.int .i64 b.a,.int .i64 b.b,.int .i64 b.c,.int .i64 b.d,.int .i64 b.e] 63)) (w.heap.size+1) 63 (OZ b):=by rw[←s1];exact heap_alloc_new _ _
 have s2:((w.alloc (.cells #[.int .i64 a.a,.int .i64 a.b,.int .i64 a.c,.int .i64 a.d,.int .i64 a.e] 63)).alloc (.cells #[.int .i64 b.a,.int .i64 b.b,.int .i64 b.c,.int .i64 b.d,.int .i64 b.e] 63)).heap.size=w.heap.size+2:=by simp
 have b3:Below (w.heap.size+2) ((w.alloc (.cells #[.int .i64 a.a,.int .i64 a.b,.int .i64 a.c,.int .i64 a.d,.int .i64 a.e] 63)).alloc (.cells #[.int .i64 b.a,.int .i64 b.b,.int .i64 b.c,.int .i64 b.d,.int .i64 b.e] 63)) (((w.alloc (.cells #[.int .i64 a.a,.int .i64 a.b,.int .i64 a.c,.int .i64 a.d,.int .i64 a.e] 63)).alloc (.cells #[.int .i64 b.a,.int .i64 b.b,.int .i64 b.c,.int .i64 b.d,.int .i64 b.e] 63)).alloc (.cells #[.int .i64 o.a,.int .i64 o.b,.int .i64 o.c,.int .i64 o.d,.int .i64 o.e] 66)):=(Below.refl _ _).alloc (by rw[s2];exact Nat.le_refl _) _
 have r3:Row (((w.alloc (.cells #[.int .i64 a.a,.int .i64 a.b,.int .i64 a.c,.int .i64 a.d,.int .i64 a.e] 63)).alloc (.cells #[.int .i64 b.a,.int .i64 b.b,.int .i64 b.c,.int .i64 b.d,.int .i64 b.e] 63)).alloc (.cells #[.int .i64 o.a,.int .i64 o.b,.int .i64 o.c,.int .i64 o.d,.int .i64 o.e] 66)) (w.heap.size+2) 66 (OZ o):=by rw[←s2];exact heap_alloc_new _ _
 have rC:Row (((w.alloc (.cells #[.int .i64 a.a,.int .i64 a.b,.int .i64 a.c,.int .i64 a.d,.int .i64 a.e] 63)).alloc (.cells #[.int .i64 b.a,.int .i64 b.b,.int .i64 b.c,.int .i64 b.d,.int .i64 b.e] 63)).alloc (.cells #[.int .i64 o.a,.int .i64 o.b,.int .i64 o.c,.int .i64 o.d,.int .i64 o.e] 66)) (w.heap.size+1) 63 (OZ b):=r2.below b3 (by omega)
 have rD:Row (((w.alloc (.cells #[.int .i64 a.a,.int .i64 a.b,.int .i64 a.c,.int .i64 a.d,.int .i64 a.e] 63)).alloc (.cells #[.int .i64 b.a,.int .i64 b.b,.int .i64 b.c,.int .i64 b.d,.int .i64 b.e] 63)).alloc (.cells #[.int .i64 o.a,.int .i64 o.b,.int .i64 o.c,.int .i64 o.d,.int .i64 o.e] 66)) w.heap.size 63 (OZ a):=(r1.below b2 (by omega)).below b3 (by omega)
 have HB:Hid (Below w.heap.size w (((w.alloc (.cells #[.int .i64 a.a,.int .i64 a.b,.int .i64 a.c,.int .i64 a.d,.int .i64 a.e] 63)).alloc (.cells #[.int .i64 b.a,.int .i64 b.b,.int .i64 b.c,.int .i64 b.d,.int .i64 b.e] 63)).alloc (.cells #[.int .i64 o.a,.int .i64 o.b,.int .i64 o.c,.int .i64 o.d,.int .i64 o.e] 66))):=(b1.trans (b2.mono (by omega))).trans (b3.mono (by omega))
 have KC:Hid (∀W,Below (w.heap.size+3) (((w.alloc (.cells #[.int .i64 a.a,.int .i64 a.b,.int .i64 a.c,.int .i64 a.d,.int .i64 a.e] 63)).alloc (.cells #[.int .i64 b.a,.int .i64 b.b,.int .i64 b.c,.int .i64 b.d,.int .i64 b.e] 63)).alloc (.cells #[.int .i64 o.a,.int .i64 o.b,.int .i64 o.c,.int .i64 o.d,.int .i64 o.e] 66)) W→Below w.heap.size w W∧∀q i,i<5→(W.drewN q).cell? ⟨w.heap.size,i,none⟩=some (.int .i64 (As a i))∧(W.drewN q).cell? ⟨w.heap.size+1,i,none⟩=some (.int .i64 (As b i))∧(W.drewN q).cell? ⟨w.heap.size+2,i,none⟩=some (.int .i64 (As o i))):=fun W hb=>
  ⟨HB.out.trans (hb.mono (by omega)),fun q i hi=>⟨Gz (rD.below hb (by omega)) hi,Gz (rC.below hb (by omega)) hi,Gz (r3.below hb (by omega)) hi⟩⟩
 have hsz:w.heap.size+3≤(((w.alloc (.cells #[.int .i64 a.a,.int .i64 a.b,.int .i64 a.c,.int .i64 a.d,.int .i64 a.e] 63)).alloc (.cells #[.int .i64 b.a,.int .i64 b.b,.int .i64 b.c,.int .i64 b.d,.int .i64 b.e] 63)).alloc (.cells #[.int .i64 o.a,.int .i64 o.b,.int .i64 o.c,.int .i64 o.d,.int .i64 o.e] 66)).heap.size:=by simp
 have JS:=Lib.hid hsz
 clear b1 r1 s1 b2 r2 s2 b3 r3 rC rD HB hsz
 have ZJ:=Lib.hid (Ih o)
 by_cases hf:Fm o
 ·have hres:AO o a b=cmpL o.Bb a b:=by unfold AO;rw[if_pos hf]
  rw[decide_eq_true hf]at ZJ
  have ou:Hid (∀i,i<5→-5≤As o i∧As o i≤5):=fun i hi=>(hf i hi).1
  rw[hres]
  have ES:Hid (cmpL (o.Bb.drop 0) a b=cmpL o.Bb a b):=rfl
  generalize cmpL o.Bb a b=res at*
  clear hf hres
  go_enter Tryz.func59,Tryz.ntmps59
  go_upto_region 1 with(fail)
  generalize((w.alloc (.cells #[.int .i64 a.a,.int .i64 a.b,.int .i64 a.c,.int .i64 a.d,.int .i64 a.e] 63)).alloc (.cells #[.int .i64 b.a,.int .i64 b.b,.int .i64 b.c,.int .i64 b.d,.int .i64 b.e] 63)).alloc (.cells #[.int .i64 o.a,.int .i64 o.b,.int .i64 o.c,.int .i64 o.d,.int .i64 o.e] 66)=W1 at*
  go_wp2_with fail
  go_loopw [7] (fun iv wr=>∃i:Nat,i≤5∧iv=.int .i64 (i:Int)∧Hid (Below (w.heap.size+3) W1 wr)∧Hid (cmpL (o.Bb.drop i) a b=res)) (fun iv _=>5-(intOf iv).toNat)
  case atStart=>exact⟨0,by omega,rfl,Below.refl _ _,ES.out⟩
  case round=>
   obtain⟨i,hi,rfl,HW,HC⟩:=hrel
   clear ES
   by_cases hlt:i<5
   ·have g1:decide ((i:Int)<5)=true:=by simp;omega
    have i0:(0:Int)≤(i:Int):=by omega
    have i1:(i:Int)<5:=by omega
    have d0:wr.cell? ⟨w.heap.size+2,0,none⟩=some (.int .i64 o.a):=((KC.out _ HW.out).2 0 0 (by omega)).2.2
    have d1:wr.cell? ⟨w.heap.size+2,1,none⟩=some (.int .i64 o.b):=((KC.out _ HW.out).2 0 1 (by omega)).2.2
    have d2:wr.cell? ⟨w.heap.size+2,2,none⟩=some (.int .i64 o.c):=((KC.out _ HW.out).2 0 2 (by omega)).2.2
    have d3:wr.cell? ⟨w.heap.size+2,3,none⟩=some (.int .i64 o.d):=((KC.out _ HW.out).2 0 3 (by omega)).2.2
    have d4:wr.cell? ⟨w.heap.size+2,4,none⟩=some (.int .i64 o.e):=((KC.out _ HW.out).2 0 4 (by omega)).2.2
    go_wp2_with fail
    refine(ZJ.out _).mono ?_;rintro e w2 ⟨rfl,hb⟩
    have Vb:Hid (Below (w.heap.size+3) W1 w2):=HW.out.trans (hb.mono (Nat.le_trans JS.out HW.out.size))
    clear hb HW d0 d1 d2 d3 d4
    obtain⟨z,hz⟩:∃z,z=As o i:=⟨_,rfl⟩
    have uV:Hid (-5≤z∧z≤5):=by rw[hz];exact ou.out i hlt
    have GY:Hid (cmpL (z::o.Bb.drop (i+1)) a b=res):=by rw[hz,←Wa hlt];exact HC.out
    have y5:∀q,(w2.drewN q).cell? ⟨w.heap.size+2,i,none⟩=some (.int .i64 z):=fun q=>by rw[hz];exact((KC.out _ Vb.out).2 q i hlt).2.2
    have y5':w2.cell? ⟨w.heap.size+2,i,none⟩=some (.int .i64 z):=y5 0
    have HE:Hid (∀q,Below w.heap.size w (w2.drewN q)):=fun q=>Ad (KC.out _ Vb.out).1 q
    have eZ:Hid (Below w.heap.size w w2):=(KC.out _ Vb.out).1
    clear HC hz
    by_cases By:z=0
    ·have gz:(z==0)=true:=by simpa using By
     have tV:decide (z=0)=true:=by simpa using By
     have hr:res=0:=by rw[←GY.out,By,EG]
     subst hr
     clear By
     go_wp2
     go_ret
     exact⟨rfl,eZ.out⟩
    ·have gz:(z==0)=false:=by simpa using By
     have tV:decide (z=0)=false:=by simpa using By
     have ZD:=Um By uV.out
     have HQ:Hid (∀r,Calls Tryz.prog 58 #[.int .i64 z] (w2.drewN r) fun e Cq=>e=.returned (.int .i64 (B2 z:Nat))∧∃n,Cq=w2.drewN n):=fun r=>by
      have:=Nf z uV.out (w2.drewN r)
      rw[K5 By]at this
      exact this.mono fun _ _ ⟨he,hw⟩=>⟨he,r,hw⟩
     obtain⟨x,hx⟩:∃x,x=As a (B2 z):=⟨_,rfl⟩
     obtain⟨y,hy⟩:∃y,y=As b (B2 z):=⟨_,rfl⟩
     have yx:∀q,(w2.drewN q).cell? ⟨w.heap.size,B2 z,none⟩=some (.int .i64 x):=fun q=>by rw[hx];exact((KC.out _ Vb.out).2 q _ ZD).1
     have yy:∀q,(w2.drewN q).cell? ⟨w.heap.size+1,B2 z,none⟩=some (.int .i64 y):=fun q=>by rw[hy];exact((KC.out _ Vb.out).2 q _ ZD).2.1
     have KD:Hid (x=y→cmpL (o.Bb.drop (i+1)) a b=res):=fun h=>by rw[←GY.out,IF By _ (by rw[←hx,←hy];exact h)]
     have IP:Hid (x<y→(if 0<z then (-1:Int)else 1)=res):=fun h=>by rw[←GY.out,EP By _ (by rw[←hx,←hy];exact h)]
     have W8:Hid (y<x→(if 0<z then (1:Int)else -1)=res):=fun h=>by rw[←GY.out,ER By _ (by rw[←hx,←hy];exact h)]
     have MQ:Hid (∀q,Below (w.heap.size+3) W1 (w2.drewN q)):=fun q=>Ad Vb.out q
     have k0:(0:Int)≤((B2 z:Nat):Int):=by omega
     have k1:((B2 z:Nat):Int)<5:=by omega
     generalize B2 z=c at*
     clear hx hy By GY Vb eZ
     rcases Int.lt_trichotomy x y with h|h|h
     ·have gxy:(x !=y)=true:=by simp;omega
      have glt:decide (x<y)=true:=by simpa using h
      by_cases hp:0<z
      ·have hr:=IP.out h
       rw[if_pos hp]at hr
       subst hr
       have gp:decide (z>0)=true:=by simpa using hp
       clear h hp IP W8 KD
       go_wp2
       go_quiet ((with_reducible first|exact HQ.out _))
       go_wp2
       go_ret
       exact⟨rfl,HE.out _⟩
      ·have hr:=IP.out h
       rw[if_neg hp]at hr
       subst hr
       have gp:decide (z>0)=false:=by simpa using hp
       clear h hp IP W8 KD
       go_wp2
       go_quiet ((with_reducible first|exact HQ.out _))
       go_wp2
       go_ret
       exact⟨rfl,HE.out _⟩
     ·have gxy:(x !=y)=false:=by simpa using h
      have HN:=Lib.hid (KD.out h)
      clear h IP W8 KD
      go_wp2
      go_quiet ((with_reducible first|exact HQ.out _))
      go_wp2
      go_roundw
      case rel=>exact⟨i+1,by omega,by go_num,MQ.out _,HN.out⟩
      case measure=>simp[intOf];omega
     ·have gxy:(x !=y)=true:=by simp;omega
      have glt:decide (x<y)=false:=by simp;omega
      by_cases hp:0<z
      ·have hr:=W8.out h
       rw[if_pos hp]at hr
       subst hr
       have gp:decide (z>0)=true:=by simpa using hp
       clear h hp IP W8 KD
       go_wp2
       go_quiet ((with_reducible first|exact HQ.out _))
       go_wp2
       go_ret
       exact⟨rfl,HE.out _⟩
      ·have hr:=W8.out h
       rw[if_neg hp]at hr
       subst hr
       have gp:decide (z>0)=false:=by simpa using hp
       clear h hp IP W8 KD
       go_wp2
       go_quiet ((with_reducible first|exact HQ.out _))
       go_wp2
       go_ret
       exact⟨rfl,HE.out _⟩
   ·obtain rfl:i=5:=by omega
    have hr:res=0:=by rw[←HC.out,Tf];rfl
    have HE:=Lib.hid (KC.out _ HW.out).1
    subst hr
    clear HC
    go_wp2
    go_ret
    exact⟨rfl,HE.out⟩
 ·have hres:AO o a b=0:=by unfold AO;rw[if_neg hf]
  rw[decide_eq_false hf]at ZJ
  rw[hres]
  clear hf hres
  have d0:(((w.alloc (.cells #[.int .i64 a.a,.int .i64 a.b,.int .i64 a.c,.int .i64 a.d,.int .i64 a.e] 63)).alloc (.cells #[.int .i64 b.a,.int .i64 b.b,.int .i64 b.c,.int .i64 b.d,.int .i64 b.e] 63)).alloc (.cells #[.int .i64 o.a,.int .i64 o.b,.int .i64 o.c,.int .i64 o.d,.int .i64 o.e] 66)).cell? ⟨w.heap.size+2,0,none⟩=some (.int .i64 o.a):=((KC.out _ (Below.refl _ _)).2 0 0 (by omega)).2.2
  have d1:(((w.alloc (.cells #[.int .i64 a.a,.int .i64 a.b,.int .i64 a.c,.int .i64 a.d,.int .i64 a.e] 63)).alloc (.cells #[.int .i64 b.a,.int .i64 b.b,.int .i64 b.c,.int .i64 b.d,.int .i64 b.e] 63)).alloc (.cells #[.int .i64 o.a,.int .i64 o.b,.int .i64 o.c,.int .i64 o.d,.int .i64 o.e] 66)).cell? ⟨w.heap.size+2,1,none⟩=some (.int .i64 o.b):=((KC.out _ (Below.refl _ _)).2 0 1 (by omega)).2.2
  have d2:(((w.alloc (.cells #[.int .i64 a.a,.int .i64 a.b,.int .i64 a.c,.int .i64 a.d,.int .i64 a.e] 63)).alloc (.cells #[.int .i64 b.a,.int .i64 b.b,.int .i64 b.c,.int .i64 b.d,.int .i64 b.e] 63)).alloc (.cells #[.int .i64 o.a,.int .i64 o.b,.int .i64 o.c,.int .i64 o.d,.int .i64 o.e] 66)).cell? ⟨w.heap.size+2,2,none⟩=some (.int .i64 o.c):=((KC.out _ (Below.refl _ _)).2 0 2 (by omega)).2.2
  have d3:(((w.alloc (.cells #[.int .i64 a.a,.int .i64 a.b,.int .i64 a.c,.int .i64 a.d,.int .i64 a.e] 63)).alloc (.cells #[.int .i64 b.a,.int .i64 b.b,.int .i64 b.c,.int .i64 b.d,.int .i64 b.e] 63)).alloc (.cells #[.int .i64 o.a,.int .i64 o.b,.int .i64 o.c,.int .i64 o.d,.int .i64 o.e] 66)).cell? ⟨w.heap.size+2,3,none⟩=some (.int .i64 o.d):=((KC.out _ (Below.refl _ _)).2 0 3 (by omega)).2.2
  have d4:(((w.alloc (.cells #[.int .i64 a.a,.int .i64 a.b,.int .i64 a.c,.int .i64 a.d,.int .i64 a.e] 63)).alloc (.cells #[.int .i64 b.a,.int .i64 b.b,.int .i64 b.c,.int .i64 b.d,.int .i64 b.e] 63)).alloc (.cells #[.int .i64 o.a,.int .i64 o.b,.int .i64 o.c,.int .i64 o.d,.int .i64 o.e] 66)).cell? ⟨w.heap.size+2,4,none⟩=some (.int .i64 o.e):=((KC.out _ (Below.refl _ _)).2 0 4 (by omega)).2.2
  go_enter Tryz.func59,Tryz.ntmps59
  go_upto_region 1 with(fail)
  generalize((w.alloc (.cells #[.int .i64 a.a,.int .i64 a.b,.int .i64 a.c,.int .i64 a.d,.int .i64 a.e] 63)).alloc (.cells #[.int .i64 b.a,.int .i64 b.b,.int .i64 b.c,.int .i64 b.d,.int .i64 b.e] 63)).alloc (.cells #[.int .i64 o.a,.int .i64 o.b,.int .i64 o.c,.int .i64 o.d,.int .i64 o.e] 66)=W1 at*
  go_wp2_with fail
  go_loopw [7] (fun iv wr=>iv=.int .i64 0∧W1=wr) (fun iv _=>0)
  case atStart=>exact⟨rfl,rfl⟩
  case round=>
   obtain⟨rfl,rfl⟩:=hrel
   go_wp2_with fail
   refine(ZJ.out _).mono ?_;rintro e w2 ⟨rfl,hb⟩
   have HE:Hid (Below w.heap.size w w2):=(KC.out _ (hb.mono JS.out)).1
   clear hb
   go_wp2
   go_ret
   exact⟨rfl,HE.out⟩
instance srtDec (o : AB) (l : List AB) : Decidable (oR o l) := decidable_of_iff (∀ i, i < l.length - 1 → AO o (l.getD i AD) (l.getD (i + 1) AD) ≤ 0) ⟨fun h i hi => h i (by omega), fun h i hi => h i (by omega)⟩
theorem QI:∀(l:List AB) (i:Nat) (t:AB),i<l.length→(((((AY l).set (i*5) (.int .i64 t.a)).set (i*5+1) (.int .i64 t.b)).set (i*5+2) (.int .i64 t.c)).set (i*5+3) (.int .i64 t.d)).set (i*5+4) (.int .i64 t.e)=AY (l.set i t)
 |[],i,t,h=>by simp at h
 |e::l,0,t,_=>by simp[AY,Ai]
 |e::l,i+1,t,h=>by
  have ih:=QI l i t (by simpa using h)
  have hc:AY (e::l)=Ai e++AY l:=rfl
  have h5:(Ai e).length=5:=rfl
  rw[List.set_cons_succ]
  have Lr:AY (e::l.set i t)=Ai e++AY (l.set i t):=rfl
  rw[hc,Lr,←ih]
  rw[List.set_append_right _ _ (by rw[h5];omega),List.set_append_right _ _ (by rw[h5];omega),List.set_append_right _ _ (by rw[h5];omega),List.set_append_right _ _ (by rw[h5];omega),List.set_append_right _ _ (by rw[h5];omega),h5]
  rw[show (i+1)*5-5=i*5 by omega,show (i+1)*5+1-5=i*5+1 by omega,show (i+1)*5+2-5=i*5+2 by omega,show (i+1)*5+3-5=i*5+3 by omega,show (i+1)*5+4-5=i*5+4 by omega]
theorem Cu{w:World}{base g n cap:Nat}{l:List AB}(h:w.ownsRow base 63 5 (.slice (some ⟨g,0,none⟩) n cap) n (AY l)){i:Nat}(hi:i<l.length)(t:AB):
  (((((w.setCell ⟨g,i*5,none⟩ (.int .i64 t.a)).setCell ⟨g,i*5+1,none⟩ (.int .i64 t.b)).setCell ⟨g,i*5+2,none⟩ (.int .i64 t.c)).setCell ⟨g,i*5+3,none⟩ (.int .i64 t.d)).setCell ⟨g,i*5+4,none⟩ (.int .i64 t.e)).ownsRow base 63 5 (.slice (some ⟨g,0,none⟩) n cap) n (AY (l.set i t)):=by
 have h1:=(World.ownsRow.stored h (i*5) (.int .i64 t.a)).1
 have h2:=(World.ownsRow.stored h1 (i*5+1) (.int .i64 t.b)).1
 have h3:=(World.ownsRow.stored h2 (i*5+2) (.int .i64 t.c)).1
 have h4:=(World.ownsRow.stored h3 (i*5+3) (.int .i64 t.d)).1
 have h5:=(World.ownsRow.stored h4 (i*5+4) (.int .i64 t.e)).1
 rw[QI l i t hi]at h5
 exact h5
theorem CD{B:Nat}{a w:World}(h:Below B a w){g:Nat}(hg:B≤g)(j:Nat)(v0 v1 v2 v3 v4:Value):Below B a (((((w.setCell ⟨g,j,none⟩ v0).setCell ⟨g,j+1,none⟩ v1).setCell ⟨g,j+2,none⟩ v2).setCell ⟨g,j+3,none⟩ v3).setCell ⟨g,j+4,none⟩ v4):=
 ((((h.setCell (p:=⟨g,j,none⟩) hg v0).setCell (p:=⟨g,j+1,none⟩) hg v1).setCell (p:=⟨g,j+2,none⟩) hg v2).setCell (p:=⟨g,j+3,none⟩) hg v3).setCell (p:=⟨g,j+4,none⟩) hg v4
def Ej(out:List AB)(t:AB)(j:Nat):List AB:=out.take j++(if j=out.length then t else out.getD j AD)::out.drop j
theorem KZ(out:List AB)(t:AB){j:Nat}(hj:j≤out.length):(Ej out t j).length=out.length+1:=by
 unfold Ej;rw[List.length_append,List.length_cons,List.length_take,List.length_drop];omega
theorem Qz(out:List AB)(t:AB){j:Nat}(hj:j≤out.length)(q:Nat):(Ej out t j)[q]?=if q<j then out[q]?else if q=j then some (if j=out.length then t else out.getD j AD)else out[q-1]?:=by
 unfold Ej
 have hl:(out.take j).length=j:=by rw[List.length_take];omega
 by_cases h1:q<j
 ·rw[if_pos h1,List.getElem?_append_left (by omega),List.getElem?_take,if_pos h1]
 ·rw[if_neg h1,List.getElem?_append_right (by omega),hl]
  by_cases h2:q=j
  ·rw[if_pos h2,h2,Nat.sub_self];rfl
  ·rw[if_neg h2,show q-j=(q-j-1)+1 by omega,List.getElem?_cons_succ,List.getElem?_drop,show j+(q-j-1)=q-1 by omega]
theorem Mr(out:List AB)(t:AB):Ej out t out.length=out++[t]:=by
 unfold Ej;rw[if_pos rfl,List.take_length,List.drop_length]
theorem KX(out:List AB)(t:AB){p:Nat}(hp:p<out.length):(Ej out t (p+1)).set (p+1) (out.getD p AD)=Ej out t p:=by
 refine List.ext_getElem? fun q=>?_
 have hg:out[p]?=some (out.getD p AD):=by rw[List.getD_eq_getElem?_getD,List.getElem?_eq_getElem hp];rfl
 rw[List.getElem?_set,KZ out t (by omega),Qz out t (by omega),Qz out t (by omega)]
 by_cases h1:p+1=q
 ·rw[if_pos h1,if_pos (by omega),if_neg (by omega),if_neg (by omega),←h1,show p+1-1=p by omega,hg]
 ·rw[if_neg h1]
  by_cases h2:q<p
  ·rw[if_pos (by omega),if_pos h2]
  ·rw[if_neg h2]
   by_cases h3:q=p
   ·rw[if_pos (by omega),if_pos h3,if_neg (by omega),h3,hg]
   ·rw[if_neg (by omega),if_neg (by omega),if_neg h3]
theorem Ms(out:List AB)(t:AB){k:Nat}(hk:k≤out.length):(Ej out t k).set k t=out.take k++t::out.drop k:=by
 unfold Ej
 have hl:(out.take k).length=k:=by rw[List.length_take];omega
 rw[List.set_append_right _ _ (by omega),hl,Nat.sub_self,List.set_cons_zero]
theorem JD(out:List AB)(t:AB){p:Nat}(hp:p<out.length):(Ej out t (p+1)).getD p AD=out.getD p AD:=by
 rw[List.getD_eq_getElem?_getD,Qz out t (by omega),if_pos (by omega),←List.getD_eq_getElem?_getD]
theorem Jn(o:AB)(t:AB):∀(l out:List AB),Ev o out (l++[t])=CM o (Ev o out l) t
 |[],_=>rfl
 |x::l,out=>Jn o t l (CM o out x)
theorem Lb{w:World}{b b':Nat}{e:TypeId}{z n:Nat}{v:Value}{xs:List Value}(h:w.ownsRow b e z v n xs)(hb:b'≤b):w.ownsRow b' e z v n xs:=by
 obtain⟨h1,h2⟩:=h
 refine⟨h1,?_⟩
 rcases h2 with h2|⟨g,cap,cur,hv,hg,r⟩
 ·exact .inl h2
 ·exact .inr ⟨g,cap,cur,hv,Nat.le_trans hb hg,r⟩
def Md(o:AB)(out:List AB)(t:AB):List AB:=if 0<posB (fun y=>decide (AO o t y<0)) out out.length∧AO o t (out.getD (posB (fun y=>decide (AO o t y<0)) out out.length-1) AD)=0 then out else CM o out t
def Eu(o:AB):List AB→List AB→List AB
 |out,[]=>out
 |out,t::l=>Eu o (Md o out t) l
theorem Hr(o:AB)(t:AB):∀(l out:List AB),Eu o out (l++[t])=Md o (Eu o out l) t
 |[],_=>rfl
 |x::l,out=>Hr o t l (Md o out x)
def Dg(o t:AB):AB→Bool:=fun y=>decide (AO o t y<0)
theorem GD(o:AB)(out:List AB)(t:AB):CM o out t=out.take (posB (Dg o t) out out.length)++t::out.drop (posB (Dg o t) out out.length):=rfl
theorem AK{w:World}{base g n cap:Nat}{l:List AB}(h:w.ownsRow base 63 5 (.slice (some ⟨g,0,none⟩) n cap) n (AY l)){i:Nat}(hi:i<l.length){j:Nat}{u:Value}(hu:(Ai (l.getD i AD))[j]?=some u):w.cell? ⟨g,i*5+j,none⟩=some u:=by
 have hn:n=l.length:=by have:=h.1;rw[QJ]at this;omega
 have hj:j<5:=(List.getElem?_eq_some_iff.1 hu).1
 exact(World.ownsRow.cellAt h (i*5+j) (by rw[hn];omega)).trans (OI l i hi j u hu)
theorem Xf{w:World}(o:AB){A0:Option Addr}{n c0:Nat}{l:List AB}(hl:BD w w.heap.size A0 n l)(hn:n≤1000000):Calls Tryz.prog 34 #[.slice A0 n c0,.agg #[.int .i64 o.a,.int .i64 o.b,.int .i64 o.c,.int .i64 o.d,.int .i64 o.e],.bool false] w fun e w'=>∃v m,e=.returned v∧w'.ownsRow w.heap.size 63 5 v m (AY (Ev o [] l))∧m≤n∧(∀u∈Ev o [] l,BX u)∧Below w.heap.size w w':=by
 have hr:Row (w.alloc (.cells #[.int .i64 o.a,.int .i64 o.b,.int .i64 o.c,.int .i64 o.d,.int .i64 o.e] 66)) w.heap.size 66 (OZ o):=heap_alloc_new _ _
 have hb0:Below w.heap.size w (w.alloc (.cells #[.int .i64 o.a,.int .i64 o.b,.int .i64 o.c,.int .i64 o.d,.int .i64 o.e] 66)):=(Below.refl _ _).alloc (Nat.le_refl _) _
 have hsz:(w.alloc (.cells #[.int .i64 o.a,.int .i64 o.b,.int .i64 o.c,.int .i64 o.d,.int .i64 o.e] 66)).heap.size=w.heap.size+1:=by simp
 have KB:Hid (∀W,Below (w.heap.size+1) (w.alloc (.cells #[.int .i64 o.a,.int .i64 o.b,.int .i64 o.c,.int .i64 o.d,.int .i64 o.e] 66)) W→Below w.heap.size w W):=fun W hb=>hb0.trans (hb.mono (by omega))
 have KO:Hid (∀W,Below (w.heap.size+1) (w.alloc (.cells #[.int .i64 o.a,.int .i64 o.b,.int .i64 o.c,.int .i64 o.d,.int .i64 o.e] 66)) W→Row W w.heap.size 66 (OZ o)):=fun W hb=>hr.below hb (by omega)
 have JS:=Lib.hid (Nat.le_of_eq hsz.symm)
 have uy:=Lib.hid hl
 have Cg:Hid (l.length=n):=hl.1
 have HTO:Hid (∀u∈l,BX u):=hl.2.1
 clear hr hb0 hsz hl
 go_enter Tryz.func34,Tryz.ntmps34
 go_upto_region 1 with(fail)
 generalize w.alloc (.cells #[.int .i64 o.a,.int .i64 o.b,.int .i64 o.c,.int .i64 o.d,.int .i64 o.e] 66)=W1 at*
 go_wp2_with fail
 go_loopw [7,8] (fun ov iv wr=>∃(i m c:Nat) (A:Option Addr) (out:List AB),i≤n∧m≤i∧iv=.int .i64 (i:Int)∧ov=.slice A m c∧Hid (Below (w.heap.size+1) W1 wr)∧Hid (wr.ownsRow (w.heap.size+1) 63 5 (.slice A m c) m (AY out))∧Hid (∀u∈out,BX u)∧Hid (out=Ev o [] (l.take i))∧Hid (out.length=m)) (fun _ iv _=>n-(intOf iv).toNat)
 case atStart=>exact⟨0,0,0,none,[],by omega,by omega,rfl,rfl,Below.refl _ _,⟨rfl,.inl ⟨rfl,rfl⟩⟩,(fun u hu=>by cases hu),rfl,rfl⟩
 case round=>
  obtain⟨i,m,c,A,out,hi,yS,rfl,rfl,HW,HO,Qi,HS,HM⟩:=hrel
  by_cases hlt:i<n
  ·have g1:decide ((i:Int)<(n:Int))=true:=by simp;omega
   have i0:(0:Int)≤(i:Int):=by omega
   have i1:(i:Int)<(n:Int):=by omega
   obtain⟨bb,off,t,rfl,Kw,mJ,mI,mH,mG,mF,hto,ht⟩:=uy.out.at_ hlt
   have uG:=Lib.hid hto
   have qT:Hid (l.take (i+1)=l.take i++[t]):=by unfold Hid;rw[List.take_add_one,ht.out];rfl
   obtain⟨ta,tb,tc,td,te⟩:=t
   simp only at mJ mI mH mG mF
   have KL:Hid (∀W,Below (w.heap.size+1) W1 W→W.cell? ⟨bb,off+i*5,none⟩=some (.int .i64 ta)∧W.cell? ⟨bb,off+i*5+1,none⟩=some (.int .i64 tb)∧W.cell? ⟨bb,off+i*5+2,none⟩=some (.int .i64 tc)∧W.cell? ⟨bb,off+i*5+3,none⟩=some (.int .i64 td)∧W.cell? ⟨bb,off+i*5+4,none⟩=some (.int .i64 te)∧W.cell? ⟨w.heap.size,0,none⟩=some (.int .i64 o.a)∧W.cell? ⟨w.heap.size,1,none⟩=some (.int .i64 o.b)∧W.cell? ⟨w.heap.size,2,none⟩=some (.int .i64 o.c)∧W.cell? ⟨w.heap.size,3,none⟩=some (.int .i64 o.d)∧W.cell? ⟨w.heap.size,4,none⟩=some (.int .i64 o.e)):=fun W hb=>by
    have h:=KB.out W hb
    have hr:=KO.out W hb
    exact⟨(h.cell (p:=⟨bb,_,none⟩) Kw).trans mJ,(h.cell (p:=⟨bb,_,none⟩) Kw).trans mI,(h.cell (p:=⟨bb,_,none⟩) Kw).trans mH,(h.cell (p:=⟨bb,_,none⟩) Kw).trans mG,(h.cell (p:=⟨bb,_,none⟩) Kw).trans mF,hr.cell 0,hr.cell 1,hr.cell 2,hr.cell 3,hr.cell 4⟩
   clear mJ mI mH mG mF Kw hto ht
   go_wp2_with fail
   go_loopw [9] (fun kv wr=>∃k:Nat,k≤m∧kv=.int .i64 (k:Int)∧Hid (Below (w.heap.size+1) W1 wr)∧Hid (wr.ownsRow (w.heap.size+1) 63 5 (.slice A m c) m (AY out))∧Hid (posB (Dg o ⟨ta,tb,tc,td,te⟩) out k=posB (Dg o ⟨ta,tb,tc,td,te⟩) out m)) (fun kv _=>(intOf kv).toNat)
   case atStart=>exact⟨m,Nat.le_refl _,rfl,HW.out,HO.out,rfl⟩
   case round=>
    obtain⟨k,hk,rfl,Qh,DY,HP⟩:=hrel
    clear HW HO
    by_cases PF:k=0
    ·have Tq:Hid (k=posB (Dg o ⟨ta,tb,tc,td,te⟩) out m):=by
      have:=HP.out
      rw[PF]at this⊢
      exact this
     have gk:decide ((k:Int)>0)=false:=by simp;omega
     have zk:decide (0<k)=false:=by simp;omega
     have HX:Hid (∀q,Below (w.heap.size+1) W1 (wr.drewN q)∧(wr.drewN q).ownsRow (w.heap.size+1) 63 5 (.slice A m c) m (AY out)):=fun q=>⟨Ad Qh.out q,BZ DY.out (Ad (Below.refl _ _) q)⟩
     clear HP Qh DY PF
     go_wp2
     go_quiet (fail)
     have Bt:=Lib.hid (HX.out nq).1
     have T8:=Lib.hid (HX.out nq).2
     clear HX
     generalize wr.drewN nq=w2 at*
     go_wp2
     go_quiet (fail)
     have BM:=Lib.hid (Ad Bt.out nq)
     have R1:=Lib.hid (BZ T8.out (Ad (Below.refl _ _) nq))
     generalize w2.drewN nq=w3 at*
     clear Bt T8
     obtain⟨y0,y1,y2,y3,y4,-,-,-,-,-⟩:=KL.out _ BM.out
     obtain⟨it,B7,By,B3,EX⟩:=info_parts S9
     have Co:w.heap.size+1≤w3.heap.size:=Nat.le_trans JS.out BM.out.size
     go_wp2_with (with_reducible refine BN 62 ?_)
     unfold Hid
     refine wpList_append_lies _ rfl _ _ 24 rfl (w.heap.size+1) 63 it _ 5 40 Tryz.underlying24 B7 By B3 EX rfl (by decide) _ m (AY out) (by rfl) (BZ R1.out ((Below.refl _ _).alloc (Nat.le_refl _) _)) ⟨w3.heap.size,0,none⟩ 1 1 (Ai ⟨ta,tb,tc,td,te⟩) (by rfl) (by rfl) (World.news_of_block (cs:=#[.int .i64 ta,.int .i64 tb,.int .i64 tc,.int .i64 td,.int .i64 te]) (t:=63) (fr:=(0,0)) (heap_alloc_new w3 _)) (by simp[Ai,Value.oneCell']) (by omega) (by unfold maxLen;omega) (by omega) (by simp;omega) _ rfl ?_
     intro g5 Fh w4 Ap Gp Bp _
     rw[←Ff]at Ap
     have YR:∀q,(Value.slice _ m c).ownBlock=some q→w.heap.size+1≤q:=fun q hq=>(R1.out.lt q hq).1
     have I9:Hid (Below (w.heap.size+1) W1 w4):=(BM.out.alloc Co _).grown Gp (by simp;omega) YR
     have Vh:Hid (w4.ownsRow (w.heap.size+1) 63 5 (.slice (some ⟨g5,0,none⟩) (m+1) Fh) (m+1) (AY (Ej out ⟨ta,tb,tc,td,te⟩ m))):=by
      have:=HM.out
      subst this
      rw[Mr];exact Ap
     have Lm:w.heap.size+1≤g5:=(Vh.out.lt g5 rfl).1
     have dM:=Lib.hid Lm
     generalize KH:m+1=m1 at*
     have Ro:=Lib.hid KH
     have Kl:(m1:Int)-1=(m:Int):=by omega
     have Ur:IntKind.i64.wrap (m:Int)=(m:Int):=by rw[IntKind.wrap_i64];omega
     clear Ap Gp Bp YR Co y0 y1 y2 y3 y4 BM R1 Lm KH
     go_wp2_with fail
     go_loopw [10] (fun jv wr=>∃j:Nat,k≤j∧j≤m∧jv=.int .i64 (j:Int)∧Hid (Below (w.heap.size+1) W1 wr)∧Hid (wr.ownsRow (w.heap.size+1) 63 5 (.slice (some ⟨g5,0,none⟩) m1 Fh) m1 (AY (Ej out ⟨ta,tb,tc,td,te⟩ j)))) (fun jv _=>(intOf jv).toNat)
     case atStart=>exact⟨m,hk,Nat.le_refl _,(by first|rfl|go_num),I9.out,Vh.out⟩
     case round=>
      obtain⟨j,yZ,kK,rfl,Oj,CW⟩:=hrel
      clear Kl Ur I9 Vh
      have Ll:out.length=m:=HM.out
      have E1:j<(Ej out ⟨ta,tb,tc,td,te⟩ j).length:=by rw[KZ out _ (by omega)];omega
      obtain⟨v,hv⟩:∃v,v=(Ej out ⟨ta,tb,tc,td,te⟩ j).getD j AD:=⟨_,rfl⟩
      have d0:wr.cell? ⟨g5,j*5,none⟩=some (.int .i64 v.a):=AK CW.out E1 (j:=0) (by rw[←hv];rfl)
      have d1:wr.cell? ⟨g5,j*5+1,none⟩=some (.int .i64 v.b):=AK CW.out E1 (j:=1) (by rw[←hv];rfl)
      have d2:wr.cell? ⟨g5,j*5+2,none⟩=some (.int .i64 v.c):=AK CW.out E1 (j:=2) (by rw[←hv];rfl)
      have d3:wr.cell? ⟨g5,j*5+3,none⟩=some (.int .i64 v.d):=AK CW.out E1 (j:=3) (by rw[←hv];rfl)
      have d4:wr.cell? ⟨g5,j*5+4,none⟩=some (.int .i64 v.e):=AK CW.out E1 (j:=4) (by rw[←hv];rfl)
      have f0:=World.ownsRow.frozenAt CW.out (j*5)
      have f1:=World.ownsRow.frozenAt CW.out (j*5+1)
      have f2:=World.ownsRow.frozenAt CW.out (j*5+2)
      have f3:=World.ownsRow.frozenAt CW.out (j*5+3)
      have f4:=World.ownsRow.frozenAt CW.out (j*5+4)
      have j0:(0:Int)≤(j:Int):=by omega
      have j1:(j:Int)<(m1:Int):=by have:=Ro.out;omega
      by_cases hj:k<j
      ·have gj:decide ((j:Int)>(k:Int))=true:=by simp;omega
       have oE:decide (k<j)=true:=by simp;omega
       obtain⟨p3,RP⟩:∃p3,p3+1=j:=⟨j-1,by omega⟩
       have Va:=Lib.hid RP
       have bC:(j:Int)-1=(p3:Int):=by omega
       have mg:IntKind.i64.wrap (p3:Int)=(p3:Int):=by rw[IntKind.wrap_i64];omega
       have xK:(0:Int)≤(p3:Int):=by omega
       have xJ:(p3:Int)<(m1:Int):=by have:=Ro.out;omega
       obtain⟨u,hu⟩:∃u,u=out.getD p3 AD:=⟨_,rfl⟩
       have Ew:(Ej out ⟨ta,tb,tc,td,te⟩ j).getD p3 AD=u:=by rw[hu,←RP];exact JD out _ (by omega)
       have Bm:p3<(Ej out ⟨ta,tb,tc,td,te⟩ j).length:=by omega
       have c0:wr.cell? ⟨g5,p3*5,none⟩=some (.int .i64 u.a):=AK CW.out Bm (j:=0) (by rw[Ew];rfl)
       have c1:wr.cell? ⟨g5,p3*5+1,none⟩=some (.int .i64 u.b):=AK CW.out Bm (j:=1) (by rw[Ew];rfl)
       have c2:wr.cell? ⟨g5,p3*5+2,none⟩=some (.int .i64 u.c):=AK CW.out Bm (j:=2) (by rw[Ew];rfl)
       have c3:wr.cell? ⟨g5,p3*5+3,none⟩=some (.int .i64 u.d):=AK CW.out Bm (j:=3) (by rw[Ew];rfl)
       have c4:wr.cell? ⟨g5,p3*5+4,none⟩=some (.int .i64 u.e):=AK CW.out Bm (j:=4) (by rw[Ew];rfl)
       have Vg:Hid ((((((wr.setCell ⟨g5,j*5,none⟩ (.int .i64 u.a)).setCell ⟨g5,j*5+1,none⟩ (.int .i64 u.b)).setCell ⟨g5,j*5+2,none⟩ (.int .i64 u.c)).setCell ⟨g5,j*5+3,none⟩ (.int .i64 u.d)).setCell ⟨g5,j*5+4,none⟩ (.int .i64 u.e)).ownsRow (w.heap.size+1) 63 5 (.slice (some ⟨g5,0,none⟩) m1 Fh) m1 (AY (Ej out ⟨ta,tb,tc,td,te⟩ p3))):=by
        have h:=Cu CW.out E1 u
        have e:(Ej out ⟨ta,tb,tc,td,te⟩ j).set j u=Ej out ⟨ta,tb,tc,td,te⟩ p3:=by rw[hu,←RP];exact KX out _ (by omega)
        rw[e]at h
        exact h
       have Tt:Hid (Below (w.heap.size+1) W1 (((((wr.setCell ⟨g5,j*5,none⟩ (.int .i64 u.a)).setCell ⟨g5,j*5+1,none⟩ (.int .i64 u.b)).setCell ⟨g5,j*5+2,none⟩ (.int .i64 u.c)).setCell ⟨g5,j*5+3,none⟩ (.int .i64 u.d)).setCell ⟨g5,j*5+4,none⟩ (.int .i64 u.e))):=CD Oj.out dM.out _ _ _ _ _ _
       clear CW Oj hu Ew Bm E1 hv Ll RP
       go_wp2
       go_roundw
       case rel=>exact⟨p3,by have:=Va.out;omega,by have:=Va.out;omega,(by first|rfl|go_num),Tt.out,Vg.out⟩
       case measure=>have:=Va.out;simp[intOf];omega
      ·have nO:j=k:=by omega
       subst nO
       have gj:decide ((j:Int)>(j:Int))=false:=by simp
       have oE:decide (j<j)=false:=by simp
       obtain⟨y0,y1,y2,y3,y4,-,-,-,-,-⟩:=KL.out _ Oj.out
       have Vg:Hid ((((((wr.setCell ⟨g5,j*5,none⟩ (.int .i64 ta)).setCell ⟨g5,j*5+1,none⟩ (.int .i64 tb)).setCell ⟨g5,j*5+2,none⟩ (.int .i64 tc)).setCell ⟨g5,j*5+3,none⟩ (.int .i64 td)).setCell ⟨g5,j*5+4,none⟩ (.int .i64 te)).ownsRow (w.heap.size+1) 63 5 (.slice (some ⟨g5,0,none⟩) m1 Fh) m1 (AY (CM o out ⟨ta,tb,tc,td,te⟩))):=by
        have h:=Cu CW.out E1 ⟨ta,tb,tc,td,te⟩
        have e:(Ej out ⟨ta,tb,tc,td,te⟩ j).set j ⟨ta,tb,tc,td,te⟩=CM o out ⟨ta,tb,tc,td,te⟩:=by
         rw[Ms out _ (by omega),GD,Ll,←Tq.out]
        rw[e]at h
        exact h
       have Tt:Hid (Below (w.heap.size+1) W1 (((((wr.setCell ⟨g5,j*5,none⟩ (.int .i64 ta)).setCell ⟨g5,j*5+1,none⟩ (.int .i64 tb)).setCell ⟨g5,j*5+2,none⟩ (.int .i64 tc)).setCell ⟨g5,j*5+3,none⟩ (.int .i64 td)).setCell ⟨g5,j*5+4,none⟩ (.int .i64 te))):=CD Oj.out dM.out _ _ _ _ _ _
       have dP:Hid (CM o out ⟨ta,tb,tc,td,te⟩=Ev o [] (l.take (i+1))):=by
        unfold Hid
        rw[qT.out,Jn,←HS.out]
       have oY:Hid (∀u∈CM o out ⟨ta,tb,tc,td,te⟩,BX u):=by
        intro u hu
        rw[GD]at hu
        rcases List.mem_append.1 hu with hu|hu
        ·exact Qi.out u (List.mem_of_mem_take hu)
        ·rcases List.mem_cons.1 hu with rfl|hu
         ·exact uG.out
         ·exact Qi.out u (List.mem_of_mem_drop hu)
       have eW:Hid ((CM o out ⟨ta,tb,tc,td,te⟩).length=m1):=by unfold Hid;rw[Im,Ll];exact Ro.out
       clear CW Oj E1 hv Ll HS Qi Tq
       go_wp2
       go_roundw
       case rel=>exact⟨i+1,m1,Fh,_,CM o out ⟨ta,tb,tc,td,te⟩,by omega,by have:=Ro.out;omega,by go_num,rfl,Tt.out,Vg.out,oY.out,dP.out,eW.out⟩
       case measure=>simp[intOf];omega
    ·obtain⟨p,hp⟩:∃p,p+1=k:=⟨k-1,by omega⟩
     have Hp:=Lib.hid hp
     have gk:decide ((k:Int)>0)=true:=by simp;omega
     have zk:decide (0<k)=true:=by simp;omega
     have Fc:(k:Int)-1=(p:Int):=by omega
     have Io:IntKind.i64.wrap (p:Int)=(p:Int):=by rw[IntKind.wrap_i64];omega
     have p0:(0:Int)≤(p:Int):=by omega
     have p1:(p:Int)<(m:Int):=by omega
     obtain⟨g,cap,hA,_,_⟩:=DY.out.form (by omega)
     injection hA with kZ Oz zY
     subst kZ zY
     obtain⟨y,hy⟩:∃y,y=out.getD p AD:=⟨_,rfl⟩
     have HY:=Lib.hid hy
     have Bm:p<out.length:=by have:=HM.out;omega
     have KY:Hid (∀W:World,W.ownsRow (w.heap.size+1) 63 5 (.slice (some ⟨g,0,none⟩) m c) m (AY out)→W.cell? ⟨g,p*5,none⟩=some (.int .i64 y.a)∧W.cell? ⟨g,p*5+1,none⟩=some (.int .i64 y.b)∧W.cell? ⟨g,p*5+2,none⟩=some (.int .i64 y.c)∧W.cell? ⟨g,p*5+3,none⟩=some (.int .i64 y.d)∧W.cell? ⟨g,p*5+4,none⟩=some (.int .i64 y.e)):=fun W h=>
      ⟨AK h Bm (j:=0) (by rw[←hy];rfl),AK h Bm (j:=1) (by rw[←hy];rfl),AK h Bm (j:=2) (by rw[←hy];rfl),AK h Bm (j:=3) (by rw[←hy];rfl),AK h Bm (j:=4) (by rw[←hy];rfl)⟩
     clear hy hp Bm
     obtain⟨ya,yb,yc,yd,ye⟩:=y
     simp only at KY
     have KS:Hid (∀W,Below (w.heap.size+1) W1 W→W.ownsRow (w.heap.size+1) 63 5 (.slice (some ⟨g,0,none⟩) m c) m (AY out)→W.cell? ⟨bb,off+i*5,none⟩=some (.int .i64 ta)∧W.cell? ⟨bb,off+i*5+1,none⟩=some (.int .i64 tb)∧W.cell? ⟨bb,off+i*5+2,none⟩=some (.int .i64 tc)∧W.cell? ⟨bb,off+i*5+3,none⟩=some (.int .i64 td)∧W.cell? ⟨bb,off+i*5+4,none⟩=some (.int .i64 te)∧W.cell? ⟨g,p*5,none⟩=some (.int .i64 ya)∧W.cell? ⟨g,p*5+1,none⟩=some (.int .i64 yb)∧W.cell? ⟨g,p*5+2,none⟩=some (.int .i64 yc)∧W.cell? ⟨g,p*5+3,none⟩=some (.int .i64 yd)∧W.cell? ⟨g,p*5+4,none⟩=some (.int .i64 ye)∧W.cell? ⟨w.heap.size,0,none⟩=some (.int .i64 o.a)∧W.cell? ⟨w.heap.size,1,none⟩=some (.int .i64 o.b)∧W.cell? ⟨w.heap.size,2,none⟩=some (.int .i64 o.c)∧W.cell? ⟨w.heap.size,3,none⟩=some (.int .i64 o.d)∧W.cell? ⟨w.heap.size,4,none⟩=some (.int .i64 o.e)):=fun W h1 h2=>by
      obtain⟨a0,a1,a2,a3,a4,b0,b1,b2,b3,b4⟩:=KL.out W h1
      obtain⟨c0,c1,c2,c3,c4⟩:=KY.out W h2
      exact⟨a0,a1,a2,a3,a4,c0,c1,c2,c3,c4,b0,b1,b2,b3,b4⟩
     have hbd:Below (w.heap.size+1) W1 wr.drew:=⟨Qh.out.os,Qh.out.tape,Qh.out.output,Qh.out.size,Qh.out.block⟩
     have ZC:wr.drew.ownsRow (w.heap.size+1) 63 5 (.slice (some ⟨g,0,none⟩) m c) m (AY out):=DY.out
     have HF:Hid (Calls Tryz.prog 59 #[.agg #[.int .i64 ta,.int .i64 tb,.int .i64 tc,.int .i64 td,.int .i64 te],.agg #[.int .i64 ya,.int .i64 yb,.int .i64 yc,.int .i64 yd,.int .i64 ye],.agg #[.int .i64 o.a,.int .i64 o.b,.int .i64 o.c,.int .i64 o.d,.int .i64 o.e]] wr.drew fun e w'=>e=.returned (.int .i64 (AO o ⟨ta,tb,tc,td,te⟩ ⟨ya,yb,yc,yd,ye⟩))∧Below (w.heap.size+1) W1 w'∧w'.ownsRow (w.heap.size+1) 63 5 (.slice (some ⟨g,0,none⟩) m c) m (AY out)):=by
      refine(Sa o ⟨ta,tb,tc,td,te⟩ ⟨ya,yb,yc,yd,ye⟩ wr.drew).mono ?_
      rintro e w' ⟨he,hb⟩
      exact⟨he,hbd.trans (hb.mono (Nat.le_trans JS.out hbd.size)),BZ ZC hb⟩
     have Vk:Hid (Dg o ⟨ta,tb,tc,td,te⟩ (out.getD p AD)=decide (AO o ⟨ta,tb,tc,td,te⟩ ⟨ya,yb,yc,yd,ye⟩<0)):=by unfold Hid;rw[←HY.out];rfl
     obtain⟨y0,y1,y2,y3,y4,y5,y6,y7,y8,y9,jZ,jY,jX,jW,jV⟩:=KS.out _ hbd ZC
     generalize AO o ⟨ta,tb,tc,td,te⟩ ⟨ya,yb,yc,yd,ye⟩=cm at*
     clear hbd ZC Qh DY HY
     go_wp2
     go_region_held3 (fun W=>W.cell? ⟨bb,off+i*5,none⟩=some (.int .i64 ta)∧W.cell? ⟨bb,off+i*5+1,none⟩=some (.int .i64 tb)∧W.cell? ⟨bb,off+i*5+2,none⟩=some (.int .i64 tc)∧W.cell? ⟨bb,off+i*5+3,none⟩=some (.int .i64 td)∧W.cell? ⟨bb,off+i*5+4,none⟩=some (.int .i64 te)∧W.cell? ⟨g,p*5,none⟩=some (.int .i64 ya)∧W.cell? ⟨g,p*5+1,none⟩=some (.int .i64 yb)∧W.cell? ⟨g,p*5+2,none⟩=some (.int .i64 yc)∧W.cell? ⟨g,p*5+3,none⟩=some (.int .i64 yd)∧W.cell? ⟨g,p*5+4,none⟩=some (.int .i64 ye)∧W.cell? ⟨w.heap.size,0,none⟩=some (.int .i64 o.a)∧W.cell? ⟨w.heap.size,1,none⟩=some (.int .i64 o.b)∧W.cell? ⟨w.heap.size,2,none⟩=some (.int .i64 o.c)∧W.cell? ⟨w.heap.size,3,none⟩=some (.int .i64 o.d)∧W.cell? ⟨w.heap.size,4,none⟩=some (.int .i64 o.e)) (first|with_reducible exact⟨y0,y1,y2,y3,y4,y5,y6,y7,y8,y9,jZ,jY,jX,jW,jV⟩|with_reducible exact q2)
      (first
       |(go_at_call 59;(with_reducible refine HF.out.mono ?_);rintro e w2 ⟨rfl,h2,h3⟩;have q2:=KS.out _ h2 h3))
     have Bt:=Lib.hid h2
     have T8:=Lib.hid h3
     clear Io p0 p1 h2 h3 q2 HF y0 y1 y2 y3 y4 y5 y6 y7 y8 y9 jZ jY jX jW jV KS KY
     by_cases hc:cm<0
     ·have uj:Hid (posB (Dg o ⟨ta,tb,tc,td,te⟩) out p=posB (Dg o ⟨ta,tb,tc,td,te⟩) out m):=by
       have h1:=HP.out
       rw[←Hp.out,posB,if_pos (by rw[Vk.out];exact decide_eq_true hc)]at h1
       exact h1
      have gc:decide (cm<0)=true:=by simpa using hc
      clear HP Vk
      go_wp2
      go_roundw
      case rel=>exact⟨p,by have:=Hp.out;omega,(by first|rfl|go_num),Bt.out,T8.out,uj.out⟩
      case measure=>have:=Hp.out;simp[intOf];omega
     ·have Tq:Hid (k=posB (Dg o ⟨ta,tb,tc,td,te⟩) out m):=by
       have h1:=HP.out
       rw[←Hp.out,posB,if_neg (by rw[Vk.out];simpa using hc)]at h1
       unfold Hid
       rw[←Hp.out];exact h1
      have gc:decide (cm<0)=false:=by simpa using hc
      have Lr:0≤cm:=by omega
      clear HP Vk Fc
      go_wp2
      go_quiet (fail)
      have BM:=Lib.hid (Ad Bt.out nq)
      have R1:=Lib.hid (BZ T8.out (Ad (Below.refl _ _) nq))
      generalize w2.drewN nq=w3 at*
      clear Bt T8
      obtain⟨y0,y1,y2,y3,y4,-,-,-,-,-⟩:=KL.out _ BM.out
      obtain⟨it,B7,By,B3,EX⟩:=info_parts S9
      have Co:w.heap.size+1≤w3.heap.size:=Nat.le_trans JS.out BM.out.size
      go_wp2_with (with_reducible refine BN 62 ?_)
      unfold Hid
      refine wpList_append_lies _ rfl _ _ 24 rfl (w.heap.size+1) 63 it _ 5 40 Tryz.underlying24 B7 By B3 EX rfl (by decide) _ m (AY out) (by rfl) (BZ R1.out ((Below.refl _ _).alloc (Nat.le_refl _) _)) ⟨w3.heap.size,0,none⟩ 1 1 (Ai ⟨ta,tb,tc,td,te⟩) (by rfl) (by rfl) (World.news_of_block (cs:=#[.int .i64 ta,.int .i64 tb,.int .i64 tc,.int .i64 td,.int .i64 te]) (t:=63) (fr:=(0,0)) (heap_alloc_new w3 _)) (by simp[Ai,Value.oneCell']) (by omega) (by unfold maxLen;omega) (by omega) (by simp;omega) _ rfl ?_
      intro g5 Fh w4 Ap Gp Bp _
      rw[←Ff]at Ap
      have YR:∀q,(Value.slice _ m c).ownBlock=some q→w.heap.size+1≤q:=fun q hq=>(R1.out.lt q hq).1
      have I9:Hid (Below (w.heap.size+1) W1 w4):=(BM.out.alloc Co _).grown Gp (by simp;omega) YR
      have Vh:Hid (w4.ownsRow (w.heap.size+1) 63 5 (.slice (some ⟨g5,0,none⟩) (m+1) Fh) (m+1) (AY (Ej out ⟨ta,tb,tc,td,te⟩ m))):=by
       have:=HM.out
       subst this
       rw[Mr];exact Ap
      have Lm:w.heap.size+1≤g5:=(Vh.out.lt g5 rfl).1
      have dM:=Lib.hid Lm
      generalize KH:m+1=m1 at*
      have Ro:=Lib.hid KH
      have Kl:(m1:Int)-1=(m:Int):=by omega
      have Ur:IntKind.i64.wrap (m:Int)=(m:Int):=by rw[IntKind.wrap_i64];omega
      clear Ap Gp Bp YR Co y0 y1 y2 y3 y4 BM R1 Lm KH
      go_wp2_with fail
      go_loopw [10] (fun jv wr=>∃j:Nat,k≤j∧j≤m∧jv=.int .i64 (j:Int)∧Hid (Below (w.heap.size+1) W1 wr)∧Hid (wr.ownsRow (w.heap.size+1) 63 5 (.slice (some ⟨g5,0,none⟩) m1 Fh) m1 (AY (Ej out ⟨ta,tb,tc,td,te⟩ j)))) (fun jv _=>(intOf jv).toNat)
      case atStart=>exact⟨m,hk,Nat.le_refl _,(by first|rfl|go_num),I9.out,Vh.out⟩
      case round=>
       obtain⟨j,yZ,kK,rfl,Oj,CW⟩:=hrel
       clear Kl Ur I9 Vh
       have Ll:out.length=m:=HM.out
       have E1:j<(Ej out ⟨ta,tb,tc,td,te⟩ j).length:=by rw[KZ out _ (by omega)];omega
       obtain⟨v,hv⟩:∃v,v=(Ej out ⟨ta,tb,tc,td,te⟩ j).getD j AD:=⟨_,rfl⟩
       have d0:wr.cell? ⟨g5,j*5,none⟩=some (.int .i64 v.a):=AK CW.out E1 (j:=0) (by rw[←hv];rfl)
       have d1:wr.cell? ⟨g5,j*5+1,none⟩=some (.int .i64 v.b):=AK CW.out E1 (j:=1) (by rw[←hv];rfl)
       have d2:wr.cell? ⟨g5,j*5+2,none⟩=some (.int .i64 v.c):=AK CW.out E1 (j:=2) (by rw[←hv];rfl)
       have d3:wr.cell? ⟨g5,j*5+3,none⟩=some (.int .i64 v.d):=AK CW.out E1 (j:=3) (by rw[←hv];rfl)
       have d4:wr.cell? ⟨g5,j*5+4,none⟩=some (.int .i64 v.e):=AK CW.out E1 (j:=4) (by rw[←hv];rfl)
       have f0:=World.ownsRow.frozenAt CW.out (j*5)
       have f1:=World.ownsRow.frozenAt CW.out (j*5+1)
       have f2:=World.ownsRow.frozenAt CW.out (j*5+2)
       have f3:=World.ownsRow.frozenAt CW.out (j*5+3)
       have f4:=World.ownsRow.frozenAt CW.out (j*5+4)
       have j0:(0:Int)≤(j:Int):=by omega
       have j1:(j:Int)<(m1:Int):=by have:=Ro.out;omega
       by_cases hj:k<j
       ·have gj:decide ((j:Int)>(k:Int))=true:=by simp;omega
        have oE:decide (k<j)=true:=by simp;omega
        obtain⟨p3,RP⟩:∃p3,p3+1=j:=⟨j-1,by omega⟩
        have Va:=Lib.hid RP
        have bC:(j:Int)-1=(p3:Int):=by omega
        have mg:IntKind.i64.wrap (p3:Int)=(p3:Int):=by rw[IntKind.wrap_i64];omega
        have xK:(0:Int)≤(p3:Int):=by omega
        have xJ:(p3:Int)<(m1:Int):=by have:=Ro.out;omega
        obtain⟨u,hu⟩:∃u,u=out.getD p3 AD:=⟨_,rfl⟩
        have Ew:(Ej out ⟨ta,tb,tc,td,te⟩ j).getD p3 AD=u:=by rw[hu,←RP];exact JD out _ (by omega)
        have Bm:p3<(Ej out ⟨ta,tb,tc,td,te⟩ j).length:=by omega
        have c0:wr.cell? ⟨g5,p3*5,none⟩=some (.int .i64 u.a):=AK CW.out Bm (j:=0) (by rw[Ew];rfl)
        have c1:wr.cell? ⟨g5,p3*5+1,none⟩=some (.int .i64 u.b):=AK CW.out Bm (j:=1) (by rw[Ew];rfl)
        have c2:wr.cell? ⟨g5,p3*5+2,none⟩=some (.int .i64 u.c):=AK CW.out Bm (j:=2) (by rw[Ew];rfl)
        have c3:wr.cell? ⟨g5,p3*5+3,none⟩=some (.int .i64 u.d):=AK CW.out Bm (j:=3) (by rw[Ew];rfl)
        have c4:wr.cell? ⟨g5,p3*5+4,none⟩=some (.int .i64 u.e):=AK CW.out Bm (j:=4) (by rw[Ew];rfl)
        have Vg:Hid ((((((wr.setCell ⟨g5,j*5,none⟩ (.int .i64 u.a)).setCell ⟨g5,j*5+1,none⟩ (.int .i64 u.b)).setCell ⟨g5,j*5+2,none⟩ (.int .i64 u.c)).setCell ⟨g5,j*5+3,none⟩ (.int .i64 u.d)).setCell ⟨g5,j*5+4,none⟩ (.int .i64 u.e)).ownsRow (w.heap.size+1) 63 5 (.slice (some ⟨g5,0,none⟩) m1 Fh) m1 (AY (Ej out ⟨ta,tb,tc,td,te⟩ p3))):=by
         have h:=Cu CW.out E1 u
         have e:(Ej out ⟨ta,tb,tc,td,te⟩ j).set j u=Ej out ⟨ta,tb,tc,td,te⟩ p3:=by rw[hu,←RP];exact KX out _ (by omega)
         rw[e]at h
         exact h
        have Tt:Hid (Below (w.heap.size+1) W1 (((((wr.setCell ⟨g5,j*5,none⟩ (.int .i64 u.a)).setCell ⟨g5,j*5+1,none⟩ (.int .i64 u.b)).setCell ⟨g5,j*5+2,none⟩ (.int .i64 u.c)).setCell ⟨g5,j*5+3,none⟩ (.int .i64 u.d)).setCell ⟨g5,j*5+4,none⟩ (.int .i64 u.e))):=CD Oj.out dM.out _ _ _ _ _ _
        clear CW Oj hu Ew Bm E1 hv Ll RP
        go_wp2
        go_roundw
        case rel=>exact⟨p3,by have:=Va.out;omega,by have:=Va.out;omega,(by first|rfl|go_num),Tt.out,Vg.out⟩
        case measure=>have:=Va.out;simp[intOf];omega
       ·have nO:j=k:=by omega
        subst nO
        have gj:decide ((j:Int)>(j:Int))=false:=by simp
        have oE:decide (j<j)=false:=by simp
        obtain⟨y0,y1,y2,y3,y4,-,-,-,-,-⟩:=KL.out _ Oj.out
        have Vg:Hid ((((((wr.setCell ⟨g5,j*5,none⟩ (.int .i64 ta)).setCell ⟨g5,j*5+1,none⟩ (.int .i64 tb)).setCell ⟨g5,j*5+2,none⟩ (.int .i64 tc)).setCell ⟨g5,j*5+3,none⟩ (.int .i64 td)).setCell ⟨g5,j*5+4,none⟩ (.int .i64 te)).ownsRow (w.heap.size+1) 63 5 (.slice (some ⟨g5,0,none⟩) m1 Fh) m1 (AY (CM o out ⟨ta,tb,tc,td,te⟩))):=by
         have h:=Cu CW.out E1 ⟨ta,tb,tc,td,te⟩
         have e:(Ej out ⟨ta,tb,tc,td,te⟩ j).set j ⟨ta,tb,tc,td,te⟩=CM o out ⟨ta,tb,tc,td,te⟩:=by
          rw[Ms out _ (by omega),GD,Ll,←Tq.out]
         rw[e]at h
         exact h
        have Tt:Hid (Below (w.heap.size+1) W1 (((((wr.setCell ⟨g5,j*5,none⟩ (.int .i64 ta)).setCell ⟨g5,j*5+1,none⟩ (.int .i64 tb)).setCell ⟨g5,j*5+2,none⟩ (.int .i64 tc)).setCell ⟨g5,j*5+3,none⟩ (.int .i64 td)).setCell ⟨g5,j*5+4,none⟩ (.int .i64 te))):=CD Oj.out dM.out _ _ _ _ _ _
        have dP:Hid (CM o out ⟨ta,tb,tc,td,te⟩=Ev o [] (l.take (i+1))):=by
         unfold Hid
         rw[qT.out,Jn,←HS.out]
        have oY:Hid (∀u∈CM o out ⟨ta,tb,tc,td,te⟩,BX u):=by
         intro u hu
         rw[GD]at hu
         rcases List.mem_append.1 hu with hu|hu
         ·exact Qi.out u (List.mem_of_mem_take hu)
         ·rcases List.mem_cons.1 hu with rfl|hu
          ·exact uG.out
          ·exact Qi.out u (List.mem_of_mem_drop hu)
        have eW:Hid ((CM o out ⟨ta,tb,tc,td,te⟩).length=m1):=by unfold Hid;rw[Im,Ll];exact Ro.out
        clear CW Oj E1 hv Ll HS Qi Tq
        go_wp2
        go_roundw
        case rel=>exact⟨i+1,m1,Fh,_,CM o out ⟨ta,tb,tc,td,te⟩,by omega,by have:=Ro.out;omega,by go_num,rfl,Tt.out,Vg.out,oY.out,dP.out,eW.out⟩
        case measure=>simp[intOf];omega
  ·obtain rfl:i=n:=by omega
   have g1:decide ((i:Int)<(i:Int))=false:=by simp
   have HE:Hid (∃v m',(Value.slice A m c)=v∧wr.ownsRow w.heap.size 63 5 v m' (AY (Ev o [] l))∧m'≤i∧(∀u∈Ev o [] l,BX u)∧Below w.heap.size w wr):=by
    have h1:=HS.out
    rw[List.take_of_length_le (by have:=Cg.out;omega)]at h1
    refine⟨_,m,rfl,?_,yS,by rw[←h1];exact Qi.out,KB.out _ HW.out⟩
    rw[←h1]
    exact Lb HO.out (by omega)
   clear HS Qi HO HW
   go_wp2
   go_ret
   obtain⟨v,m',rfl,e2⟩:=HE.out
   exact⟨_,m',rfl,e2⟩
theorem Ua{w:World}(o:AB){A0:Option Addr}{n c0:Nat}{l:List AB}(hl:BD w w.heap.size A0 n l)(hn:n≤1000000):Calls Tryz.prog 34 #[.slice A0 n c0,.agg #[.int .i64 o.a,.int .i64 o.b,.int .i64 o.c,.int .i64 o.d,.int .i64 o.e],.bool true] w fun e w'=>∃v m,e=.returned v∧w'.ownsRow w.heap.size 63 5 v m (AY (Eu o [] l))∧m≤n∧(∀u∈Eu o [] l,BX u)∧Below w.heap.size w w':=by
  have hr:Row (w.alloc (.cells #[.int .i64 o.a,.int .i64 o.b,.int .i64 o.c,.int .i64 o.d,.int .i64 o.e] 66)) w.heap.size 66 (OZ o):=heap_alloc_new _ _
  have hb0:Below w.heap.size w (w.alloc (.cells #[.int .i64 o.a,.int .i64 o.b,.int .i64 o.c,.int .i64 o.d,.int .i64 o.e] 66)):=(Below.refl _ _).alloc (Nat.le_refl _) _
  have hsz:(w.alloc (.cells #[.int .i64 o.a,.int .i64 o.b,.int .i64 o.c,.int .i64 o.d,.int .i64 o.e] 66)).heap.size=w.heap.size+1:=by simp
  have KB:Hid (∀W,Below (w.heap.size+1) (w.alloc (.cells #[.int .i64 o.a,.int .i64 o.b,.int .i64 o.c,.int .i64 o.d,.int .i64 o.e] 66)) W→Below w.heap.size w W):=fun W hb=>hb0.trans (hb.mono (by omega))
  have KO:Hid (∀W,Below (w.heap.size+1) (w.alloc (.cells #[.int .i64 o.a,.int .i64 o.b,.int .i64 o.c,.int .i64 o.d,.int .i64 o.e] 66)) W→Row W w.heap.size 66 (OZ o)):=fun W hb=>hr.below hb (by omega)
  have JS:=Lib.hid (Nat.le_of_eq hsz.symm)
  have uy:=Lib.hid hl
  have Cg:Hid (l.length=n):=hl.1
  have HTO:Hid (∀u∈l,BX u):=hl.2.1
  clear hr hb0 hsz hl
  go_enter Tryz.func34,Tryz.ntmps34
  go_upto_region 1 with(fail)
  generalize w.alloc (.cells #[.int .i64 o.a,.int .i64 o.b,.int .i64 o.c,.int .i64 o.d,.int .i64 o.e] 66)=W1 at*
  go_wp2_with fail
  go_loopw [7,8] (fun ov iv wr=>∃(i m c:Nat) (A:Option Addr) (out:List AB),i≤n∧m≤i∧iv=.int .i64 (i:Int)∧ov=.slice A m c∧Hid (Below (w.heap.size+1) W1 wr)∧Hid (wr.ownsRow (w.heap.size+1) 63 5 (.slice A m c) m (AY out))∧Hid (∀u∈out,BX u)∧Hid (out=Eu o [] (l.take i))∧Hid (out.length=m)) (fun _ iv _=>n-(intOf iv).toNat)
  case atStart=>exact⟨0,0,0,none,[],by omega,by omega,rfl,rfl,Below.refl _ _,⟨rfl,.inl ⟨rfl,rfl⟩⟩,(fun u hu=>by cases hu),rfl,rfl⟩
  case round=>
    obtain⟨i,m,c,A,out,hi,yS,rfl,rfl,HW,HO,Qi,HS,HM⟩:=hrel
    by_cases hlt:i<n
    · have g1:decide ((i:Int)<(n:Int))=true:=by simp;omega
      have i0:(0:Int)≤(i:Int):=by omega
      have i1:(i:Int)<(n:Int):=by omega
      obtain⟨bb,off,t,rfl,Kw,mJ,mI,mH,mG,mF,hto,ht⟩:=uy.out.at_ hlt
      have uG:=Lib.hid hto
      have qT:Hid (l.take (i+1)=l.take i++[t]):=by unfold Hid;rw[List.take_add_one,ht.out];rfl
      obtain⟨ta,tb,tc,td,te⟩:=t
      simp only at mJ mI mH mG mF
      have KL:Hid (∀W,Below (w.heap.size+1) W1 W→W.cell? ⟨bb,off+i*5,none⟩=some (.int .i64 ta)∧W.cell? ⟨bb,off+i*5+1,none⟩=some (.int .i64 tb)∧W.cell? ⟨bb,off+i*5+2,none⟩=some (.int .i64 tc)∧W.cell? ⟨bb,off+i*5+3,none⟩=some (.int .i64 td)∧W.cell? ⟨bb,off+i*5+4,none⟩=some (.int .i64 te)∧W.cell? ⟨w.heap.size,0,none⟩=some (.int .i64 o.a)∧W.cell? ⟨w.heap.size,1,none⟩=some (.int .i64 o.b)∧W.cell? ⟨w.heap.size,2,none⟩=some (.int .i64 o.c)∧W.cell? ⟨w.heap.size,3,none⟩=some (.int .i64 o.d)∧W.cell? ⟨w.heap.size,4,none⟩=some (.int .i64 o.e)):=fun W hb=>by
        have h:=KB.out W hb
        have hr:=KO.out W hb
        exact⟨(h.cell (p:=⟨bb,_,none⟩) Kw).trans mJ,(h.cell (p:=⟨bb,_,none⟩) Kw).trans mI,(h.cell (p:=⟨bb,_,none⟩) Kw).trans mH,(h.cell (p:=⟨bb,_,none⟩) Kw).trans mG,(h.cell (p:=⟨bb,_,none⟩) Kw).trans mF,hr.cell 0,hr.cell 1,hr.cell 2,hr.cell 3,hr.cell 4⟩
      clear mJ mI mH mG mF Kw hto ht
      go_wp2_with fail
      go_loopw [9] (fun kv wr=>∃k:Nat,k≤m∧kv=.int .i64 (k:Int)∧Hid (Below (w.heap.size+1) W1 wr)∧Hid (wr.ownsRow (w.heap.size+1) 63 5 (.slice A m c) m (AY out))∧Hid (posB (Dg o ⟨ta,tb,tc,td,te⟩) out k=posB (Dg o ⟨ta,tb,tc,td,te⟩) out m)) (fun kv _=>(intOf kv).toNat)
      case atStart=>exact⟨m,Nat.le_refl _,rfl,HW.out,HO.out,rfl⟩
      case round=>
        obtain⟨k,hk,rfl,Qh,DY,HP⟩:=hrel
        clear HW HO
        by_cases PF:k=0
        · have Tq:Hid (k=posB (Dg o ⟨ta,tb,tc,td,te⟩) out m):=by
            have:=HP.out
            rw[PF]at this⊢
            exact this
          have gk:decide ((k:Int)>0)=false:=by simp;omega
          have zk:decide (0<k)=false:=by simp;omega
          have HX:Hid (∀q,Below (w.heap.size+1) W1 (wr.drewN q)∧(wr.drewN q).ownsRow (w.heap.size+1) 63 5 (.slice A m c) m (AY out)):=fun q=>⟨Ad Qh.out q,BZ DY.out (Ad (Below.refl _ _) q)⟩
          have AA0:=Lib.hid PF
          clear HP Qh DY PF
          go_wp2
          go_quiet (fail)
          have Bt:=Lib.hid (HX.out nq).1
          have T8:=Lib.hid (HX.out nq).2
          clear HX
          have Wz:Hid (Md o out ⟨ta,tb,tc,td,te⟩=CM o out ⟨ta,tb,tc,td,te⟩):=by
            unfold Hid
            rw[Md,if_neg]
            rintro⟨h,_⟩
            rw[HM.out]at h
            have h:0<posB (Dg o _) out m:=h
            rw[←Tq.out]at h
            have:=AA0.out;omega
          generalize wr.drewN nq=w2 at*
          go_wp2
          go_quiet (fail)
          have BM:=Lib.hid (Ad Bt.out nq)
          have R1:=Lib.hid (BZ T8.out (Ad (Below.refl _ _) nq))
          generalize w2.drewN nq=w3 at*
          clear Bt T8
          obtain⟨y0,y1,y2,y3,y4,-,-,-,-,-⟩:=KL.out _ BM.out
          obtain⟨it,B7,By,B3,EX⟩:=info_parts S9
          have Co:w.heap.size+1≤w3.heap.size:=Nat.le_trans JS.out BM.out.size
          go_wp2_with (with_reducible refine BN 62 ?_)
          unfold Hid
          refine wpList_append_lies _ rfl _ _ 24 rfl (w.heap.size+1) 63 it _ 5 40 Tryz.underlying24 B7 By B3 EX rfl (by decide) _ m (AY out) (by rfl) (BZ R1.out ((Below.refl _ _).alloc (Nat.le_refl _) _)) ⟨w3.heap.size,0,none⟩ 1 1 (Ai ⟨ta,tb,tc,td,te⟩) (by rfl) (by rfl) (World.news_of_block (cs:=#[.int .i64 ta,.int .i64 tb,.int .i64 tc,.int .i64 td,.int .i64 te]) (t:=63) (fr:=(0,0)) (heap_alloc_new w3 _)) (by simp[Ai,Value.oneCell']) (by omega) (by unfold maxLen;omega) (by omega) (by simp;omega) _ rfl ?_
          intro g5 Fh w4 Ap Gp Bp _
          rw[←Ff]at Ap
          have YR:∀q,(Value.slice _ m c).ownBlock=some q→w.heap.size+1≤q:=fun q hq=>(R1.out.lt q hq).1
          have I9:Hid (Below (w.heap.size+1) W1 w4):=(BM.out.alloc Co _).grown Gp (by simp;omega) YR
          have Vh:Hid (w4.ownsRow (w.heap.size+1) 63 5 (.slice (some ⟨g5,0,none⟩) (m+1) Fh) (m+1) (AY (Ej out ⟨ta,tb,tc,td,te⟩ m))):=by
            have:=HM.out
            subst this
            rw[Mr];exact Ap
          have Lm:w.heap.size+1≤g5:=(Vh.out.lt g5 rfl).1
          have dM:=Lib.hid Lm
          generalize KH:m+1=m1 at*
          have Ro:=Lib.hid KH
          have Kl:(m1:Int)-1=(m:Int):=by omega
          have Ur:IntKind.i64.wrap (m:Int)=(m:Int):=by rw[IntKind.wrap_i64];omega
          clear Ap Gp Bp YR Co y0 y1 y2 y3 y4 BM R1 Lm KH
          go_wp2_with fail
          go_loopw [10] (fun jv wr=>∃j:Nat,k≤j∧j≤m∧jv=.int .i64 (j:Int)∧Hid (Below (w.heap.size+1) W1 wr)∧Hid (wr.ownsRow (w.heap.size+1) 63 5 (.slice (some ⟨g5,0,none⟩) m1 Fh) m1 (AY (Ej out ⟨ta,tb,tc,td,te⟩ j)))) (fun jv _=>(intOf jv).toNat)
          case atStart=>exact⟨m,hk,Nat.le_refl _,(by first|rfl|go_num),I9.out,Vh.out⟩
          case round=>
            obtain⟨j,yZ,kK,rfl,Oj,CW⟩:=hrel
            clear Kl Ur I9 Vh
            have Ll:out.length=m:=HM.out
            have E1:j<(Ej out ⟨ta,tb,tc,td,te⟩ j).length:=by rw[KZ out _ (by omega)];omega
            obtain⟨v,hv⟩:∃v,v=(Ej out ⟨ta,tb,tc,td,te⟩ j).getD j AD:=⟨_,rfl⟩
            have d0:wr.cell? ⟨g5,j*5,none⟩=some (.int .i64 v.a):=AK CW.out E1 (j:=0) (by rw[←hv];rfl)
            have d1:wr.cell? ⟨g5,j*5+1,none⟩=some (.int .i64 v.b):=AK CW.out E1 (j:=1) (by rw[←hv];rfl)
            have d2:wr.cell? ⟨g5,j*5+2,none⟩=some (.int .i64 v.c):=AK CW.out E1 (j:=2) (by rw[←hv];rfl)
            have d3:wr.cell? ⟨g5,j*5+3,none⟩=some (.int .i64 v.d):=AK CW.out E1 (j:=3) (by rw[←hv];rfl)
            have d4:wr.cell? ⟨g5,j*5+4,none⟩=some (.int .i64 v.e):=AK CW.out E1 (j:=4) (by rw[←hv];rfl)
            have f0:=World.ownsRow.frozenAt CW.out (j*5)
            have f1:=World.ownsRow.frozenAt CW.out (j*5+1)
            have f2:=World.ownsRow.frozenAt CW.out (j*5+2)
            have f3:=World.ownsRow.frozenAt CW.out (j*5+3)
            have f4:=World.ownsRow.frozenAt CW.out (j*5+4)
            have j0:(0:Int)≤(j:Int):=by omega
            have j1:(j:Int)<(m1:Int):=by have:=Ro.out;omega
            by_cases hj:k<j
            · have gj:decide ((j:Int)>(k:Int))=true:=by simp;omega
              have oE:decide (k<j)=true:=by simp;omega
              obtain⟨p3,RP⟩:∃p3,p3+1=j:=⟨j-1,by omega⟩
              have Va:=Lib.hid RP
              have bC:(j:Int)-1=(p3:Int):=by omega
              have mg:IntKind.i64.wrap (p3:Int)=(p3:Int):=by rw[IntKind.wrap_i64];omega
              have xK:(0:Int)≤(p3:Int):=by omega
              have xJ:(p3:Int)<(m1:Int):=by have:=Ro.out;omega
              obtain⟨u,hu⟩:∃u,u=out.getD p3 AD:=⟨_,rfl⟩
              have Ew:(Ej out ⟨ta,tb,tc,td,te⟩ j).getD p3 AD=u:=by rw[hu,←RP];exact JD out _ (by omega)
              have Bm:p3<(Ej out ⟨ta,tb,tc,td,te⟩ j).length:=by omega
              have c0:wr.cell? ⟨g5,p3*5,none⟩=some (.int .i64 u.a):=AK CW.out Bm (j:=0) (by rw[Ew];rfl)
              have c1:wr.cell? ⟨g5,p3*5+1,none⟩=some (.int .i64 u.b):=AK CW.out Bm (j:=1) (by rw[Ew];rfl)
              have c2:wr.cell? ⟨g5,p3*5+2,none⟩=some (.int .i64 u.c):=AK CW.out Bm (j:=2) (by rw[Ew];rfl)
              have c3:wr.cell? ⟨g5,p3*5+3,none⟩=some (.int .i64 u.d):=AK CW.out Bm (j:=3) (by rw[Ew];rfl)
              have c4:wr.cell? ⟨g5,p3*5+4,none⟩=some (.int .i64 u.e):=AK CW.out Bm (j:=4) (by rw[Ew];rfl)
              have Vg:Hid ((((((wr.setCell ⟨g5,j*5,none⟩ (.int .i64 u.a)).setCell ⟨g5,j*5+1,none⟩ (.int .i64 u.b)).setCell ⟨g5,j*5+2,none⟩ (.int .i64 u.c)).setCell ⟨g5,j*5+3,none⟩ (.int .i64 u.d)).setCell ⟨g5,j*5+4,none⟩ (.int .i64 u.e)).ownsRow (w.heap.size+1) 63 5 (.slice (some ⟨g5,0,none⟩) m1 Fh) m1 (AY (Ej out ⟨ta,tb,tc,td,te⟩ p3))):=by
                have h:=Cu CW.out E1 u
                have e:(Ej out ⟨ta,tb,tc,td,te⟩ j).set j u=Ej out ⟨ta,tb,tc,td,te⟩ p3:=by rw[hu,←RP];exact KX out _ (by omega)
                rw[e]at h
                exact h
              have Tt:Hid (Below (w.heap.size+1) W1 (((((wr.setCell ⟨g5,j*5,none⟩ (.int .i64 u.a)).setCell ⟨g5,j*5+1,none⟩ (.int .i64 u.b)).setCell ⟨g5,j*5+2,none⟩ (.int .i64 u.c)).setCell ⟨g5,j*5+3,none⟩ (.int .i64 u.d)).setCell ⟨g5,j*5+4,none⟩ (.int .i64 u.e))):=CD Oj.out dM.out _ _ _ _ _ _
              clear CW Oj hu Ew Bm E1 hv Ll RP
              go_wp2
              go_roundw
              case rel=>exact⟨p3,by have:=Va.out;omega,by have:=Va.out;omega,(by first|rfl|go_num),Tt.out,Vg.out⟩
              case measure=>have:=Va.out;simp[intOf];omega
            · have nO:j=k:=by omega
              subst nO
              have gj:decide ((j:Int)>(j:Int))=false:=by simp
              have oE:decide (j<j)=false:=by simp
              obtain⟨y0,y1,y2,y3,y4,-,-,-,-,-⟩:=KL.out _ Oj.out
              have Vg:Hid ((((((wr.setCell ⟨g5,j*5,none⟩ (.int .i64 ta)).setCell ⟨g5,j*5+1,none⟩ (.int .i64 tb)).setCell ⟨g5,j*5+2,none⟩ (.int .i64 tc)).setCell ⟨g5,j*5+3,none⟩ (.int .i64 td)).setCell ⟨g5,j*5+4,none⟩ (.int .i64 te)).ownsRow (w.heap.size+1) 63 5 (.slice (some ⟨g5,0,none⟩) m1 Fh) m1 (AY (CM o out ⟨ta,tb,tc,td,te⟩))):=by
                have h:=Cu CW.out E1 ⟨ta,tb,tc,td,te⟩
                have e:(Ej out ⟨ta,tb,tc,td,te⟩ j).set j ⟨ta,tb,tc,td,te⟩=CM o out ⟨ta,tb,tc,td,te⟩:=by
                  rw[Ms out _ (by omega),GD,Ll,←Tq.out]
                rw[e]at h
                exact h
              have Tt:Hid (Below (w.heap.size+1) W1 (((((wr.setCell ⟨g5,j*5,none⟩ (.int .i64 ta)).setCell ⟨g5,j*5+1,none⟩ (.int .i64 tb)).setCell ⟨g5,j*5+2,none⟩ (.int .i64 tc)).setCell ⟨g5,j*5+3,none⟩ (.int .i64 td)).setCell ⟨g5,j*5+4,none⟩ (.int .i64 te))):=CD Oj.out dM.out _ _ _ _ _ _
              have dP:Hid (CM o out ⟨ta,tb,tc,td,te⟩=Eu o [] (l.take (i+1))):=by
                unfold Hid
                rw[qT.out,Hr,←HS.out,Wz.out]
              have oY:Hid (∀u∈CM o out ⟨ta,tb,tc,td,te⟩,BX u):=by
                intro u hu
                rw[GD]at hu
                rcases List.mem_append.1 hu with hu|hu
                · exact Qi.out u (List.mem_of_mem_take hu)
                · rcases List.mem_cons.1 hu with rfl|hu
                  · exact uG.out
                  · exact Qi.out u (List.mem_of_mem_drop hu)
              have eW:Hid ((CM o out ⟨ta,tb,tc,td,te⟩).length=m1):=by unfold Hid;rw[Im,Ll];exact Ro.out
              clear CW Oj E1 hv Ll HS Qi Tq
              go_wp2
              go_roundw
              case rel=>exact⟨i+1,m1,Fh,_,CM o out ⟨ta,tb,tc,td,te⟩,by omega,by have:=Ro.out;omega,by go_num,rfl,Tt.out,Vg.out,oY.out,dP.out,eW.out⟩
              case measure=>simp[intOf];omega
        · obtain⟨p,hp⟩:∃p,p+1=k:=⟨k-1,by omega⟩
          have Hp:=Lib.hid hp
          have gk:decide ((k:Int)>0)=true:=by simp;omega
          have zk:decide (0<k)=true:=by simp;omega
          have Fc:(k:Int)-1=(p:Int):=by omega
          have Io:IntKind.i64.wrap (p:Int)=(p:Int):=by rw[IntKind.wrap_i64];omega
          have p0:(0:Int)≤(p:Int):=by omega
          have p1:(p:Int)<(m:Int):=by omega
          obtain⟨g,cap,hA,_,_⟩:=DY.out.form (by omega)
          injection hA with kZ Oz zY
          subst kZ zY
          obtain⟨y,hy⟩:∃y,y=out.getD p AD:=⟨_,rfl⟩
          have HY:=Lib.hid hy
          have Bm:p<out.length:=by have:=HM.out;omega
          have KY:Hid (∀W:World,W.ownsRow (w.heap.size+1) 63 5 (.slice (some ⟨g,0,none⟩) m c) m (AY out)→W.cell? ⟨g,p*5,none⟩=some (.int .i64 y.a)∧W.cell? ⟨g,p*5+1,none⟩=some (.int .i64 y.b)∧W.cell? ⟨g,p*5+2,none⟩=some (.int .i64 y.c)∧W.cell? ⟨g,p*5+3,none⟩=some (.int .i64 y.d)∧W.cell? ⟨g,p*5+4,none⟩=some (.int .i64 y.e)):=fun W h=>
            ⟨AK h Bm (j:=0) (by rw[←hy];rfl),AK h Bm (j:=1) (by rw[←hy];rfl),AK h Bm (j:=2) (by rw[←hy];rfl),AK h Bm (j:=3) (by rw[←hy];rfl),AK h Bm (j:=4) (by rw[←hy];rfl)⟩
          clear hy hp Bm
          obtain⟨ya,yb,yc,yd,ye⟩:=y
          simp only at KY
          have KS:Hid (∀W,Below (w.heap.size+1) W1 W→W.ownsRow (w.heap.size+1) 63 5 (.slice (some ⟨g,0,none⟩) m c) m (AY out)→W.cell? ⟨bb,off+i*5,none⟩=some (.int .i64 ta)∧W.cell? ⟨bb,off+i*5+1,none⟩=some (.int .i64 tb)∧W.cell? ⟨bb,off+i*5+2,none⟩=some (.int .i64 tc)∧W.cell? ⟨bb,off+i*5+3,none⟩=some (.int .i64 td)∧W.cell? ⟨bb,off+i*5+4,none⟩=some (.int .i64 te)∧W.cell? ⟨g,p*5,none⟩=some (.int .i64 ya)∧W.cell? ⟨g,p*5+1,none⟩=some (.int .i64 yb)∧W.cell? ⟨g,p*5+2,none⟩=some (.int .i64 yc)∧W.cell? ⟨g,p*5+3,none⟩=some (.int .i64 yd)∧W.cell? ⟨g,p*5+4,none⟩=some (.int .i64 ye)∧W.cell? ⟨w.heap.size,0,none⟩=some (.int .i64 o.a)∧W.cell? ⟨w.heap.size,1,none⟩=some (.int .i64 o.b)∧W.cell? ⟨w.heap.size,2,none⟩=some (.int .i64 o.c)∧W.cell? ⟨w.heap.size,3,none⟩=some (.int .i64 o.d)∧W.cell? ⟨w.heap.size,4,none⟩=some (.int .i64 o.e)):=fun W h1 h2=>by
            obtain⟨a0,a1,a2,a3,a4,b0,b1,b2,b3,b4⟩:=KL.out W h1
            obtain⟨c0,c1,c2,c3,c4⟩:=KY.out W h2
            exact⟨a0,a1,a2,a3,a4,c0,c1,c2,c3,c4,b0,b1,b2,b3,b4⟩
          have hbd:Below (w.heap.size+1) W1 wr.drew:=⟨Qh.out.os,Qh.out.tape,Qh.out.output,Qh.out.size,Qh.out.block⟩
          have ZC:wr.drew.ownsRow (w.heap.size+1) 63 5 (.slice (some ⟨g,0,none⟩) m c) m (AY out):=DY.out
          have O7:Hid (∀W:World,Below (w.heap.size+1) W1 W→W.ownsRow (w.heap.size+1) 63 5 (.slice (some ⟨g,0,none⟩) m c) m (AY out)→Calls Tryz.prog 59 #[.agg #[.int .i64 ta,.int .i64 tb,.int .i64 tc,.int .i64 td,.int .i64 te],.agg #[.int .i64 ya,.int .i64 yb,.int .i64 yc,.int .i64 yd,.int .i64 ye],.agg #[.int .i64 o.a,.int .i64 o.b,.int .i64 o.c,.int .i64 o.d,.int .i64 o.e]] W fun e w'=>e=.returned (.int .i64 (AO o ⟨ta,tb,tc,td,te⟩ ⟨ya,yb,yc,yd,ye⟩))∧Below (w.heap.size+1) W1 w'∧w'.ownsRow (w.heap.size+1) 63 5 (.slice (some ⟨g,0,none⟩) m c) m (AY out)):=fun W hW hO=>by
            refine(Sa o ⟨ta,tb,tc,td,te⟩ ⟨ya,yb,yc,yd,ye⟩ W).mono ?_
            rintro e w' ⟨he,hb⟩
            exact⟨he,hW.trans (hb.mono (Nat.le_trans JS.out hW.size)),BZ hO hb⟩
          have HF:=Lib.hid (O7.out _ hbd ZC)
          have uH:Hid (AO o ⟨ta,tb,tc,td,te⟩ (out.getD p AD)=AO o ⟨ta,tb,tc,td,te⟩ ⟨ya,yb,yc,yd,ye⟩):=by unfold Hid;rw[←HY.out]
          have Vk:Hid (Dg o ⟨ta,tb,tc,td,te⟩ (out.getD p AD)=decide (AO o ⟨ta,tb,tc,td,te⟩ ⟨ya,yb,yc,yd,ye⟩<0)):=by unfold Hid;rw[←HY.out];rfl
          obtain⟨y0,y1,y2,y3,y4,y5,y6,y7,y8,y9,jZ,jY,jX,jW,jV⟩:=KS.out _ hbd ZC
          generalize AO o ⟨ta,tb,tc,td,te⟩ ⟨ya,yb,yc,yd,ye⟩=cm at*
          clear hbd ZC Qh DY HY
          go_wp2
          go_region_held3 (fun W=>W.cell? ⟨bb,off+i*5,none⟩=some (.int .i64 ta)∧W.cell? ⟨bb,off+i*5+1,none⟩=some (.int .i64 tb)∧W.cell? ⟨bb,off+i*5+2,none⟩=some (.int .i64 tc)∧W.cell? ⟨bb,off+i*5+3,none⟩=some (.int .i64 td)∧W.cell? ⟨bb,off+i*5+4,none⟩=some (.int .i64 te)∧W.cell? ⟨g,p*5,none⟩=some (.int .i64 ya)∧W.cell? ⟨g,p*5+1,none⟩=some (.int .i64 yb)∧W.cell? ⟨g,p*5+2,none⟩=some (.int .i64 yc)∧W.cell? ⟨g,p*5+3,none⟩=some (.int .i64 yd)∧W.cell? ⟨g,p*5+4,none⟩=some (.int .i64 ye)∧W.cell? ⟨w.heap.size,0,none⟩=some (.int .i64 o.a)∧W.cell? ⟨w.heap.size,1,none⟩=some (.int .i64 o.b)∧W.cell? ⟨w.heap.size,2,none⟩=some (.int .i64 o.c)∧W.cell? ⟨w.heap.size,3,none⟩=some (.int .i64 o.d)∧W.cell? ⟨w.heap.size,4,none⟩=some (.int .i64 o.e)) (first|with_reducible exact⟨y0,y1,y2,y3,y4,y5,y6,y7,y8,y9,jZ,jY,jX,jW,jV⟩|with_reducible exact q2)
            (first
              | (go_at_call 59;(with_reducible refine HF.out.mono ?_);rintro e w2 ⟨rfl,h2,h3⟩;have q2:=KS.out _ h2 h3))
          have Bt:=Lib.hid h2
          have T8:=Lib.hid h3
          clear h2 h3 q2 HF y0 y1 y2 y3 y4 y5 y6 y7 y8 y9 jZ jY jX jW jV KY
          by_cases hc:cm<0
          · have uj:Hid (posB (Dg o ⟨ta,tb,tc,td,te⟩) out p=posB (Dg o ⟨ta,tb,tc,td,te⟩) out m):=by
              have h1:=HP.out
              rw[←Hp.out,posB,if_pos (by rw[Vk.out];exact decide_eq_true hc)]at h1
              exact h1
            have gc:decide (cm<0)=true:=by simpa using hc
            clear HP Vk O7 KS uH Io p0 p1
            go_wp2
            go_roundw
            case rel=>exact⟨p,by have:=Hp.out;omega,(by first|rfl|go_num),Bt.out,T8.out,uj.out⟩
            case measure=>have:=Hp.out;simp[intOf];omega
          · have Tq:Hid (k=posB (Dg o ⟨ta,tb,tc,td,te⟩) out m):=by
              have h1:=HP.out
              rw[←Hp.out,posB,if_neg (by rw[Vk.out];simpa using hc)]at h1
              unfold Hid
              rw[←Hp.out];exact h1
            have gc:decide (cm<0)=false:=by simpa using hc
            have Lr:0≤cm:=by omega
            clear HP Vk
            have hbd:=Ad Bt.out 1
            have ZC:=BZ T8.out (Ad (Below.refl _ _) 1)
            have hbd:Below (w.heap.size+1) W1 w2.drew:=⟨Bt.out.os,Bt.out.tape,Bt.out.output,Bt.out.size,Bt.out.block⟩
            have ZC:w2.drew.ownsRow (w.heap.size+1) 63 5 (.slice (some ⟨g,0,none⟩) m c) m (AY out):=T8.out
            have Oh:=Lib.hid (O7.out _ hbd ZC)
            obtain⟨y0,y1,y2,y3,y4,y5,y6,y7,y8,y9,jZ,jY,jX,jW,jV⟩:=KS.out _ hbd ZC
            clear hbd ZC O7 Bt T8
            go_wp2
            go_region_held3 (fun W=>W.cell? ⟨bb,off+i*5,none⟩=some (.int .i64 ta)∧W.cell? ⟨bb,off+i*5+1,none⟩=some (.int .i64 tb)∧W.cell? ⟨bb,off+i*5+2,none⟩=some (.int .i64 tc)∧W.cell? ⟨bb,off+i*5+3,none⟩=some (.int .i64 td)∧W.cell? ⟨bb,off+i*5+4,none⟩=some (.int .i64 te)∧W.cell? ⟨g,p*5,none⟩=some (.int .i64 ya)∧W.cell? ⟨g,p*5+1,none⟩=some (.int .i64 yb)∧W.cell? ⟨g,p*5+2,none⟩=some (.int .i64 yc)∧W.cell? ⟨g,p*5+3,none⟩=some (.int .i64 yd)∧W.cell? ⟨g,p*5+4,none⟩=some (.int .i64 ye)∧W.cell? ⟨w.heap.size,0,none⟩=some (.int .i64 o.a)∧W.cell? ⟨w.heap.size,1,none⟩=some (.int .i64 o.b)∧W.cell? ⟨w.heap.size,2,none⟩=some (.int .i64 o.c)∧W.cell? ⟨w.heap.size,3,none⟩=some (.int .i64 o.d)∧W.cell? ⟨w.heap.size,4,none⟩=some (.int .i64 o.e)) (first|with_reducible exact⟨y0,y1,y2,y3,y4,y5,y6,y7,y8,y9,jZ,jY,jX,jW,jV⟩|with_reducible exact q2)
              (first
                | (go_at_call 59;(with_reducible refine Oh.out.mono ?_);rintro e w3 ⟨rfl,h2,h3⟩;have q2:=KS.out _ h2 h3))
            have BM:=Lib.hid h2
            have R1:=Lib.hid h3
            clear Fc Io p0 p1 h2 h3 q2 Oh y0 y1 y2 y3 y4 y5 y6 y7 y8 y9 jZ jY jX jW jV KS
            by_cases hz:cm=0
            · have dP:Hid (out=Eu o [] (l.take (i+1))):=by
                unfold Hid
                rw[qT.out,Hr,←HS.out,Md,if_pos]
                refine⟨?_,?_⟩
                · rw[HM.out];show 0<posB (Dg o _) out m;rw[←Tq.out,←Hp.out];omega
                · rw[HM.out];show AO o _ (out.getD (posB (Dg o _) out m-1) AD)=0;rw[←Tq.out,←Hp.out,show p+1-1=p by omega,uH.out,hz]
              have gz:(cm==0)=true:=by simpa using hz
              have tV:decide (cm=0)=true:=by simpa using hz
              clear hc Lr gc uH HS Tq hz
              go_wp2
              all_goals first
                | (exfalso;omega)
                | (go_roundw
                   case rel=>exact⟨i+1,m,c,_,out,by omega,by omega,by go_num,rfl,BM.out,R1.out,Qi.out,dP.out,HM.out⟩
                   case measure=>simp[intOf];omega)
            · have Wz:Hid (Md o out ⟨ta,tb,tc,td,te⟩=CM o out ⟨ta,tb,tc,td,te⟩):=by
                unfold Hid
                rw[Md,if_neg]
                rintro⟨_,h⟩
                rw[HM.out]at h
                have h:AO o _ (out.getD (posB (Dg o _) out m-1) AD)=0:=h
                rw[←Tq.out,←Hp.out,show p+1-1=p by omega,uH.out]at h
                exact hz h
              have gz:(cm==0)=false:=by simpa using hz
              have tV:decide (cm=0)=false:=by simpa using hz
              clear hc Lr gc uH hz
              obtain⟨y0,y1,y2,y3,y4,-,-,-,-,-⟩:=KL.out _ BM.out
              obtain⟨it,B7,By,B3,EX⟩:=info_parts S9
              have Co:w.heap.size+1≤w3.heap.size:=Nat.le_trans JS.out BM.out.size
              go_wp2_with (with_reducible refine BN 62 ?_)
              unfold Hid
              refine wpList_append_lies _ rfl _ _ 24 rfl (w.heap.size+1) 63 it _ 5 40 Tryz.underlying24 B7 By B3 EX rfl (by decide) _ m (AY out) (by rfl) (BZ R1.out ((Below.refl _ _).alloc (Nat.le_refl _) _)) ⟨w3.heap.size,0,none⟩ 1 1 (Ai ⟨ta,tb,tc,td,te⟩) (by rfl) (by rfl) (World.news_of_block (cs:=#[.int .i64 ta,.int .i64 tb,.int .i64 tc,.int .i64 td,.int .i64 te]) (t:=63) (fr:=(0,0)) (heap_alloc_new w3 _)) (by simp[Ai,Value.oneCell']) (by omega) (by unfold maxLen;omega) (by omega) (by simp;omega) _ rfl ?_
              intro g5 Fh w4 Ap Gp Bp _
              rw[←Ff]at Ap
              have YR:∀q,(Value.slice _ m c).ownBlock=some q→w.heap.size+1≤q:=fun q hq=>(R1.out.lt q hq).1
              have I9:Hid (Below (w.heap.size+1) W1 w4):=(BM.out.alloc Co _).grown Gp (by simp;omega) YR
              have Vh:Hid (w4.ownsRow (w.heap.size+1) 63 5 (.slice (some ⟨g5,0,none⟩) (m+1) Fh) (m+1) (AY (Ej out ⟨ta,tb,tc,td,te⟩ m))):=by
                have:=HM.out
                subst this
                rw[Mr];exact Ap
              have Lm:w.heap.size+1≤g5:=(Vh.out.lt g5 rfl).1
              have dM:=Lib.hid Lm
              generalize KH:m+1=m1 at*
              have Ro:=Lib.hid KH
              have Kl:(m1:Int)-1=(m:Int):=by omega
              have Ur:IntKind.i64.wrap (m:Int)=(m:Int):=by rw[IntKind.wrap_i64];omega
              clear Ap Gp Bp YR Co y0 y1 y2 y3 y4 BM R1 Lm KH
              go_wp2_with fail
              go_loopw [10] (fun jv wr=>∃j:Nat,k≤j∧j≤m∧jv=.int .i64 (j:Int)∧Hid (Below (w.heap.size+1) W1 wr)∧Hid (wr.ownsRow (w.heap.size+1) 63 5 (.slice (some ⟨g5,0,none⟩) m1 Fh) m1 (AY (Ej out ⟨ta,tb,tc,td,te⟩ j)))) (fun jv _=>(intOf jv).toNat)
              case atStart=>exact⟨m,hk,Nat.le_refl _,(by first|rfl|go_num),I9.out,Vh.out⟩
              case round=>
                obtain⟨j,yZ,kK,rfl,Oj,CW⟩:=hrel
                clear Kl Ur I9 Vh
                have Ll:out.length=m:=HM.out
                have E1:j<(Ej out ⟨ta,tb,tc,td,te⟩ j).length:=by rw[KZ out _ (by omega)];omega
                obtain⟨v,hv⟩:∃v,v=(Ej out ⟨ta,tb,tc,td,te⟩ j).getD j AD:=⟨_,rfl⟩
                have d0:wr.cell? ⟨g5,j*5,none⟩=some (.int .i64 v.a):=AK CW.out E1 (j:=0) (by rw[←hv];rfl)
                have d1:wr.cell? ⟨g5,j*5+1,none⟩=some (.int .i64 v.b):=AK CW.out E1 (j:=1) (by rw[←hv];rfl)
                have d2:wr.cell? ⟨g5,j*5+2,none⟩=some (.int .i64 v.c):=AK CW.out E1 (j:=2) (by rw[←hv];rfl)
                have d3:wr.cell? ⟨g5,j*5+3,none⟩=some (.int .i64 v.d):=AK CW.out E1 (j:=3) (by rw[←hv];rfl)
                have d4:wr.cell? ⟨g5,j*5+4,none⟩=some (.int .i64 v.e):=AK CW.out E1 (j:=4) (by rw[←hv];rfl)
                have f0:=World.ownsRow.frozenAt CW.out (j*5)
                have f1:=World.ownsRow.frozenAt CW.out (j*5+1)
                have f2:=World.ownsRow.frozenAt CW.out (j*5+2)
                have f3:=World.ownsRow.frozenAt CW.out (j*5+3)
                have f4:=World.ownsRow.frozenAt CW.out (j*5+4)
                have j0:(0:Int)≤(j:Int):=by omega
                have j1:(j:Int)<(m1:Int):=by have:=Ro.out;omega
                by_cases hj:k<j
                · have gj:decide ((j:Int)>(k:Int))=true:=by simp;omega
                  have oE:decide (k<j)=true:=by simp;omega
                  obtain⟨p3,RP⟩:∃p3,p3+1=j:=⟨j-1,by omega⟩
                  have Va:=Lib.hid RP
                  have bC:(j:Int)-1=(p3:Int):=by omega
                  have mg:IntKind.i64.wrap (p3:Int)=(p3:Int):=by rw[IntKind.wrap_i64];omega
                  have xK:(0:Int)≤(p3:Int):=by omega
                  have xJ:(p3:Int)<(m1:Int):=by have:=Ro.out;omega
                  obtain⟨u,hu⟩:∃u,u=out.getD p3 AD:=⟨_,rfl⟩
                  have Ew:(Ej out ⟨ta,tb,tc,td,te⟩ j).getD p3 AD=u:=by rw[hu,←RP];exact JD out _ (by omega)
                  have Bm:p3<(Ej out ⟨ta,tb,tc,td,te⟩ j).length:=by omega
                  have c0:wr.cell? ⟨g5,p3*5,none⟩=some (.int .i64 u.a):=AK CW.out Bm (j:=0) (by rw[Ew];rfl)
                  have c1:wr.cell? ⟨g5,p3*5+1,none⟩=some (.int .i64 u.b):=AK CW.out Bm (j:=1) (by rw[Ew];rfl)
                  have c2:wr.cell? ⟨g5,p3*5+2,none⟩=some (.int .i64 u.c):=AK CW.out Bm (j:=2) (by rw[Ew];rfl)
                  have c3:wr.cell? ⟨g5,p3*5+3,none⟩=some (.int .i64 u.d):=AK CW.out Bm (j:=3) (by rw[Ew];rfl)
                  have c4:wr.cell? ⟨g5,p3*5+4,none⟩=some (.int .i64 u.e):=AK CW.out Bm (j:=4) (by rw[Ew];rfl)
                  have Vg:Hid ((((((wr.setCell ⟨g5,j*5,none⟩ (.int .i64 u.a)).setCell ⟨g5,j*5+1,none⟩ (.int .i64 u.b)).setCell ⟨g5,j*5+2,none⟩ (.int .i64 u.c)).setCell ⟨g5,j*5+3,none⟩ (.int .i64 u.d)).setCell ⟨g5,j*5+4,none⟩ (.int .i64 u.e)).ownsRow (w.heap.size+1) 63 5 (.slice (some ⟨g5,0,none⟩) m1 Fh) m1 (AY (Ej out ⟨ta,tb,tc,td,te⟩ p3))):=by
                    have h:=Cu CW.out E1 u
                    have e:(Ej out ⟨ta,tb,tc,td,te⟩ j).set j u=Ej out ⟨ta,tb,tc,td,te⟩ p3:=by rw[hu,←RP];exact KX out _ (by omega)
                    rw[e]at h
                    exact h
                  have Tt:Hid (Below (w.heap.size+1) W1 (((((wr.setCell ⟨g5,j*5,none⟩ (.int .i64 u.a)).setCell ⟨g5,j*5+1,none⟩ (.int .i64 u.b)).setCell ⟨g5,j*5+2,none⟩ (.int .i64 u.c)).setCell ⟨g5,j*5+3,none⟩ (.int .i64 u.d)).setCell ⟨g5,j*5+4,none⟩ (.int .i64 u.e))):=CD Oj.out dM.out _ _ _ _ _ _
                  clear CW Oj hu Ew Bm E1 hv Ll RP
                  go_wp2
                  go_roundw
                  case rel=>exact⟨p3,by have:=Va.out;omega,by have:=Va.out;omega,(by first|rfl|go_num),Tt.out,Vg.out⟩
                  case measure=>have:=Va.out;simp[intOf];omega
                · have nO:j=k:=by omega
                  subst nO
                  have gj:decide ((j:Int)>(j:Int))=false:=by simp
                  have oE:decide (j<j)=false:=by simp
                  obtain⟨y0,y1,y2,y3,y4,-,-,-,-,-⟩:=KL.out _ Oj.out
                  have Vg:Hid ((((((wr.setCell ⟨g5,j*5,none⟩ (.int .i64 ta)).setCell ⟨g5,j*5+1,none⟩ (.int .i64 tb)).setCell ⟨g5,j*5+2,none⟩ (.int .i64 tc)).setCell ⟨g5,j*5+3,none⟩ (.int .i64 td)).setCell ⟨g5,j*5+4,none⟩ (.int .i64 te)).ownsRow (w.heap.size+1) 63 5 (.slice (some ⟨g5,0,none⟩) m1 Fh) m1 (AY (CM o out ⟨ta,tb,tc,td,te⟩))):=by
                    have h:=Cu CW.out E1 ⟨ta,tb,tc,td,te⟩
                    have e:(Ej out ⟨ta,tb,tc,td,te⟩ j).set j ⟨ta,tb,tc,td,te⟩=CM o out ⟨ta,tb,tc,td,te⟩:=by
                      rw[Ms out _ (by omega),GD,Ll,←Tq.out]
                    rw[e]at h
                    exact h
                  have Tt:Hid (Below (w.heap.size+1) W1 (((((wr.setCell ⟨g5,j*5,none⟩ (.int .i64 ta)).setCell ⟨g5,j*5+1,none⟩ (.int .i64 tb)).setCell ⟨g5,j*5+2,none⟩ (.int .i64 tc)).setCell ⟨g5,j*5+3,none⟩ (.int .i64 td)).setCell ⟨g5,j*5+4,none⟩ (.int .i64 te))):=CD Oj.out dM.out _ _ _ _ _ _
                  have dP:Hid (CM o out ⟨ta,tb,tc,td,te⟩=Eu o [] (l.take (i+1))):=by
                    unfold Hid
                    rw[qT.out,Hr,←HS.out,Wz.out]
                  have oY:Hid (∀u∈CM o out ⟨ta,tb,tc,td,te⟩,BX u):=by
                    intro u hu
                    rw[GD]at hu
                    rcases List.mem_append.1 hu with hu|hu
                    · exact Qi.out u (List.mem_of_mem_take hu)
                    · rcases List.mem_cons.1 hu with rfl|hu
                      · exact uG.out
                      · exact Qi.out u (List.mem_of_mem_drop hu)
                  have eW:Hid ((CM o out ⟨ta,tb,tc,td,te⟩).length=m1):=by unfold Hid;rw[Im,Ll];exact Ro.out
                  clear CW Oj E1 hv Ll HS Qi Tq
                  go_wp2
                  go_roundw
                  case rel=>exact⟨i+1,m1,Fh,_,CM o out ⟨ta,tb,tc,td,te⟩,by omega,by have:=Ro.out;omega,by go_num,rfl,Tt.out,Vg.out,oY.out,dP.out,eW.out⟩
                  case measure=>simp[intOf];omega
    · obtain rfl:i=n:=by omega
      have g1:decide ((i:Int)<(i:Int))=false:=by simp
      have HE:Hid (∃v m',(Value.slice A m c)=v∧wr.ownsRow w.heap.size 63 5 v m' (AY (Eu o [] l))∧m'≤i∧(∀u∈Eu o [] l,BX u)∧Below w.heap.size w wr):=by
        have h1:=HS.out
        rw[List.take_of_length_le (by have:=Cg.out;omega)]at h1
        refine⟨_,m,rfl,?_,yS,by rw[←h1];exact Qi.out,KB.out _ HW.out⟩
        rw[←h1]
        exact Lb HO.out (by omega)
      clear HS Qi HO HW
      go_wp2
      go_ret
      obtain⟨v,m',rfl,e2⟩:=HE.out
      exact⟨_,m',rfl,e2⟩
abbrev Ex:=Nat×Nat
def Canon(hi:Nat):Nat→List Ex→Prop
 | _,[]=>True
 |lo,x::l=>lo≤x.1∧1≤x.2∧x.1+x.2≤hi∧Canon hi (x.1+x.2+1) l
def hasB(l:List Ex)(b:Nat):Prop:=∃x∈l,x.1≤b∧b<x.1+x.2
def Az(l:List Ex):Nat:=(l.map (·.2)).sum
section
variable {hi lo : Nat} {l A B : List Ex} {x : Ex}
theorem Canon.mono{lo':Nat}(h:Canon hi lo l)(hl:lo'≤lo):Canon hi lo' l:=by
 cases l with
 |nil=>trivial
 |cons x l=>exact⟨by have:=h.1;omega,h.2⟩
theorem Cd:∀{A:List Ex} {lo:Nat},Canon hi lo (A++x::B)↔Canon hi lo A∧(∀y∈A,y.1+y.2+1≤x.1)∧lo≤x.1∧1≤x.2∧x.1+x.2≤hi∧Canon hi (x.1+x.2+1) B
 |[],lo=>by simp[Canon]
 |y::A,lo=>by
  show lo≤y.1∧1≤y.2∧y.1+y.2≤hi∧Canon hi (y.1+y.2+1) (A++x::B)↔(lo≤y.1∧1≤y.2∧y.1+y.2≤hi∧Canon hi (y.1+y.2+1) A)∧ _
  rw[Cd (A:=A)]
  constructor
  ·rintro⟨h1,h2,h3,h4,h5,h6,h7,h8,h9⟩
   refine⟨⟨h1,h2,h3,h4⟩,fun z hz=>?_,by omega,h7,h8,h9⟩
   rcases List.mem_cons.1 hz with rfl|hz
   ·exact h6
   ·exact h5 z hz
  ·rintro⟨⟨h1,h2,h3,h4⟩,h5,h6,h7,h8,h9⟩
   exact⟨h1,h2,h3,h4,fun z hz=>h5 z (List.mem_cons_of_mem _ hz),h5 y List.mem_cons_self,h7,h8,h9⟩
theorem Canon.left:∀{A:List Ex} {lo:Nat},Canon hi lo (A++B)→Canon hi lo A
 |[],_,_=>trivial
 | _:: _,_,h=>⟨h.1,h.2.1,h.2.2.1,Canon.left h.2.2.2⟩
theorem Canon.Nn:∀{l:List Ex} {lo:Nat} {x:Ex},Canon hi lo l→x∈l→lo≤x.1∧1≤x.2∧x.1+x.2≤hi
 |[],_,_,_,h=>by cases h
 |y::l,lo,x,h,hx=>by
  rcases List.mem_cons.1 hx with rfl|rM
  ·exact⟨h.1,h.2.1,h.2.2.1⟩
  ·have h1:=Canon.Nn (x:=x) h.2.2.2 rM;have h2:=h.1;omega
theorem Canon.apart:∀{l:List Ex} {lo:Nat} {x y:Ex},Canon hi lo l→x∈l→y∈l→x=y∨x.1+x.2+1≤y.1∨y.1+y.2+1≤x.1
 |[],_,_,_,_,h,_=>by cases h
 |z::l,lo,x,y,h,hx,hy=>by
  rcases List.mem_cons.1 hx with rfl|rM<;>rcases List.mem_cons.1 hy with rfl|xd
  ·exact .inl rfl
  ·exact .inr (.inl (Canon.Nn h.2.2.2 xd).1)
  ·exact .inr (.inr (Canon.Nn h.2.2.2 rM).1)
  ·exact Canon.apart h.2.2.2 rM xd
theorem Canon.has(h:Canon hi lo l){b:Nat}(hb:hasB l b):lo≤b∧b<hi:=by
 obtain⟨x,hx,h1,h2⟩:=hb
 have:=h.Nn hx;omega
theorem Canon.length(h:Canon hi lo l):l.length≤hi-lo:=by
 induction l generalizing lo with
 |nil=>simp
 |cons x l ih=>
  have:=ih h.2.2.2
  have:=h.1;have:=h.2.1;have:=h.2.2.1
  simp only[List.length_cons];omega
theorem Gq(b:Nat):¬hasB [] b:=by rintro⟨x,h,_⟩;cases h
theorem Ba{b:Nat}:hasB (x::l) b↔(x.1≤b∧b<x.1+x.2)∨hasB l b:=by simp[hasB]
theorem A6{b:Nat}:hasB (A++B) b↔hasB A b∨hasB B b:=by simp[hasB,or_and_right,exists_or]
theorem Ao:Az (A++B)=Az A+Az B:=by simp[Az]
theorem Cb:Az (x::l)=x.2+Az l:=by simp[Az]
theorem Gf:Az []=0:=rfl
theorem Canon.sum(h:Canon hi lo l):Az l≤hi-lo:=by
 induction l generalizing lo with
 |nil=>simp[Az]
 |cons x l ih=>
  have:=ih h.2.2.2
  have:=h.1;have:=h.2.1;have:=h.2.2.1
  rw[Cb];omega
theorem Canon.only:∀{l l':List Ex} {lo:Nat},Canon hi lo l→Canon hi lo l'→(∀b,hasB l b↔hasB l' b)→l=l'
 |[],[],_,_,_,_=>rfl
 |[],y::l',_,_,h',e=>absurd ((e y.1).2 ⟨y,List.mem_cons_self,Nat.le_refl _,by have:=h'.2.1;omega⟩) (Gq _)
 |x::l,[],_,h,_,e=>absurd ((e x.1).1 ⟨x,List.mem_cons_self,Nat.le_refl _,by have:=h.2.1;omega⟩) (Gq _)
 |x::l,y::l',lo,h,h',e=>by
  have low:∀{z:Ex} {m:List Ex} {b:Nat},Canon hi lo (z::m)→hasB (z::m) b→z.1≤b:=fun {z m b} hc hb=>by
   rcases Ba.1 hb with hb|hb
   ·exact hb.1
   ·have:=(Canon.has hc.2.2.2 hb).1;omega
  have gap:∀{z:Ex} {m:List Ex},Canon hi lo (z::m)→¬hasB (z::m) (z.1+z.2):=fun {z m} hc hb=>by
   rcases Ba.1 hb with hb|hb
   ·omega
   ·have:=(Canon.has hc.2.2.2 hb).1;omega
  have h1:x.1≤y.1:=low h ((e y.1).2 ⟨y,List.mem_cons_self,Nat.le_refl _,by have:=h'.2.1;omega⟩)
  have h2:y.1≤x.1:=low h' ((e x.1).1 ⟨x,List.mem_cons_self,Nat.le_refl _,by have:=h.2.1;omega⟩)
  have h3:y.1+y.2≤x.1+x.2:=by
   rcases Nat.lt_or_ge (x.1+x.2) (y.1+y.2)with hlt|hge
   ·exact absurd ((e (x.1+x.2)).2 ⟨y,List.mem_cons_self,by omega,hlt⟩) (gap h)
   ·exact hge
  have h4:x.1+x.2≤y.1+y.2:=by
   rcases Nat.lt_or_ge (y.1+y.2) (x.1+x.2)with hlt|hge
   ·exact absurd ((e (y.1+y.2)).1 ⟨x,List.mem_cons_self,by omega,hlt⟩) (gap h')
   ·exact hge
  have hxy:x=y:=Prod.ext (by omega) (by omega)
  subst hxy
  rw[Canon.only h.2.2.2 h'.2.2.2 fun b=>?_]
  constructor
  ·intro hb
   have h5:=Canon.has h.2.2.2 hb
   rcases Ba.1 ((e b).1 (Ba.2 (.inr hb)))with h6|h6
   ·omega
   ·exact h6
  ·intro hb
   have h5:=Canon.has h'.2.2.2 hb
   rcases Ba.1 ((e b).2 (Ba.2 (.inr hb)))with h6|h6
   ·omega
   ·exact h6
theorem Canon.one(h:Canon hi lo l){k:Nat}:∀{n:Nat},1≤n→(∀b,k≤b→b<k+n→hasB l b)→∃x∈l,x.1≤k∧k+n≤x.1+x.2
 |0,h1,_=>by omega
 |1,_,hb=>by
  obtain⟨x,hx,h1,h2⟩:=hb k (by omega) (by omega)
  exact⟨x,hx,h1,by omega⟩
 |n+2,_,hb=>by
  obtain⟨x,hx,h1,h2⟩:=Canon.one h (n:=n+1) (by omega) (fun b h1 h2=>hb b h1 (by omega))
  obtain⟨y,hy,h3,h4⟩:=hb (k+(n+1)) (by omega) (by omega)
  rcases h.apart hx hy with rfl|h5|h5
  ·exact⟨x,hx,h1,by omega⟩
  ·omega
  ·omega
end
def Ae(l:List Ex)(i:Nat):Ex:=l.getD i (0,0)
theorem DN{l:List Ex}{i:Nat}(hi:i<l.length):Ae l i=l[i]:=by
 unfold Ae;rw[List.getD_eq_getElem?_getD,List.getElem?_eq_getElem hi];rfl
def Il(x:Ex)(f n:Nat):List Ex:=(if x.1<f then [(x.1,f-x.1)]else [])++(if f+n<x.1+x.2 then [(f+n,x.1+x.2-(f+n))]else [])
def IE(l:List Ex)(i f n:Nat):List Ex:=l.take i++Il (Ae l i) f n++l.drop (i+1)
theorem SH{l:List Ex}{i:Nat}(hi:i<l.length):l=l.take i++Ae l i::l.drop (i+1):=by
 conv=>lhs;rw[←List.take_append_drop i l,List.drop_eq_getElem_cons hi]
 rw[DN hi]
theorem YZ{x:Ex}{f n b:Nat}(h1:x.1≤f)(h2:f+n≤x.1+x.2):hasB (Il x f n) b↔(x.1≤b∧b<x.1+x.2)∧¬(f≤b∧b<f+n):=by
 unfold Il
 rw[A6]
 by_cases h3:x.1<f<;>by_cases h4:f+n<x.1+x.2<;>simp[hasB,h3,h4]<;>omega
theorem VR{hi:Nat}{x:Ex}{f n:Nat}{A B:List Ex}{lo:Nat}(h:Canon hi lo (A++x::B))(h1:x.1≤f)(h2:f+n≤x.1+x.2)(hn:1≤n):Canon hi lo (A++Il x f n++B):=by
 obtain⟨c1,c2,c3,c4,c5,c6⟩:=Cd.1 h
 have tail:∀(C:List Ex) (c:Nat),Canon hi lo C→(∀y∈C,y.1+y.2≤c)→c≤x.1+x.2→Canon hi lo (C++B):=by
  intro C c hC hy hc
  cases B with
  |nil=>simpa using hC
  |cons z B=>
   have hz:=c6
   refine Cd.2 ⟨hC,fun y h=>?_,?_,hz.2.1,hz.2.2.1,hz.2.2.2⟩
   ·have:=hy y h;have:=hz.1;omega
   ·have:=hz.1;omega
 unfold Il
 have hA:∀y∈A,y.1+y.2≤x.1+x.2:=fun y hy=>by have:=c2 y hy;omega
 by_cases h3:x.1<f<;>by_cases h4:f+n<x.1+x.2
 ·rw[if_pos h3,if_pos h4]
  refine tail _ (x.1+x.2) ?_ ?_ (Nat.le_refl _)
  ·rw[show A++([(x.1,f-x.1)]++[(f+n,x.1+x.2-(f+n))])=A++(x.1,f-x.1)::[(f+n,x.1+x.2-(f+n))]from rfl]
   refine Cd.2 ⟨c1,c2,c3,?_,?_,?_,?_,?_,trivial⟩<;>simp<;>omega
  ·intro y hy
   simp at hy
   rcases hy with hy|rfl|rfl
   ·exact hA y hy
   ·simp;omega
   ·simp;omega
 ·rw[if_pos h3,if_neg h4,List.append_nil]
  refine tail _ (x.1+x.2) ?_ ?_ (Nat.le_refl _)
  ·refine Cd.2 ⟨c1,c2,c3,?_,?_,trivial⟩<;>simp<;>omega
  ·intro y hy
   simp at hy
   rcases hy with hy|rfl
   ·exact hA y hy
   ·simp;omega
 ·rw[if_neg h3,if_pos h4,List.nil_append]
  refine tail _ (x.1+x.2) ?_ ?_ (Nat.le_refl _)
  ·refine Cd.2 ⟨c1,?_,?_,?_,?_,trivial⟩<;>simp
   ·intro a b hy;have:=c2 (a,b) hy;simp at this;omega
   ·omega
   ·omega
   ·omega
  ·intro y hy
   simp at hy
   rcases hy with hy|rfl
   ·exact hA y hy
   ·simp;omega
 ·rw[if_neg h3,if_neg h4,List.append_nil,List.append_nil]
  exact tail A (x.1+x.2) c1 hA (Nat.le_refl _)
theorem Zi{x:Ex}{f n:Nat}(h1:x.1≤f)(h2:f+n≤x.1+x.2):Az (Il x f n)+n=x.2:=by
 unfold Il
 rw[Ao]
 by_cases h3:x.1<f<;>by_cases h4:f+n<x.1+x.2<;>simp[Az,h3,h4]<;>omega
theorem Tg{hi lo:Nat}{l:List Ex}{i f n:Nat}(h:Canon hi lo l)(hil:i<l.length)(h1:(Ae l i).1≤f)(h2:f+n≤(Ae l i).1+(Ae l i).2)(hn:1≤n):
  Canon hi lo (IE l i f n)∧(∀b,hasB (IE l i f n) b↔hasB l b∧¬(f≤b∧b<f+n))∧Az (IE l i f n)+n=Az l:=by
 have hs:=SH hil
 unfold IE
 generalize Ae l i=x at*
 generalize l.take i=A at*
 generalize l.drop (i+1)=B at*
 subst hs
 refine⟨VR h h1 h2 hn,fun b=>?_,?_⟩
 ·obtain⟨c1,c2,c3,c4,c5,c6⟩:=Cd.1 h
  rw[A6,A6,YZ h1 h2,A6,Ba]
  have hA:hasB A b→¬(f≤b∧b<f+n):=by
   rintro⟨y,hy,h3,h4⟩ h5
   have:=c2 y hy;omega
  have hB:hasB B b→¬(f≤b∧b<f+n):=fun hb=>by have:=c6.has hb;omega
  constructor
  ·rintro((h3|h3)|h3)
   ·exact⟨.inl h3,hA h3⟩
   ·exact⟨.inr (.inl h3.1),h3.2⟩
   ·exact⟨.inr (.inr h3),hB h3⟩
  ·rintro⟨h3|h3|h3,h4⟩
   ·exact .inl (.inl h3)
   ·exact .inl (.inr ⟨h3,h4⟩)
   ·exact .inr h3
 ·rw[Ao,Ao,Ao,Cb]
  have:=Zi (x:=x) (f:=f) (n:=n) h1 h2
  omega
def BB(l:List Ex)(a:Nat):Nat:=l.findIdx fun x=>decide (a<x.1+x.2)
def Ep(l:List Ex)(n:Nat):Nat:=l.findIdx fun x=>decide (n≤x.2)
theorem RW{l:List Ex}{i:Nat}(hi:i<l.length):Ae l i∈l:=by
 rw[DN hi];exact List.getElem_mem hi
theorem Dy{p:Ex→Bool}{l:List Ex}{i:Nat}(hi:i≤l.length)(h1:∀k,k<i→p (Ae l k)=false)(h2:i<l.length→p (Ae l i)=true):l.findIdx p=i:=by
 rcases Nat.lt_trichotomy (l.findIdx p) i with h|h|h
 ·have h3:=List.findIdx_getElem (p:=p) (xs:=l) (w:=by omega)
  have h4:=h1 _ h
  rw[DN (by omega),h3]at h4;cases h4
 ·exact h
 ·have h3:=List.not_of_lt_findIdx h
  have hil:i<l.length:=Nat.lt_of_lt_of_le h List.findIdx_le_length
  have h4:=h2 hil
  rw[DN hil]at h4
  rw[h4]at h3;cases h3
theorem J4{p:Ex→Bool}{l:List Ex}(h:l.findIdx p<l.length):p (Ae l (l.findIdx p))=true:=by
 rw[DN h];exact List.findIdx_getElem
theorem EN{p:Ex→Bool}{l:List Ex}{k:Nat}(h:k<l.findIdx p):p (Ae l k)=false:=by
 have hk:k<l.length:=Nat.lt_of_lt_of_le h List.findIdx_le_length
 rw[DN hk]
 simpa using List.not_of_lt_findIdx h
theorem Canon.ends{hi lo:Nat}{l:List Ex}(h:Canon hi lo l){i j:Nat}(Fq:i<j)(hj:j<l.length):(Ae l i).1+(Ae l i).2+1≤(Ae l j).1:=by
 have hs:=SH hj
 rw[hs]at h
 have h2:=(Cd.1 h).2.1 (Ae l i) (by
  rw[DN (by omega)]
  have h3:(l.take j)[i]?=some l[i]:=by rw[List.getElem?_take,if_pos Fq,List.getElem?_eq_getElem (by omega)]
  exact List.mem_of_getElem? h3)
 exact h2
theorem Canon.getD{hi lo:Nat}{l:List Ex}(h:Canon hi lo l){i:Nat}(hil:i<l.length):lo≤(Ae l i).1∧1≤(Ae l i).2∧(Ae l i).1+(Ae l i).2≤hi:=h.Nn (RW hil)
theorem Uh{hi lo:Nat}{l:List Ex}{f n:Nat}(h:Canon hi lo l)(hn:1≤n)(hb:∀b,f≤b→b<f+n→hasB l b):
  BB l f<l.length∧(Ae l (BB l f)).1≤f∧f+n≤(Ae l (BB l f)).1+(Ae l (BB l f)).2:=by
 obtain⟨x,hx,h1,h2⟩:=h.one hn hb
 obtain⟨j,hj,rfl⟩:=List.getElem_of_mem hx
 have hg:Ae l j=l[j]:=DN hj
 have he:BB l f=j:=Dy (Nat.le_of_lt hj) (fun k hk=>by
   have:=h.ends hk hj
   rw[hg]at this
   simp;omega) (fun _=>by rw[hg];simp;omega)
 rw[he,hg]
 exact⟨hj,h1,h2⟩
theorem JG{hi lo:Nat}{l:List Ex}{f n:Nat}(h:Canon hi lo l)(hn:1≤n):(∀b,f≤b→b<f+n→¬hasB l b)↔(BB l f<l.length→f+n≤(Ae l (BB l f)).1):=by
 constructor
 ·intro hb hlt
  rcases Nat.lt_or_ge (Ae l (BB l f)).1 (f+n)with h1|h1
  ·have h2:=J4 (p:=fun x:Ex=>decide (f<x.1+x.2)) hlt
   simp only[decide_eq_true_eq]at h2
   have hg:=h.getD hlt
   refine absurd ⟨_,RW hlt,?_,?_⟩ (hb (max f (Ae l (BB l f)).1) (by omega) (by omega))
   ·omega
   ·unfold BB at hg h1⊢;omega
  ·exact h1
 ·rintro h1 b Am AZ ⟨x,hx,h3,h4⟩
  obtain⟨j,hj,rfl⟩:=List.getElem_of_mem hx
  have hg:Ae l j=l[j]:=DN hj
  rcases Nat.lt_trichotomy j (BB l f)with h5|h5|h5
  ·have h6:=EN (p:=fun x:Ex=>decide (f<x.1+x.2)) h5
   rw[hg]at h6;simp at h6;omega
  ·subst h5
   have:=h1 hj;rw[hg]at this;omega
  ·have h6:=h.ends h5 hj
   have h7:=h1 (by omega)
   rw[hg]at h6;omega
theorem Yi{hi lo:Nat}{l:List Ex}{n:Nat}(h:Canon hi lo l)(hn:1≤n)(hl:Ep l n<l.length):
  n≤(Ae l (Ep l n)).2∧∀k,(∀b,k≤b→b<k+n→hasB l b)→(Ae l (Ep l n)).1≤k:=by
 have h1:=J4 (p:=fun x:Ex=>decide (n≤x.2)) hl
 refine⟨by unfold Ep;simpa using h1,fun k hk=>?_⟩
 obtain⟨x,hx,h2,h3⟩:=h.one hn hk
 obtain⟨j,hj,rfl⟩:=List.getElem_of_mem hx
 have hg:Ae l j=l[j]:=DN hj
 rcases Nat.lt_trichotomy j (Ep l n)with h5|h5|h5
 ·have h6:=EN (p:=fun x:Ex=>decide (n≤x.2)) h5
  rw[hg]at h6;simp at h6;omega
 ·subst h5;rw[hg];exact h2
 ·have h6:=h.ends h5 hj
  rw[hg]at h6;unfold Ep at h6⊢;omega
theorem cP{hi lo:Nat}{l:List Ex}{n:Nat}(h:Canon hi lo l)(hn:1≤n)(hl:l.length≤Ep l n)(k:Nat):¬∀b,k≤b→b<k+n→hasB l b:=by
 intro hk
 obtain⟨x,hx,h2,h3⟩:=h.one hn hk
 obtain⟨j,hj,rfl⟩:=List.getElem_of_mem hx
 have hg:Ae l j=l[j]:=DN hj
 have h6:=EN (p:=fun x:Ex=>decide (n≤x.2)) (show j<Ep l n by omega)
 rw[hg]at h6;simp at h6;omega
def GM(l:List Ex)(i f:Nat):Bool:=decide (0<i)&&decide ((Ae l (i-1)).1+(Ae l (i-1)).2=f)
def CU(l:List Ex)(i e:Nat):Bool:=decide (i<l.length)&&decide ((Ae l i).1=e)
def Ck(l:List Ex)(i f n:Nat):List Ex:=
 match GM l i f,CU l i (f+n)with
 |false,false=>l.take i++[(f,n)]++l.drop i
 |true,false=>l.take (i-1)++[((Ae l (i-1)).1,(Ae l (i-1)).2+n)]++l.drop i
 |false,true=>l.take i++[(f,n+(Ae l i).2)]++l.drop (i+1)
 |true,true=>l.take (i-1)++[((Ae l (i-1)).1,(Ae l (i-1)).2+n+(Ae l i).2)]++l.drop (i+1)
theorem JK{hi lo:Nat}{A B:List Ex}{f n:Nat}(hA:Canon hi lo A)(hB:Canon hi lo B)(h1:∀y∈A,y.1+y.2+1≤f)(h2:B≠[]→f+n+1≤(B.headD (0,0)).1)(h3:lo≤f)(h4:f+n≤hi)(hn:1≤n):Canon hi lo (A++[(f,n)]++B):=by
 rw[List.append_assoc]
 refine Cd.2 ⟨hA,h1,h3,hn,h4,?_⟩
 cases B with
 |nil=>trivial
 |cons z B=>exact⟨h2 (by simp),hB.2⟩
theorem Canon.tail{hi lo:Nat}{A B:List Ex}(h:Canon hi lo (A++B)):Canon hi lo B:=by
 cases B with
 |nil=>trivial
 |cons z B=>obtain⟨_,_,c3,c4,c5,c6⟩:=Cd.1 h;exact⟨c3,c4,c5,c6⟩
theorem QV{l:List Ex}{i:Nat}(h:l.drop i≠[]):i<l.length∧(l.drop i).headD (0,0)=Ae l i:=by
 have hi:i<l.length:=by
  rcases Nat.lt_or_ge i l.length with h1|h1
  ·exact h1
  ·exact absurd (List.drop_eq_nil_of_le h1) h
 refine⟨hi,?_⟩
 rw[List.drop_eq_getElem_cons hi,DN hi];rfl
theorem So{l:List Ex}{i:Nat}{y:Ex}(h:y∈l.take i):∃k,k<i∧k<l.length∧y=Ae l k:=by
 obtain⟨k,hk,rfl⟩:=List.getElem_of_mem h
 have E0:k<i∧k<l.length:=by rw[List.length_take]at hk;omega
 refine⟨k,E0.1,E0.2,?_⟩
 rw[DN E0.2];simp
theorem JI{hi lo:Nat}{l:List Ex}{f n:Nat}(h:Canon hi lo l)(hn:1≤n)(hlo:lo≤f)(Mf:f+n≤hi)(hb:∀b,f≤b→b<f+n→¬hasB l b):
  Canon hi lo (Ck l (BB l f) f n)∧(∀b,hasB (Ck l (BB l f) f n) b↔hasB l b∨(f≤b∧b<f+n))∧Az (Ck l (BB l f) f n)=Az l+n:=by
 have Lk:=(JG h hn).1 hb
 have Oy:∀k,k<BB l f→(Ae l k).1+(Ae l k).2≤f:=fun k hk=>by
  have:=EN (p:=fun x:Ex=>decide (f<x.1+x.2)) hk
  simpa using this
 have hle:BB l f≤l.length:=List.findIdx_le_length
 generalize BB l f=i at*
 have Wh:∀k,Canon hi lo (l.take k):=fun k=>Canon.left (B:=l.drop k) (by rw[List.take_append_drop];exact h)
 have Wi:∀k,Canon hi lo (l.drop k):=fun k=>Canon.tail (A:=l.take k) (by rw[List.take_append_drop];exact h)
 have eT:∀k,l.take k++l.drop k=l:=fun k=>List.take_append_drop k l
 have iB:∀b,hasB l b↔hasB (l.take i) b∨hasB (l.drop i) b:=fun b=>by rw[←A6,eT]
 have fO:Az l=Az (l.take i)+Az (l.drop i):=by rw[←Ao,eT]
 have Lc:∀(hL:GM l i f=true),0<i∧(Ae l (i-1)).1+(Ae l (i-1)).2=f∧l.take i=l.take (i-1)++[Ae l (i-1)]:=fun hL=>by
  simp[GM]at hL
  refine⟨hL.1,hL.2,?_⟩
  obtain⟨j,rfl⟩:∃j,i=j+1:=⟨i-1,by omega⟩
  rw[Nat.add_sub_cancel,List.take_add_one,List.getElem?_eq_getElem (by omega),DN (by omega)];rfl
 have Ln:∀(hL:GM l i f=false),∀y∈l.take i,y.1+y.2+1≤f:=fun hL y hy=>by
  obtain⟨k,hk,WS,rfl⟩:=So hy
  have h1:=Oy k hk
  rcases Nat.lt_or_ge k (i-1)with h2|h2
  ·have:=h.ends h2 (by omega);have:=Oy (i-1) (by omega);have:=(h.getD (show i-1<l.length by omega)).2.1;omega
  ·obtain rfl:k=i-1:=by omega
   simp[GM]at hL
   have:=hL (by omega);omega
 have Rc:∀(hR:CU l i (f+n)=true),i<l.length∧(Ae l i).1=f+n∧l.drop i=Ae l i::l.drop (i+1):=fun hR=>by
  simp[CU]at hR
  refine⟨hR.1,hR.2,?_⟩
  rw[List.drop_eq_getElem_cons hR.1,←DN hR.1]
 have Rn:∀(hR:CU l i (f+n)=false),l.drop i≠[]→f+n+1≤((l.drop i).headD (0,0)).1:=fun hR hd=>by
  obtain⟨h1,h2⟩:=QV hd
  rw[h2]
  have h3:=Lk h1
  simp[CU,h1]at hR
  omega
 have hd:∀(kL:i<l.length),l.drop (i+1)≠[]→(Ae l i).1+(Ae l i).2+1≤((l.drop (i+1)).headD (0,0)).1:=fun kL hne=>by
  obtain⟨h1,h2⟩:=QV hne
  rw[h2];exact h.ends (Nat.lt_succ_self i) h1
 have bP:∀(h0:0<i),∀y∈l.take (i-1),y.1+y.2+1≤(Ae l (i-1)).1:=fun h0 y hy=>by
  obtain⟨k,hk,WS,rfl⟩:=So hy
  exact h.ends hk (by omega)
 unfold Ck
 cases hL:GM l i f<;>cases hR:CU l i (f+n)<;>dsimp only
 ·refine⟨JK (Wh i) (Wi i) (Ln hL) (Rn hR) hlo Mf hn,fun b=>?_,?_⟩
  ·rw[A6,A6,Ba,iB b];have:=Gq b;grind
  ·rw[Ao,Ao,Cb,Gf,fO];simp only;omega
 ·obtain⟨r1,r2,r3⟩:=Rc hR
  have g:=h.getD r1
  have hx:(Ae l i).1+(Ae l i).2=f+(n+(Ae l i).2):=by omega
  refine⟨JK (Wh i) (Wi (i+1)) (Ln hL) (fun hne=>by have:=hd r1 hne;omega) hlo (by omega) (by omega),fun b=>?_,?_⟩
  ·rw[A6,A6,Ba,iB b,r3,Ba]
   have:=Gq b
   have:(f≤b∧b<f+(n+(Ae l i).2))↔((Ae l i).1≤b∧b<(Ae l i).1+(Ae l i).2)∨(f≤b∧b<f+n):=by omega
   grind
  ·rw[Ao,Ao,Cb,Gf,fO,r3,Cb];simp only;omega
 ·obtain⟨l1,l2,l3⟩:=Lc hL
  have g:=h.getD (show i-1<l.length by omega)
  refine⟨JK (Wh (i-1)) (Wi i) (bP l1) (fun hne=>by have:=Rn hR hne;omega) g.1 (by omega) (by omega),fun b=>?_,?_⟩
  ·rw[A6,A6,Ba,iB b,l3,A6,Ba]
   have:=Gq b
   have:((Ae l (i-1)).1≤b∧b<(Ae l (i-1)).1+((Ae l (i-1)).2+n))↔((Ae l (i-1)).1≤b∧b<(Ae l (i-1)).1+(Ae l (i-1)).2)∨(f≤b∧b<f+n):=by omega
   grind
  ·rw[Ao,Ao,Cb,Gf,fO,l3,Ao,Cb,Gf];simp only;omega
 ·obtain⟨l1,l2,l3⟩:=Lc hL
  obtain⟨r1,r2,r3⟩:=Rc hR
  have g:=h.getD (show i-1<l.length by omega)
  have g2:=h.getD r1
  refine⟨JK (Wh (i-1)) (Wi (i+1)) (bP l1) (fun hne=>by have:=hd r1 hne;omega) g.1 (by omega) (by omega),fun b=>?_,?_⟩
  ·rw[A6,A6,Ba,iB b,l3,r3,A6,Ba,Ba]
   have:=Gq b
   have:((Ae l (i-1)).1≤b∧b<(Ae l (i-1)).1+((Ae l (i-1)).2+n+(Ae l i).2))↔(((Ae l (i-1)).1≤b∧b<(Ae l (i-1)).1+(Ae l (i-1)).2)∨((Ae l i).1≤b∧b<(Ae l i).1+(Ae l i).2))∨(f≤b∧b<f+n):=by omega
   grind
  ·rw[Ao,Ao,Cb,Gf,fO,l3,r3,Ao,Cb,Cb,Gf];simp only;omega
structure Sp where
 first:Nat
 blocks:Nat
 fr:List Ex
def Sp.ok(s:Sp):Prop:=s.first≤1000000∧s.blocks≤1000000∧Canon (s.first+s.blocks) s.first s.fr
theorem Sp.ok.len{s:Sp}(h:s.ok):s.fr.length≤1000000:=by have:=h.2.2.length;have:=h.2.1;omega
def Yl(x:Ex):List Value:=[.int .i64 x.1,.int .i64 x.2]
def AE(l:List Ex):List Value:=l.flatMap Yl
theorem Aj(A B:List Ex):AE (A++B)=AE A++AE B:=by simp[AE]
theorem AX(l:List Ex):(AE l).length=l.length*2:=by
 induction l with
 |nil=>rfl
 |cons x l ih=>simp only[AE,List.flatMap_cons,List.length_append]at*;rw[ih];simp[Yl];omega
theorem BI{l:List Ex}:∀u∈AE l,u.oneCell'=true:=by
 intro u hu
 obtain⟨e,_,he⟩:=List.mem_flatMap.1 hu
 simp[Yl]at he
 rcases he with rfl|rfl<;>rfl
theorem Yh(l:List Ex):∀(i:Nat),i<l.length→(AE l)[i*2]?=some (.int .i64 (Ae l i).1)∧(AE l)[i*2+1]?=some (.int .i64 (Ae l i).2):=by
 induction l with
 |nil=>intro i hi;simp at hi
 |cons x l ih=>
  intro i hi
  cases i with
  |zero=>exact⟨rfl,rfl⟩
  |succ i=>
   have h:=ih i (by simpa using hi)
   have e1:(i+1)*2=i*2+2:=by omega
   rw[e1]
   exact⟨h.1,h.2⟩
theorem Db(l:List Ex):∀i:Nat,AE (l.take i)=(AE l).take (i*2):=by
 induction l with
 |nil=>intro i;simp[AE]
 |cons x l ih=>
  intro i
  cases i with
  |zero=>rfl
  |succ i=>
   have e1:(i+1)*2=i*2+2:=by omega
   rw[e1]
   show Yl x++AE (l.take i)=(Yl x++AE l).take (i*2+2)
   rw[ih i];rfl
theorem VJ(l:List Ex):∀i:Nat,AE (l.drop i)=(AE l).drop (i*2):=by
 induction l with
 |nil=>intro i;simp[AE]
 |cons x l ih=>
  intro i
  cases i with
  |zero=>rfl
  |succ i=>
   have e1:(i+1)*2=i*2+2:=by omega
   rw[e1]
   show AE (l.drop i)=(Yl x++AE l).drop (i*2+2)
   rw[ih i];rfl
theorem CZ:∃i,Tryz.prog.info? 80=some i∧i.zero=some (.agg #[.int .i64 0,.int .i64 0])∧i.size=2∧i.bytes=16:=info_parts (by kernel_rfl)
theorem DT:(Tryz.prog.info? 80).map (·.size)=some 2:=by kernel_rfl
theorem VL(w:World):(Go.sizeOf 80).run Tryz.prog w=.ok 2 w:=by
 obtain⟨i,hi,_,hs,_⟩:=CZ
 simp[Go.sizeOf,typeInfo,hi,hs]
theorem Td(w:World):(zeroValue 80).run Tryz.prog w=.ok (.agg #[.int .i64 0,.int .i64 0]) w:=by
 obtain⟨i,hi,hz,_⟩:=CZ
 simp[zeroValue,typeInfo,hi,hz]
structure CN (w:World) (g cap n:Nat) (l:List Ex) (cur:List Value):Prop where
 row:Row w g 80 cur
 size:cur.length=cap*2
 le:n≤cap
 max:cap≤9223372036854775807
 cells:cur.take (n*2)=AE l
 len:l.length=n
theorem GC{w:World}{v:Value}{n:Nat}{l:List Ex}(h:w.ownsRow 0 80 2 v n (AE l)):(v=.slice none 0 0∧n=0∧l=[])∨∃g cap cur,v=.slice (some ⟨g,0,none⟩) n cap∧CN w g cap n l cur:=by
 obtain⟨h1,h2⟩:=h
 rw[AX]at h1
 rcases h2 with⟨rfl,rfl⟩|⟨g,cap,cur,rfl,_,hh,hcap,hm,hs,ht⟩
 ·exact .inl ⟨rfl,rfl,List.eq_nil_of_length_eq_zero (by omega)⟩
 ·exact .inr ⟨g,cap,cur.toList,rfl,hh,by simpa using hs,hcap,hm,ht,by omega⟩
section
variable {w : World} {g cap n : Nat} {l : List Ex} {cur : List Value}
theorem CN.own(h:CN w g cap n l cur):w.ownsRow 0 80 2 (.slice (some ⟨g,0,none⟩) n cap) n (AE l):=
 ⟨by rw[AX,h.len],.inr ⟨g,cap,cur.toArray,rfl,Nat.zero_le _,h.row,h.le,h.max,by simpa using h.size,by simpa using h.cells⟩⟩
theorem CN.get(h:CN w g cap n l cur){k:Nat}(hk:k<n*2):cur[k]?=(AE l)[k]?:=by
 rw[←h.cells,List.getElem?_take,if_pos hk]
theorem CN.at_(h:CN w g cap n l cur){i:Nat}(hi:i<n):w.cell? ⟨g,i*2,none⟩=some (.int .i64 (Ae l i).1)∧w.cell? ⟨g,i*2+1,none⟩=some (.int .i64 (Ae l i).2):=by
 have h1:=Yh l i (by rw[h.len];exact hi)
 rw[h.row.cell,h.row.cell,h.get (by omega),h.get (by omega)]
 exact h1
theorem CN.shape(h:CN w g cap n l cur):w.shape? g=some (80,cap*2):=by
 have:=h.row;unfold Row at this
 simp[World.shape?,this,h.size]
theorem CN.src(h:CN w g cap n l cur)(i:Nat):∀j v,(AE (l.drop i))[j]?=some v→cur[i*2+j]?=some v:=by
 intro j v hj
 rw[VJ,List.getElem?_drop]at hj
 have hlt:i*2+j<n*2:=by
  rcases Nat.lt_or_ge (i*2+j) (AE l).length with h1|h1
  ·rw[AX,h.len]at h1;exact h1
  ·rw[List.getElem?_eq_none h1]at hj;cases hj
 rw[h.get hlt];exact hj
end
def Et(w:World)(v:Value)(l:List Ex)(e:Ending)(w':World):Prop:=
 ∃v',e=.returned v'∧w'.ownsRow 0 80 2 v' l.length (AE l)∧AL (fun k=>v.ownBlock=some k) w w'∧∀k,v'.ownBlock=some k→v.ownBlock=some k∨w.heap.size≤k
theorem CN.oD{w w':World}{v:Value}{g cap n:Nat}{l:List Ex}{cur:List Value}(h:CN w' g cap n l cur)(hf:AL (fun k=>v.ownBlock=some k) w w')(hg:v.ownBlock=some g∨w.heap.size≤g):Et w v l (.returned (.slice (some ⟨g,0,none⟩) n cap)) w':=by
 have e:=h.len;subst e
 exact⟨_,rfl,h.own,hf,fun k hk=>by injection hk with hk;subst hk;exact hg⟩
theorem Nk(w:World)(a b:Addr)(la ca lb cb:Nat)(hne:a.block≠b.block)(tA tB:TypeId)(kA kB:Nat)(hsa:w.shape? a.block=some (tA,kA))(Li:w.shape? b.block=some (tB,kB))(hkB:kB≠0)
  (vv:w.frozen? a=false) (hfe:w.frozen? {block:=a.block,off:=kA}=false):(callFunc 124 #[.slice (some a) la ca,.slice (some b) lb cb]).run Tryz.prog w=.ok (.value (.bool false)) w:=by
 rw[run_callFunc_extern Tryz.func124 (by kernel_rfl) (by kernel_rfl) (by kernel_rfl) (e:=Extern.SlicesOverlaps.overlaps #[81,81] #[4]) (by kernel_rfl),
  Lib.run_overlaps_apart w 81 4 80 Tryz.underlying81 2 VL a b la ca lb cb hne tA tB kA kB hsa Li hkB vv hfe]
 rfl
theorem RM(w:World){g cap n gv cv m i:Nat}{l M:List Ex}{cur VN:List Value}(h:CN w g cap n l cur)(hv:CN w gv cv m M VN)(hne:gv≠g)(hi:i<n)(hm:0<m)(hroom:n+m≤cap)(IU:n+m≤4000000):
  Calls Tryz.prog 123 #[.slice (some ⟨g,0,none⟩) n cap,.int .i64 i,.slice (some ⟨gv,0,none⟩) m cv] w (Et w (.slice (some ⟨g,0,none⟩) n cap) (l.take i++M++l.drop i)):=by
 obtain⟨i0,B7,_,hz,_⟩:=CZ
 obtain⟨R,hR⟩:∃R,R=l.take i++M++l.drop i:=⟨_,rfl⟩
 rw[←hR]
 obtain⟨tot,GR⟩:∃t:Nat,t=n+m:=⟨_,rfl⟩
 obtain⟨im,U5⟩:∃t:Nat,t=i+m:=⟨_,rfl⟩
 have hcap:=h.max
 have hlen:=h.len
 have IL:=hv.len
 have hsz:=h.size
 have QA:(n:Int)+(m:Int)=(tot:Int):=by omega
 have OC:(i:Int)+(m:Int)=(im:Int):=by omega
 have Ou:IntKind.i64.wrap (tot:Int)=(tot:Int):=IntWalk.i64_in _ (by omega)
 have Ek:IntKind.i64.wrap (im:Int)=(im:Int):=IntWalk.i64_in _ (by omega)
 have Em:¬((m:Int)=0):=by omega
 have CP:¬((i:Int)=(n:Int)):=by omega
 have D7:decide ((tot:Int)>(cap:Int))=false:=by simp;omega
 have EK:=fun w' k=>BV (P:=Tryz.prog) w' 81 80 i0 Tryz.underlying81 B7 hz (some ⟨g,0,none⟩) n cap i (by omega) k (i:Int) rfl
 have El:=fun w' k=>CK (P:=Tryz.prog) w' 81 80 i0 Tryz.underlying81 B7 (some ⟨g,0,none⟩) n cap tot (by omega) k (tot:Int) rfl
 have Mw:=fun w' k=>BV (P:=Tryz.prog) w' 81 80 i0 Tryz.underlying81 B7 hz (some ⟨g,0,none⟩) tot cap im (by omega) k (im:Int) rfl
 have TH:=fun w' k=>BV (P:=Tryz.prog) w' 81 80 i0 Tryz.underlying81 B7 hz (some ⟨g,0,none⟩) tot cap i (by omega) k (i:Int) rfl
 have xy:=BU (g:=g) (off:=0) (i:=im) (cap:=cap) (sz:=2) (by omega)
 have Uu:=BU (g:=g) (off:=0) (i:=i) (cap:=cap) (sz:=2) (by omega)
 rw[Nat.zero_add]at xy Uu
 rw[xy]at Mw
 rw[Uu]at TH EK
 have Ja:∀lb cb,(callFunc 124 #[.slice (some ⟨gv,0,none⟩) m cv,.slice (some ⟨g,im*2,none⟩) lb cb]).run Tryz.prog w=.ok (.value (.bool false)) w:=fun lb cb=>
  Nk w ⟨gv,0,none⟩ ⟨g,im*2,none⟩ m cv lb cb hne _ _ _ _ hv.shape h.shape (by omega) (hv.row.free 0) (hv.row.free _)
 have Hh:(AE (l.drop i)).length=Nat.min (tot-i) (tot-im)*2:=by rw[AX,List.length_drop,hlen,GR,U5];simp only[Nat.min_def];split<;>omega
 have Lr:∀j v,(AE (l.drop i))[j]?=some v→w.drew.cell? ((⟨g,i*2,none⟩:Addr).add j)=some v:=fun j v hj=>by
  rw[Addr.add_lit];exact(h.row.cell _).trans (h.src i j v hj)
 have zG:im*2+(AE (l.drop i)).length≤cur.length:=by rw[AX,List.length_drop,hlen,hsz,U5];omega
 have C1:=Lib.hid Hh
 have C2:=Lib.hid Lr
 have C3:=Lib.hid zG
 clear Hh Lr zG
 have U9:(AE M).length=Nat.min m (tot-i)*2:=by rw[AX,IL,GR];simp only[Nat.min_def];split<;>omega
 have s9:∀j v,(AE M)[j]?=some v→w.cell? ((⟨gv,0,none⟩:Addr).add j)=some v:=fun j v hj=>by
  rw[Addr.add_lit,Nat.zero_add,hv.row.cell];have:=hv.src 0 j v (by simpa using hj);simpa using this
 have YX:i*2+(AE M).length≤(splice cur (im*2) (AE (l.drop i))).length:=by rw[AS _ _ _ C3.out,AX,IL,hsz];omega
 have kU:((splice (splice cur (im*2) (AE (l.drop i))) (i*2) (AE M)).take (tot*2))=AE R:=by
  rw[JV cur (AE M) (AE (l.drop i)) (i*2) (im*2) (tot*2) (by rw[AX,IL];omega) (by rw[AX,List.length_drop,hlen];omega) (by rw[hsz];omega),hR,Aj,Aj,Db,←h.cells,List.take_take,Nat.min_eq_left (by omega)]
 have hc8:(splice (splice cur (im*2) (AE (l.drop i))) (i*2) (AE M)).length=cap*2:=by rw[AS _ _ _ YX,AS _ _ _ C3.out,hsz]
 have sy:R.length=tot:=by rw[hR,List.length_append,List.length_append,List.length_take,List.length_drop,hlen,IL];omega
 have C4:=Lib.hid U9
 have C5:=Lib.hid s9
 have C6:=Lib.hid YX
 have C7:=Lib.hid kU
 have C8:=Lib.hid hc8
 have C9:=Lib.hid sy
 have HCT:Hid (tot≤cap):=by unfold Hid;omega
 clear U9 s9 YX kU hc8 sy hR
 have H:=Lib.hid h
 have HV:=Lib.hid hv
 have HT:=Lib.hid GR
 have HI:=Lib.hid U5
 have HL:=Lib.hid hlen
 have HLV:=Lib.hid IL
 have HS:=Lib.hid hsz
 clear h hv GR U5 hlen IL hsz xy Uu hz B7
 go_enter Tryz.func123,Tryz.ntmps123
 go_wp2_with (simp only[Ja])
 go_region_law (refine Cs rfl _ _ 81 81 rfl 80 Tryz.underlying81 DT (by decide) (some ⟨g,im*2,none⟩) (some ⟨g,i*2,none⟩) (tot-im) (cap-im) (tot-i) (cap-i) (by simp[Act.eval,Act.put]) (by simp[Act.eval,Act.put]) g (im*2) cur 80 H.out.row (AE (l.drop i)) C1.out (fun _=>⟨rfl,_,rfl,C2.out⟩) C3.out BI ?_;intro w2 Av Di)
 have ay:=Di.out.row (w:=w.drew) HV.out.row hne
 have HV2:=Lib.hid ay
 clear ay
 have c5:∀j v,(AE M)[j]?=some v→w2.cell? ((⟨gv,0,none⟩:Addr).add j)=some v:=fun j v hj=>by
  have h5:=C5.out j v hj
  rw[Addr.add_lit]at h5⊢
  rw[HV2.out.cell,←HV.out.row.cell];exact h5
 have vU:=Lib.hid c5
 clear c5
 go_wp2_with (with_reducible refine BN 82 ?_)
 unfold Hid
 refine BY rfl _ _ 81 81 rfl 80 Tryz.underlying81 DT (by decide) (some ⟨g,i*2,none⟩) (some ⟨gv,0,none⟩) (tot-i) (cap-i) m cv rfl rfl g (i*2) _ 80 Av.out (AE M) C4.out (fun _=>⟨rfl,_,rfl,vU.out⟩) C6.out BI ?_
 intro w3 Cn Kr
 go_wp2
 go_ret
 have own:CN w3 g cap tot R _:=⟨Cn.out,C8.out,HCT.out,hcap,C7.out,C9.out⟩
 exact own.oD ((AL.drew (AL.refl _ w)).trans (Di.out.trans Kr.out fun b hb=>.inl hb) fun b hb=>.inl (by rw[hb];rfl)) (.inl rfl)
theorem S7(w:World){g cap n gv cv m i:Nat}{l M:List Ex}{cur VN:List Value}(h:CN w g cap n l cur)(hv:CN w gv cv m M VN)(hi:i<n)(hm:0<m)(hroom:cap<n+m)(IU:n+m≤4000000):
  Calls Tryz.prog 123 #[.slice (some ⟨g,0,none⟩) n cap,.int .i64 i,.slice (some ⟨gv,0,none⟩) m cv] w (Et w (.slice (some ⟨g,0,none⟩) n cap) (l.take i++M++l.drop i)):=by
 obtain⟨i0,B7,By,hz,TF⟩:=CZ
 obtain⟨R,hR⟩:∃R,R=l.take i++M++l.drop i:=⟨_,rfl⟩
 rw[←hR]
 obtain⟨tot,GR⟩:∃t:Nat,t=n+m:=⟨_,rfl⟩
 obtain⟨im,U5⟩:∃t:Nat,t=i+m:=⟨_,rfl⟩
 obtain⟨q,hq⟩:∃t:Nat,t=tot-i:=⟨_,rfl⟩
 have hcap:=h.max
 have hnc:=h.le
 have hlen:=h.len
 have IL:=hv.len
 have hsz:=h.size
 have QA:(n:Int)+(m:Int)=(tot:Int):=by omega
 have OC:(i:Int)+(m:Int)=(im:Int):=by omega
 have Fc:(tot:Int)-(i:Int)=(q:Int):=by omega
 have Ou:IntKind.i64.wrap (tot:Int)=(tot:Int):=IntWalk.i64_in _ (by omega)
 have Ek:IntKind.i64.wrap (im:Int)=(im:Int):=IntWalk.i64_in _ (by omega)
 have eD:IntKind.i64.wrap (q:Int)=(q:Int):=IntWalk.i64_in _ (by omega)
 have Em:¬((m:Int)=0):=by omega
 have CP:¬((i:Int)=(n:Int)):=by omega
 have D7:decide ((tot:Int)>(cap:Int))=true:=by simp;omega
 have EK:=fun w' k=>BV (P:=Tryz.prog) w' 81 80 i0 Tryz.underlying81 B7 hz (some ⟨g,0,none⟩) n cap i (by omega) k (i:Int) rfl
 have El:=fun w' k=>CK (P:=Tryz.prog) w' 81 80 i0 Tryz.underlying81 B7 (some ⟨g,0,none⟩) n cap i (by omega) k (i:Int) rfl
 have Mw:=fun b C w' k=>BV (P:=Tryz.prog) w' 81 80 i0 Tryz.underlying81 B7 hz (some ⟨b,0,none⟩) tot C im (by omega) k (im:Int) rfl
 have TH:=fun b C w' k=>BV (P:=Tryz.prog) w' 81 80 i0 Tryz.underlying81 B7 hz (some ⟨b,0,none⟩) tot C i (by omega) k (i:Int) rfl
 have Uu:=BU (g:=g) (off:=0) (i:=i) (cap:=cap) (sz:=2) (by omega)
 rw[Nat.zero_add]at Uu
 rw[Uu]at EK
 have IM:∀j v,(AE (l.take i))[j]?=some v→w.cell? ((⟨g,0,none⟩:Addr).add j)=some v:=fun j v hj=>by
  rw[Addr.add_lit,Nat.zero_add,h.row.cell]
  have h1:=h.src 0 j v (by
   rw[List.drop_zero]
   rw[Db,List.getElem?_take]at hj
   split at hj
   ·exact hj
   ·cases hj)
  simpa using h1
 have Hh:(AE (l.drop i)).length=Nat.min (n-i) (tot-im)*2:=by rw[AX,List.length_drop,hlen,GR,U5];simp only[Nat.min_def];split<;>omega
 have Lr:∀j v,(AE (l.drop i))[j]?=some v→w.cell? ((⟨g,i*2,none⟩:Addr).add j)=some v:=fun j v hj=>by
  rw[Addr.add_lit];exact(h.row.cell _).trans (h.src i j v hj)
 have U9:(AE M).length=Nat.min m (tot-i)*2:=by rw[AX,IL,GR];simp only[Nat.min_def];split<;>omega
 have s9:∀j v,(AE M)[j]?=some v→w.cell? ((⟨gv,0,none⟩:Addr).add j)=some v:=fun j v hj=>by
  rw[Addr.add_lit,Nat.zero_add,hv.row.cell];have:=hv.src 0 j v (by simpa using hj);simpa using this
 have YX:∀C (c0:List Value),tot≤C→c0.length=C*2→i*2+(AE M).length≤c0.length∧im*2+(AE (l.drop i)).length≤(splice c0 (i*2) (AE M)).length:=fun C c0 h1 h2=>by
  have h3:i*2+(AE M).length≤c0.length:=by rw[AX,IL,h2];omega
  exact⟨h3,by rw[AS _ _ _ h3,AX,List.length_drop,hlen,h2];omega⟩
 have kU:∀C (c0:List Value),tot≤C→C≤maxLen→c0.length=C*2→c0.take (i*2)=AE (l.take i)→∀b (W:World),Row W b 80 (splice (splice c0 (i*2) (AE M)) (im*2) (AE (l.drop i)))→CN W b C tot R (splice (splice c0 (i*2) (AE M)) (im*2) (AE (l.drop i))):=fun C c0 h1 hm h2 h3 b W hr=>by
  refine⟨hr,?_,h1,by unfold maxLen at hm;omega,?_,?_⟩
  ·rw[AS _ _ _ (YX C c0 h1 h2).2,AS _ _ _ (YX C c0 h1 h2).1,h2]
  ·rw[E7 c0 (AE M) (AE (l.drop i)) (i*2) (im*2) (tot*2) (by rw[AX,IL];omega) (by rw[AX,List.length_drop,hlen];omega) (by rw[h2];omega),h3,hR,Aj,Aj]
  ·rw[hR,List.length_append,List.length_append,List.length_take,List.length_drop,hlen,IL];omega
 have bB:(AE (l.take i)).length=i*2:=by rw[AX,List.length_take,hlen];omega
 have C0:=Lib.hid IM
 have C1:=Lib.hid Hh
 have C2:=Lib.hid Lr
 have C4:=Lib.hid U9
 have C5:=Lib.hid s9
 have C6:=Lib.hid YX
 have C7:=Lib.hid kU
 have CT:=Lib.hid bB
 have CI:Hid (i<im∧im<tot∧i+q=tot∧0<q):=by unfold Hid;omega
 have H:=Lib.hid h
 have HV:=Lib.hid hv
 have W0:=Lib.hid B7
 have qC:=h.row.lt
 have hvl:=hv.row.lt
 clear IM Hh Lr U9 s9 YX kU bB hR h hv GR U5 hlen IL hsz Uu hq
 go_enter Tryz.func123,Tryz.ntmps123
 go_wp2_with (with_reducible refine BN 40 ?_)
 unfold Hid
 refine DR rfl _ _ 81 3 rfl 80 i0 _ .i64 .i64 Tryz.underlying81 Tryz.underlying3 W0.out By hz (by decide) TF rfl (some ⟨g,0,none⟩) i cap rfl (AE (l.take i)) CT.out (fun e=>by cases e) (fun ad e=>by injection e with e;subst e;exact C0.out) q (q:Int) rfl rfl CI.out.2.2.2 (by have:=CI.out;omega) (by unfold maxLen;have:=CI.out;omega) (by have:=CI.out;omega) ?_
 rw[CI.out.2.2.1]
 intro w2 C c0 tO tN IM hct Av m8 AZ
 have ME:=BU (g:=w.heap.size) (off:=0) (i:=im) (cap:=C) (sz:=2) (by have:=CI.out;omega)
 have eE:=BU (g:=w.heap.size) (off:=0) (i:=i) (cap:=C) (sz:=2) (by have:=CI.out;omega)
 rw[Nat.zero_add]at ME eE
 have yE:=Mw w.heap.size C
 have yD:=TH w.heap.size C
 rw[ME]at yE
 rw[eE]at yD
 have D0:=Lib.hid (tO)
 have D1:=Lib.hid tN
 have D2:=Lib.hid IM
 have D3:=Lib.hid hct
 have D4:=Lib.hid Av
 have D6:=Lib.hid AZ
 have c5:∀j v,(AE M)[j]?=some v→w2.cell? ((⟨gv,0,none⟩:Addr).add j)=some v:=fun j v hj=>by
  rw[AZ.cell (by rw[Addr.add_lit];exact hvl)];exact C5.out j v hj
 have vU:=Lib.hid c5
 have c2:∀j v,(AE (l.drop i))[j]?=some v→w2.cell? ((⟨g,i*2,none⟩:Addr).add j)=some v:=fun j v hj=>by
  rw[AZ.cell (by rw[Addr.add_lit];exact qC)];exact C2.out j v hj
 have C2':=Lib.hid c2
 clear tO tN IM hct Av AZ c5 c2 ME eE Mw TH m8
 go_wp2_with (with_reducible refine BN 45 ?_)
 unfold Hid
 refine BY rfl _ _ 81 81 rfl 80 Tryz.underlying81 DT (by decide) (some ⟨w.heap.size,i*2,none⟩) (some ⟨gv,0,none⟩) (tot-i) (C-i) m cv rfl rfl w.heap.size (i*2) _ 80 D4.out (AE M) C4.out (fun _=>⟨rfl,_,rfl,vU.out⟩) (C6.out C c0 D0.out D2.out).1 BI ?_
 intro w3 Cn Kr
 have c2:∀j v,(AE (l.drop i))[j]?=some v→w3.drew.cell? ((⟨g,i*2,none⟩:Addr).add j)=some v:=fun j v hj=>by
  have h5:=C2'.out j v hj
  rw[Addr.add_lit]at h5⊢
  exact(World.cell?_of_block (Kr.out.block g (by have:=D6.out.size;omega) (by omega))).trans h5
 have pU:=Lib.hid c2
 clear c2
 go_wp2
 go_region_law (refine Cs rfl _ _ 81 81 rfl 80 Tryz.underlying81 DT (by decide) (some ⟨w.heap.size,im*2,none⟩) (some ⟨g,i*2,none⟩) (tot-im) (C-im) (n-i) (cap-i) (by simp[Act.eval,Act.put]) (by simp[Act.eval,Act.put]) w.heap.size (im*2) _ 80 Cn.out (AE (l.drop i)) C1.out (fun _=>⟨rfl,_,rfl,pU.out⟩) (C6.out C c0 D0.out D2.out).2 BI ?_;intro w4 FH Mi)
 go_wp2
 go_ret
 have own:=C7.out C c0 D0.out D1.out D2.out D3.out _ _ FH.out
 exact own.oD ((AL.AJ D6.out _).trans ((Kr.out.drew).trans Mi.out fun b hb=>.inl hb) fun b hb=>.inr (by omega)) (.inr (Nat.le_refl _))
theorem AT{w:World}{v:Value}{n:Nat}{l:List Ex}(h:w.ownsRow 0 80 2 v n (AE l)):∃A c,v=.slice A n c∧n≤c∧c≤9223372036854775807∧l.length=n:=by
 rcases GC h with⟨rfl,rfl,rfl⟩|⟨g,cap,cur,rfl,h1⟩
 ·exact⟨none,0,rfl,Nat.le_refl _,by omega,rfl⟩
 ·exact⟨_,_,rfl,h1.le,h1.max,h1.len⟩
theorem Gj{w:World}{A:Option Addr}{m c:Nat}{M:List Ex}(h:w.ownsRow 0 80 2 (.slice A m c) m (AE M))(hm:0<m):∃ad,A=some ad∧∀j v,(AE M)[j]?=some v→w.cell? (ad.add j)=some v:=by
 rcases GC h with⟨_,h0,_⟩|⟨g,cap,cur,e,h1⟩
 ·omega
 ·injection e with e1 e2 e3
  subst e1
  refine⟨_,rfl,fun j v hj=>?_⟩
  rw[Addr.add_lit,Nat.zero_add,h1.row.cell]
  have:=h1.src 0 j v (by simpa using hj);simpa using this
theorem cK{w w':World}{v v':Value}{n:Nat}{l:List Ex}(h:w'.ownsRow 0 80 2 v' n (AE l))(hf:AL (fun k=>v.ownBlock=some k) w w')(hg:v'.ownBlock=v.ownBlock∨v'.ownBlock=some w.heap.size):Et w v l (.returned v') w':=by
 obtain⟨A,c,rfl,_,_,hl⟩:=AT h
 subst hl
 refine⟨_,rfl,h,hf,fun k hk=>?_⟩
 rcases hg with hg|hg
 ·exact .inl (hg▸hk)
 ·rw[hg]at hk;injection hk with hk;exact .inr (by omega)
theorem Un(w:World){v u:Value}{n m:Nat}{l M:List Ex}(h:w.ownsRow 0 80 2 v n (AE l))(hv:w.ownsRow 0 80 2 u m (AE M))(hm:0<m)(IU:n+m≤4000000):
  Calls Tryz.prog 123 #[v,.int .i64 n,u] w (Et w v (l++M)):=by
 obtain⟨i0,B7,By,hz,TF⟩:=CZ
 obtain⟨R,hR⟩:∃R,R=l++M:=⟨_,rfl⟩
 rw[←hR]
 have hx:w.ownsRow 0 80 2 v n (AE l):=h
 obtain⟨A,c,rfl,hnc,Dn,hl⟩:=AT h
 obtain⟨B,d,rfl,hmd,qH,Me⟩:=AT hv
 obtain⟨ad,rfl,B4⟩:=Gj hv hm
 have Em:¬((m:Int)=0):=by omega
 have EK:=fun w' k=>BV (P:=Tryz.prog) w' 81 80 i0 Tryz.underlying81 B7 hz A n c n (Nat.le_refl _) k (n:Int) rfl
 have EM:(AE M).length=m*2:=by rw[AX,Me]
 have HX:=Lib.hid hx
 have HS:=Lib.hid B4
 have HF:=Lib.hid EM
 have HR:=Lib.hid hR
 have W0:=Lib.hid B7
 clear h hv hx B4 hR EM hl Me B7
 go_enter Tryz.func123,Tryz.ntmps123
 go_wp2_with (with_reducible refine BN 25 ?_)
 unfold Hid
 refine wpList_append_own_at w rfl _ _ 81 rfl 0 80 i0 _ 2 16 Tryz.underlying81 W0.out By hz TF rfl (by decide) _ n (AE l) rfl HX.out ad m d (AE M) rfl HF.out HS.out BI (by unfold maxLen;omega) (by omega) (Nat.zero_le _) ?_
 intro v' w' ho Gp _ Bp
 have HO:=Lib.hid ho
 have HG:=Lib.hid Gp
 have HA:=Lib.hid Bp
 obtain⟨A',c',rfl,_,_⟩:∃A' c',v'=.slice A' (n+m) c'∧n+m≤c'∧c'≤9223372036854775807:=by
  rw[←Aj]at ho
  obtain⟨A',c',h1,h2,h3,_⟩:=AT ho
  exact⟨A',c',h1,h2,h3⟩
 clear ho Gp Bp
 go_wp2
 go_ret
 have ho:=HO.out
 rw[←Aj,←HR.out]at ho
 exact cK ho ((AL.refl _ w).grown HG.out fun k hk=>.inl hk) HA.out
theorem Uo(w:World){v u:Value}{n m i:Nat}{l M:List Ex}(h:w.ownsRow 0 80 2 v n (AE l))(hv:w.ownsRow 0 80 2 u m (AE M))(hne:∀k,v.ownBlock=some k→u.ownBlock≠some k)(hi:i≤n)(hm:0<m)(IU:n+m≤4000000):
  Calls Tryz.prog 123 #[v,.int .i64 i,u] w (Et w v (l.take i++M++l.drop i)):=by
 have hl:l.length=n:=by obtain⟨_,_,_,_,_,h1⟩:=AT h;exact h1
 by_cases e:i=n
 ·subst e
  have:=Un w h hv hm IU
  rw[List.take_of_length_le (by omega),List.drop_of_length_le (by omega),List.append_nil]
  exact this
 ·rcases GC h with⟨_,h0,_⟩|⟨g,cap,cur,rfl,h1⟩
  ·omega
  ·rcases GC hv with⟨_,h0,_⟩|⟨gv,cv,VN,rfl,h2⟩
   ·omega
   ·have nH:gv≠g:=fun e=>hne g rfl (by rw[e];rfl)
    rcases Nat.lt_or_ge cap (n+m)with h3|h3
    ·exact S7 w h1 h2 (by omega) hm h3 IU
    ·exact RM w h1 h2 nH (by omega) hm h3 IU
theorem Q9(w:World){v u:Value}{n m i:Nat}{l M:List Ex}(h:w.ownsRow 0 80 2 v n (AE l))(hv:w.ownsRow 0 80 2 u m (AE M))(hne:∀k,v.ownBlock=some k→u.ownBlock≠some k)(hi:i≤n)(hm:0<m)(IU:n+m≤4000000):
  Calls Tryz.prog 110 #[v,.int .i64 i,.int .i64 i,u] w (Et w v (l.take i++M++l.drop i)):=by
 obtain⟨i0,B7,By,hz,TF⟩:=CZ
 have nR:=Uo w h hv hne hi hm IU
 obtain⟨R,hR⟩:∃R,R=l.take i++M++l.drop i:=⟨_,rfl⟩
 rw[←hR]at nR⊢
 obtain⟨A,c,rfl,hnc,Dn,hl⟩:=AT h
 obtain⟨B,d,rfl,hmd,qH,Me⟩:=AT hv
 have EK:=fun w' k k'=>GA (P:=Tryz.prog) w' 81 80 i0 Tryz.underlying81 B7 hz A n c i i (Nat.le_refl _) (by omega) k k' (i:Int) (i:Int) rfl rfl
 have AB6:=Lib.hid nR
 clear h hv hR hl Me B7 nR
 go_enter Tryz.func110,Tryz.ntmps110
 go_wp2_with fail
 refine AB6.out.mono ?_
 rintro e w2 ⟨v',rfl,ho,hf,hk⟩
 obtain⟨A',c',rfl,_,_,_⟩:=AT ho
 have HG:Hid (Et w (.slice A n c) R (.returned (.slice A' R.length c')) w2):=⟨_,rfl,ho,hf,hk⟩
 clear ho hf hk
 go_wp2
 go_ret
 exact HG.out
theorem LZ(w:World){g cap n m d i:Nat}{l M:List Ex}{cur:List Value}{B:Option Addr}(h:CN w g cap n l cur)(hv:w.ownsRow 0 80 2 (.slice B m d) m (AE M))(hi:i<n)(hroom:i+m≤cap):
  Calls Tryz.prog 110 #[.slice (some ⟨g,0,none⟩) n cap,.int .i64 i,.int .i64 n,.slice B m d] w (Et w (.slice (some ⟨g,0,none⟩) n cap) (l.take i++M)):=by
 obtain⟨i0,B7,By,hz,TF⟩:=CZ
 obtain⟨R,hR⟩:∃R,R=l.take i++M:=⟨_,rfl⟩
 rw[←hR]
 obtain⟨tot,GR⟩:∃t:Nat,t=i+m:=⟨_,rfl⟩
 have hcap:=h.max
 have hnc:=h.le
 have hlen:=h.len
 have hsz:=h.size
 have Me:M.length=m:=by obtain⟨_,_,_,_,_,h1⟩:=AT hv;exact h1
 have EM:(AE M).length=m*2:=by rw[AX,Me]
 have Em:¬((i:Int)=(n:Int)):=by omega
 have EK:=fun w' k k'=>GA (P:=Tryz.prog) w' 81 80 i0 Tryz.underlying81 B7 hz (some ⟨g,0,none⟩) n cap i n (by omega) (by omega) k k' (i:Int) (n:Int) rfl rfl
 have El:=fun w' k=>CK (P:=Tryz.prog) w' 81 80 i0 Tryz.underlying81 B7 (some ⟨g,0,none⟩) n cap i (by omega) k (i:Int) rfl
 have hfit:i*2+(AE M).length≤cur.length:=by rw[EM,hsz];omega
 have Ap:∀(W:World) (c1:List Value),Row W g 80 c1→c1.length=(splice cur (i*2) (AE M)).length→c1.take (tot*2)=(splice cur (i*2) (AE M)).take (tot*2)→CN W g cap tot R c1:=fun W c1 h1 h2 h3=>by
  refine⟨h1,by rw[h2,AS _ _ _ hfit,hsz],by omega,hcap,?_,by rw[hR,List.length_append,List.length_take,hlen,Me];omega⟩
  rw[h3,hR,Aj,Db,←h.cells,List.take_take,Nat.min_eq_left (by omega)]
  unfold splice
  rw[←List.append_assoc,List.take_append_of_le_length (by rw[List.length_append,List.length_take,EM];omega)]
  exact List.take_of_length_le (by rw[List.length_append,List.length_take,EM];omega)
 have HO:=Lib.hid Ap
 have L3:Hid (0<m→∃ad,B=some ad∧∀j v,(AE M)[j]?=some v→w.cell? (ad.add j)=some v):=Gj hv
 have lQ:=Lib.hid EM
 have Tr:=Lib.hid hfit
 have H:=Lib.hid h
 have W0:=Lib.hid B7
 have HT:=Lib.hid GR
 have iy:Hid ((splice cur (i*2) (AE M)).length=cap*2):=(AS _ _ _ hfit).trans hsz
 by_cases hlt:tot<n
 ·have CP:decide ((tot:Int)<(n:Int))=true:=by simp;omega
  have D7:decide (tot<n)=true:=by simp;omega
  have Mw:=fun w' k=>BV (P:=Tryz.prog) w' 81 80 i0 Tryz.underlying81 B7 hz (some ⟨g,0,none⟩) n cap tot (by omega) k (tot:Int) rfl
  have ME:=BU (g:=g) (off:=0) (i:=tot) (cap:=cap) (sz:=2) (by omega)
  rw[Nat.zero_add]at ME
  rw[ME]at Mw
  clear Ap hsz hlen Me EM hR B7 h hv hfit ME GR
  go_enter Tryz.func110,Tryz.ntmps110
  go_wp2_with (with_reducible refine BN 34 ?_)
  unfold Hid
  refine Dt rfl _ _ 81 rfl 80 i0 Tryz.underlying81 W0.out hz g i cap rfl cur H.out.row B m d rfl (AE M) lQ.out L3.out BI hroom Tr.out ?_
  rw[←HT.out]
  intro w2 Av Di
  go_wp2_with (with_reducible refine Pe ?_)
  unfold Hid
  refine Fz rfl _ 81 rfl 80 _ (sz:=2) Tryz.underlying81 Td rfl (by decide) (some ⟨g,tot*2,none⟩) (n-tot) (cap-tot) rfl g (tot*2) _ 80 Av.out (fun _=>rfl) (by have:=iy.out;omega) ?_
  intro w3 c3 Cn hl3 ME Kr
  have Vf:=Lib.hid (HO.out w3 c3 Cn hl3 ME)
  have HF:=Lib.hid (Di.out.trans Kr fun b hb=>.inl hb)
  clear Cn hl3 ME Kr Av Di
  go_wp2
  go_ret
  exact Vf.out.oD (HF.out.mono fun b hb=>by rw[hb];rfl) (.inl rfl)
 ·have CP:decide ((tot:Int)<(n:Int))=false:=by simp;omega
  have D7:decide (tot<n)=false:=by simp;omega
  clear Ap hsz hlen Me EM hR B7 h hv hfit GR
  go_enter Tryz.func110,Tryz.ntmps110
  go_wp2_with (with_reducible refine BN 34 ?_)
  unfold Hid
  refine Dt rfl _ _ 81 rfl 80 i0 Tryz.underlying81 W0.out hz g i cap rfl cur H.out.row B m d rfl (AE M) lQ.out L3.out BI hroom Tr.out ?_
  rw[←HT.out]
  intro w2 Av Di
  go_wp2
  go_ret
  exact(HO.out w2 _ Av.out rfl rfl).oD (Di.out.mono fun b hb=>by rw[hb];rfl) (.inl rfl)
theorem La(w:World){g cap n m d i:Nat}{l M:List Ex}{cur:List Value}{B:Option Addr}(h:CN w g cap n l cur)(hv:w.ownsRow 0 80 2 (.slice B m d) m (AE M))(hi:i<n)(hroom:cap<i+m)(IU:n+m≤4000000):
  Calls Tryz.prog 110 #[.slice (some ⟨g,0,none⟩) n cap,.int .i64 i,.int .i64 n,.slice B m d] w (Et w (.slice (some ⟨g,0,none⟩) n cap) (l.take i++M)):=by
 obtain⟨i0,B7,By,hz,TF⟩:=CZ
 obtain⟨R,hR⟩:∃R,R=l.take i++M:=⟨_,rfl⟩
 rw[←hR]
 obtain⟨tot,GR⟩:∃t:Nat,t=i+m:=⟨_,rfl⟩
 have hcap:=h.max
 have hnc:=h.le
 have Me:M.length=m:=by obtain⟨_,_,_,_,_,h1⟩:=AT hv;exact h1
 have EM:(AE M).length=m*2:=by rw[AX,Me]
 have Em:¬((i:Int)=(n:Int)):=by omega
 have CP:decide ((tot:Int)<(n:Int))=false:=by simp;omega
 have D7:decide (tot<n)=false:=by simp;omega
 have EK:=fun w' k k'=>GA (P:=Tryz.prog) w' 81 80 i0 Tryz.underlying81 B7 hz (some ⟨g,0,none⟩) n cap i n (by omega) (by omega) k k' (i:Int) (n:Int) rfl rfl
 have El:=fun w' k=>CK (P:=Tryz.prog) w' 81 80 i0 Tryz.underlying81 B7 (some ⟨g,0,none⟩) n cap i (by omega) k (i:Int) rfl
 obtain⟨ad,rfl,B4⟩:=Gj hv (by omega)
 have bP:CN w g cap i (l.take i) cur:=⟨h.row,h.size,by omega,hcap,by rw[Db,←h.cells,List.take_take,Nat.min_eq_left (by omega)],by rw[List.length_take,h.len];omega⟩
 have HP:=Lib.hid bP.own
 have L3:=Lib.hid B4
 have lQ:=Lib.hid EM
 have W0:=Lib.hid B7
 have HT:=Lib.hid GR
 have HR:=Lib.hid hR
 clear Me EM hR B7 h hv GR bP B4
 go_enter Tryz.func110,Tryz.ntmps110
 go_wp2_with (with_reducible refine BN 34 ?_)
 unfold Hid
 refine wpList_append_own_at w rfl _ _ 81 rfl 0 80 i0 _ 2 16 Tryz.underlying81 W0.out By hz TF rfl (by decide) _ i (AE (l.take i)) rfl HP.out ad m d (AE M) rfl lQ.out L3.out BI (by unfold maxLen;omega) (by omega) (Nat.zero_le _) ?_
 rw[←HT.out]
 intro v' w' ho Gp _ Bp
 have HO:=Lib.hid ho
 have HG:=Lib.hid Gp
 have HA:=Lib.hid Bp
 obtain⟨A',c',rfl,_,_⟩:∃A' c',v'=.slice A' tot c'∧tot≤c'∧c'≤9223372036854775807:=by
  rw[←Aj]at ho
  obtain⟨A',c',h1,h2,h3,_⟩:=AT ho
  exact⟨A',c',h1,h2,h3⟩
 clear ho Gp Bp
 go_wp2
 go_ret
 have ho:=HO.out
 rw[←Aj,←HR.out]at ho
 exact cK ho ((AL.refl _ w).grown HG.out fun k hk=>.inl hk) HA.out
theorem SX(w:World){g cap n m d i j:Nat}{l M:List Ex}{cur:List Value}{B:Option Addr}(h:CN w g cap n l cur)(hv:w.ownsRow 0 80 2 (.slice B m d) m (AE M))(Fq:i<j)(hj:j<n)(hm:i+m≤j)(IU:n+m≤4000000):
  Calls Tryz.prog 110 #[.slice (some ⟨g,0,none⟩) n cap,.int .i64 i,.int .i64 j,.slice B m d] w (Et w (.slice (some ⟨g,0,none⟩) n cap) (l.take i++M++l.drop j)):=by
 obtain⟨i0,B7,By,hz,TF⟩:=CZ
 obtain⟨R,hR⟩:∃R,R=l.take i++M++l.drop j:=⟨_,rfl⟩
 rw[←hR]
 obtain⟨r,hr⟩:∃t:Nat,t=n-j:=⟨_,rfl⟩
 obtain⟨im,U5⟩:∃t:Nat,t=i+m:=⟨_,rfl⟩
 obtain⟨tot,GR⟩:∃t:Nat,t=im+r:=⟨_,rfl⟩
 have hcap:=h.max
 have hnc:=h.le
 have hlen:=h.len
 have hsz:=h.size
 have Me:M.length=m:=by obtain⟨_,_,_,_,_,h1⟩:=AT hv;exact h1
 have EM:(AE M).length=m*2:=by rw[AX,Me]
 have WU:(AE (l.drop j)).length=r*2:=by rw[AX,List.length_drop,hlen,hr]
 have QA:(i:Int)+(m:Int)=(im:Int):=by omega
 have OC:(im:Int)+(r:Int)=(tot:Int):=by omega
 have Ou:IntKind.i64.wrap (im:Int)=(im:Int):=IntWalk.i64_in _ (by omega)
 have Ek:IntKind.i64.wrap (tot:Int)=(tot:Int):=IntWalk.i64_in _ (by omega)
 have Em:¬((i:Int)=(j:Int)):=by omega
 have CP:¬((j:Int)=(n:Int)):=by omega
 have EK:=fun w' k k'=>GA (P:=Tryz.prog) w' 81 80 i0 Tryz.underlying81 B7 hz (some ⟨g,0,none⟩) n cap i j (by omega) (by omega) k k' (i:Int) (j:Int) rfl rfl
 have El:=fun w' k=>CK (P:=Tryz.prog) w' 81 80 i0 Tryz.underlying81 B7 (some ⟨g,0,none⟩) n cap i (by omega) k (i:Int) rfl
 have Mw:=fun w' k=>BV (P:=Tryz.prog) w' 81 80 i0 Tryz.underlying81 B7 hz (some ⟨g,0,none⟩) n cap j (by omega) k (j:Int) rfl
 have ME:=BU (g:=g) (off:=0) (i:=j) (cap:=cap) (sz:=2) (by omega)
 rw[Nat.zero_add]at ME
 rw[ME,←hr]at Mw
 have MF:∀k v,(AE (l.drop j))[k]?=some v→cur[j*2+k]?=some v:=h.src j
 have TH:=fun w' k=>CK (P:=Tryz.prog) w' 81 80 i0 Tryz.underlying81 B7 (some ⟨g,0,none⟩) n cap tot (by omega) k (tot:Int) rfl
 have Rx:=fun w' k=>BV (P:=Tryz.prog) w' 81 80 i0 Tryz.underlying81 B7 hz (some ⟨g,0,none⟩) tot cap i (by omega) k (i:Int) rfl
 have m6:=BU (g:=g) (off:=0) (i:=i) (cap:=cap) (sz:=2) (by omega)
 have T1:=fun w' k=>BV (P:=Tryz.prog) w' 81 80 i0 Tryz.underlying81 B7 hz (some ⟨g,0,none⟩) tot cap im (by omega) k (im:Int) rfl
 have mz:=BU (g:=g) (off:=0) (i:=im) (cap:=cap) (sz:=2) (by omega)
 rw[Nat.zero_add]at m6 mz
 rw[m6]at Rx
 rw[mz]at T1
 have U9:(AE M).length=Nat.min m (tot-i)*2:=by rw[EM];simp only[Nat.min_def];split<;>omega
 have Hh:(AE (l.drop j)).length=Nat.min r (tot-im)*2:=by rw[WU];simp only[Nat.min_def];split<;>omega
 have bB:cur.take (i*2)=AE (l.take i):=by rw[Db,←h.cells,List.take_take,Nat.min_eq_left (by omega)]
 have kX:R.length=tot:=by rw[hR,List.length_append,List.length_append,List.length_take,List.length_drop,hlen,Me];omega
 have Iw:i*2+(AE M).length≤cur.length:=by rw[EM,hsz];omega
 have Di:im*2+(AE (l.drop j)).length≤cur.length:=by rw[WU,hsz];omega
 have D7:decide ((tot:Int)>(cap:Int))=false:=by simp;omega
 have se:decide (cap<tot)=false:=by simp;omega
 have qD:decide ((cap:Int)<(tot:Int))=false:=by simp;omega
 have qE:decide ((im:Int)≤(j:Int))=true:=by simp;omega
 have Lm:decide (im≤j)=true:=by simp;omega
 have TG:=fun w' k=>BV (P:=Tryz.prog) w' 81 80 i0 Tryz.underlying81 B7 hz (some ⟨g,0,none⟩) n cap tot (by omega) k (tot:Int) rfl
 have Ap:∀(W:World) (c1:List Value),Row W g 80 c1→c1.length=(splice (splice cur (i*2) (AE M)) (im*2) (AE (l.drop j))).length→c1.take (tot*2)=(splice (splice cur (i*2) (AE M)) (im*2) (AE (l.drop j))).take (tot*2)→CN W g cap tot R c1:=fun W c1 h1 h2 h3=>by
  refine⟨h1,by rw[h2,AS _ _ _ (by rw[AS _ _ _ Iw];exact Di),AS _ _ _ Iw,hsz],by omega,hcap,?_,kX⟩
  rw[h3,E7 cur (AE M) (AE (l.drop j)) (i*2) (im*2) (tot*2) (by rw[EM];omega) (by rw[WU];omega) (by rw[hsz];omega),bB,hR,Aj,Aj]
 have jz:∀k v,(AE (l.drop j))[k]?=some v→(splice cur (i*2) (AE M))[j*2+k]?=some v:=fun k v hk=>by
  rw[BP _ _ _ Iw (by rw[EM];omega)];exact MF k v hk
 have HO:=Lib.hid Ap
 have L3:Hid (0<m→∃ad,B=some ad∧∀j v,(AE M)[j]?=some v→w.cell? (ad.add j)=some v):=Gj hv
 have uQ:=Lib.hid jz
 have C1:=Lib.hid Hh
 have C4:=Lib.hid U9
 have F1:=Lib.hid Iw
 have F2:Hid (im*2+(AE (l.drop j)).length≤(splice cur (i*2) (AE M)).length):=by unfold Hid;rw[AS _ _ _ Iw];exact Di
 have FS1:Hid ((splice (splice cur (i*2) (AE M)) (im*2) (AE (l.drop j))).length=cap*2):=by unfold Hid;rw[AS _ _ _ F2.out,AS _ _ _ Iw,hsz]
 have FL:=Lib.hid EM
 have H:=Lib.hid h
 have HT:Hid (tot≤n∧n≤cap):=by unfold Hid;omega
 clear Ap jz Hh U9 Iw Di EM WU hR Me hlen hsz bB kX B7 h hv hr U5 GR ME m6 mz MF
 go_enter Tryz.func110,Tryz.ntmps110
 go_wp2
 go_region
 go_wp2_with (with_reducible refine BN 97 ?_)
 unfold Hid
 refine BY rfl _ _ 81 81 rfl 80 Tryz.underlying81 DT (by decide) (some ⟨g,i*2,none⟩) B (tot-i) (cap-i) m d rfl rfl g (i*2) _ 80 H.out.row (AE M) C4.out (fun h0=>⟨rfl,L3.out (by have:=FL.out;omega)⟩) F1.out BI ?_
 intro w2 Av Di
 have c2:∀k v,(AE (l.drop j))[k]?=some v→w2.drew.cell? ((⟨g,j*2,none⟩:Addr).add k)=some v:=fun k v hk=>by
  rw[Addr.add_lit];exact(Av.out.cell _).trans (uQ.out k v hk)
 have C2:=Lib.hid c2
 clear c2
 go_wp2
 go_region_law (refine Cs rfl _ _ 81 81 rfl 80 Tryz.underlying81 DT (by decide) (some ⟨g,im*2,none⟩) (some ⟨g,j*2,none⟩) (tot-im) (cap-im) r (cap-j) (by simp[Act.eval,Act.put]) (by simp[Act.eval,Act.put]) g (im*2) _ 80 Av.out (AE (l.drop j)) C1.out (fun _=>⟨rfl,_,rfl,C2.out⟩) F2.out BI ?_;intro w3 Cn Kr)
 go_wp2_with (with_reducible refine Pe ?_)
 unfold Hid
 refine Fz rfl _ 81 rfl 80 _ (sz:=2) Tryz.underlying81 Td rfl (by decide) (NT (some ⟨g,0,none⟩) tot cap 2) (n-tot) (cap-tot) rfl g (tot*2) _ 80 Cn.out (fun h0=>by rw[BU (by have:=HT.out;omega),Nat.zero_add]) (by have:=FS1.out;have:=HT.out;omega) ?_
 intro w4 c4 FH hl4 eE Mi
 have Vf:=Lib.hid (HO.out w4 c4 FH hl4 eE)
 have HF:=Lib.hid (((AL.drew (AL.refl (fun b=>b=g) w)).trans (Di.out.drew) fun b hb=>.inl hb).trans (Kr.out.trans Mi fun b hb=>.inl hb) fun b hb=>.inl hb)
 clear FH hl4 eE Mi Cn Kr Av Di
 go_wp2
 go_ret
 exact Vf.out.oD (HF.out.mono fun b hb=>by rw[hb];rfl) (.inl rfl)
theorem Q8(w:World){g cap n m d i j gv:Nat}{l M:List Ex}{cur VN:List Value}(h:CN w g cap n l cur)(ay:CN w gv d m M VN)(hne:g≠gv)(Fq:i<j)(hj:j<n)(hm:j<i+m)(hroom:i+m+(n-j)≤cap)(IU:n+m≤4000000):
  Calls Tryz.prog 110 #[.slice (some ⟨g,0,none⟩) n cap,.int .i64 i,.int .i64 j,.slice (some ⟨gv,0,none⟩) m d] w (Et w (.slice (some ⟨g,0,none⟩) n cap) (l.take i++M++l.drop j)):=by
 have hv:=ay.own
 obtain⟨i0,B7,By,hz,TF⟩:=CZ
 obtain⟨R,hR⟩:∃R,R=l.take i++M++l.drop j:=⟨_,rfl⟩
 rw[←hR]
 obtain⟨r,hr⟩:∃t:Nat,t=n-j:=⟨_,rfl⟩
 obtain⟨im,U5⟩:∃t:Nat,t=i+m:=⟨_,rfl⟩
 obtain⟨tot,GR⟩:∃t:Nat,t=im+r:=⟨_,rfl⟩
 have hcap:=h.max
 have hnc:=h.le
 have hlen:=h.len
 have hsz:=h.size
 have Me:M.length=m:=by obtain⟨_,_,_,_,_,h1⟩:=AT hv;exact h1
 have EM:(AE M).length=m*2:=by rw[AX,Me]
 have WU:(AE (l.drop j)).length=r*2:=by rw[AX,List.length_drop,hlen,hr]
 have QA:(i:Int)+(m:Int)=(im:Int):=by omega
 have OC:(im:Int)+(r:Int)=(tot:Int):=by omega
 have Ou:IntKind.i64.wrap (im:Int)=(im:Int):=IntWalk.i64_in _ (by omega)
 have Ek:IntKind.i64.wrap (tot:Int)=(tot:Int):=IntWalk.i64_in _ (by omega)
 have Em:¬((i:Int)=(j:Int)):=by omega
 have CP:¬((j:Int)=(n:Int)):=by omega
 have EK:=fun w' k k'=>GA (P:=Tryz.prog) w' 81 80 i0 Tryz.underlying81 B7 hz (some ⟨g,0,none⟩) n cap i j (by omega) (by omega) k k' (i:Int) (j:Int) rfl rfl
 have El:=fun w' k=>CK (P:=Tryz.prog) w' 81 80 i0 Tryz.underlying81 B7 (some ⟨g,0,none⟩) n cap i (by omega) k (i:Int) rfl
 have Mw:=fun w' k=>BV (P:=Tryz.prog) w' 81 80 i0 Tryz.underlying81 B7 hz (some ⟨g,0,none⟩) n cap j (by omega) k (j:Int) rfl
 have ME:=BU (g:=g) (off:=0) (i:=j) (cap:=cap) (sz:=2) (by omega)
 rw[Nat.zero_add]at ME
 rw[ME,←hr]at Mw
 have MF:∀k v,(AE (l.drop j))[k]?=some v→cur[j*2+k]?=some v:=h.src j
 have TH:=fun w' k=>CK (P:=Tryz.prog) w' 81 80 i0 Tryz.underlying81 B7 (some ⟨g,0,none⟩) n cap tot (by omega) k (tot:Int) rfl
 have Rx:=fun w' k=>BV (P:=Tryz.prog) w' 81 80 i0 Tryz.underlying81 B7 hz (some ⟨g,0,none⟩) tot cap i (by omega) k (i:Int) rfl
 have m6:=BU (g:=g) (off:=0) (i:=i) (cap:=cap) (sz:=2) (by omega)
 have T1:=fun w' k=>BV (P:=Tryz.prog) w' 81 80 i0 Tryz.underlying81 B7 hz (some ⟨g,0,none⟩) tot cap im (by omega) k (im:Int) rfl
 have mz:=BU (g:=g) (off:=0) (i:=im) (cap:=cap) (sz:=2) (by omega)
 rw[Nat.zero_add]at m6 mz
 rw[m6]at Rx
 rw[mz]at T1
 have U9:(AE M).length=Nat.min m (tot-i)*2:=by rw[EM];simp only[Nat.min_def];split<;>omega
 have Hh:(AE (l.drop j)).length=Nat.min r (tot-im)*2:=by rw[WU];simp only[Nat.min_def];split<;>omega
 have bB:cur.take (i*2)=AE (l.take i):=by rw[Db,←h.cells,List.take_take,Nat.min_eq_left (by omega)]
 have kX:R.length=tot:=by rw[hR,List.length_append,List.length_append,List.length_take,List.length_drop,hlen,Me];omega
 have Iw:i*2+(AE M).length≤cur.length:=by rw[EM,hsz];omega
 have Di:im*2+(AE (l.drop j)).length≤cur.length:=by rw[WU,hsz];omega
 have D7:decide ((tot:Int)>(cap:Int))=false:=by simp;omega
 have se:decide (cap<tot)=false:=by simp;omega
 have qD:decide ((cap:Int)<(tot:Int))=false:=by simp;omega
 have qE:decide ((im:Int)≤(j:Int))=false:=by simp;omega
 have Lm:decide (im≤j)=false:=by simp;omega
 have Ja:∀(W:World),W=w.drew→∀lb cb,(callFunc 124 #[.slice (some ⟨g,im*2,none⟩) lb cb,.slice (some ⟨gv,0,none⟩) m d]).run Tryz.prog W=.ok (.value (.bool false)) W:=fun W e lb cb=>by
  subst e
  exact Nk w.drew ⟨g,im*2,none⟩ ⟨gv,0,none⟩ lb cb m d hne _ _ _ _ (show w.shape? g= _ from h.shape) (show w.shape? gv= _ from ay.shape) (by have:=ay.le;omega) (h.row.free _) (h.row.free _)
 have Ja:=Ja _ rfl
 have Kr:i*2+(AE M).length≤(splice cur (im*2) (AE (l.drop j))).length:=by rw[AS _ _ _ Di];exact Iw
 have Ap:∀(W:World),Row W g 80 (splice (splice cur (im*2) (AE (l.drop j))) (i*2) (AE M))→CN W g cap tot R (splice (splice cur (im*2) (AE (l.drop j))) (i*2) (AE M)):=fun W h1=>by
  refine⟨h1,by rw[AS _ _ _ Kr,AS _ _ _ Di,hsz],by omega,hcap,?_,kX⟩
  rw[JV cur (AE M) (AE (l.drop j)) (i*2) (im*2) (tot*2) (by rw[EM];omega) (by rw[WU];omega) (by rw[hsz];omega),bB,hR,Aj,Aj]
 obtain⟨ad,had,B4⟩:=Gj hv (by omega)
 injection had with had;subst had
 have HO:=Lib.hid Ap
 have L3:=Lib.hid B4
 have uR:=Lib.hid MF
 have C1:=Lib.hid Hh
 have C4:=Lib.hid U9
 have F2:=Lib.hid Di
 have F3:=Lib.hid Kr
 have H:=Lib.hid h
 have hvl:=ay.row.lt
 have Wz:=Lib.hid hne
 clear Ap B4 Hh U9 Iw Di Kr EM WU hR Me hlen hsz bB kX B7 h hv ay hr U5 GR ME m6 mz hne
 have c2:∀k v,(AE (l.drop j))[k]?=some v→w.drew.drew.cell? ((⟨g,j*2,none⟩:Addr).add k)=some v:=fun k v hk=>by
  rw[Addr.add_lit];exact(H.out.row.cell _).trans (uR.out k v hk)
 have C2:=Lib.hid c2
 clear c2 MF
 go_enter Tryz.func110,Tryz.ntmps110
 go_wp2
 go_region
 go_wp2_with (simp only[Ja])
 go_region_law (refine Cs rfl _ _ 81 81 rfl 80 Tryz.underlying81 DT (by decide) (some ⟨g,im*2,none⟩) (some ⟨g,j*2,none⟩) (tot-im) (cap-im) r (cap-j) (by simp[Act.eval,Act.put]) (by simp[Act.eval,Act.put]) g (im*2) _ 80 H.out.row (AE (l.drop j)) C1.out (fun _=>⟨rfl,_,rfl,C2.out⟩) F2.out BI ?_;intro w2 Av Di)
 have c5:∀k v,(AE M)[k]?=some v→w2.cell? ((⟨gv,0,none⟩:Addr).add k)=some v:=fun k v hk=>by
  have h5:=L3.out k v hk
  rw[Addr.add_lit]at h5⊢
  exact(World.cell?_of_block (w:=w.drew.drew) (Di.out.block gv hvl (fun e=>Wz.out e.symm))).trans h5
 have C5:=Lib.hid c5
 clear c5
 go_wp2_with (with_reducible refine BN 135 ?_)
 unfold Hid
 refine BY rfl _ _ 81 81 rfl 80 Tryz.underlying81 DT (by decide) (some ⟨g,i*2,none⟩) (some ⟨gv,0,none⟩) (tot-i) (cap-i) m d rfl rfl g (i*2) _ 80 Av.out (AE M) C4.out (fun h0=>⟨rfl,_,rfl,C5.out⟩) F3.out BI ?_
 intro w3 Cn Kr
 have Vf:=Lib.hid (HO.out w3 Cn.out)
 have HF:=Lib.hid (((AL.drew (AL.drew (AL.refl (fun b=>b=g) w))).trans Di.out fun b hb=>.inl hb).trans Kr.out fun b hb=>.inl hb)
 clear Cn Kr Av Di
 go_wp2
 go_ret
 exact Vf.out.oD (HF.out.mono fun b hb=>by rw[hb];rfl) (.inl rfl)
theorem RA(w:World){g cap n m d i j:Nat}{l M:List Ex}{cur:List Value}{B:Option Addr}(h:CN w g cap n l cur)(hv:w.ownsRow 0 80 2 (.slice B m d) m (AE M))(Fq:i<j)(hj:j<n)(hroom:cap<i+m+(n-j))(IU:n+m≤4000000):
  Calls Tryz.prog 110 #[.slice (some ⟨g,0,none⟩) n cap,.int .i64 i,.int .i64 j,.slice B m d] w (Et w (.slice (some ⟨g,0,none⟩) n cap) (l.take i++M++l.drop j)):=by
 obtain⟨i0,B7,By,hz,TF⟩:=CZ
 obtain⟨R,hR⟩:∃R,R=l.take i++M++l.drop j:=⟨_,rfl⟩
 rw[←hR]
 obtain⟨r,hr⟩:∃t:Nat,t=n-j:=⟨_,rfl⟩
 obtain⟨im,U5⟩:∃t:Nat,t=i+m:=⟨_,rfl⟩
 obtain⟨tot,GR⟩:∃t:Nat,t=im+r:=⟨_,rfl⟩
 have hcap:=h.max
 have hnc:=h.le
 have hlen:=h.len
 have hsz:=h.size
 have Me:M.length=m:=by obtain⟨_,_,_,_,_,h1⟩:=AT hv;exact h1
 have EM:(AE M).length=m*2:=by rw[AX,Me]
 have WU:(AE (l.drop j)).length=r*2:=by rw[AX,List.length_drop,hlen,hr]
 have QA:(i:Int)+(m:Int)=(im:Int):=by omega
 have OC:(im:Int)+(r:Int)=(tot:Int):=by omega
 have Ou:IntKind.i64.wrap (im:Int)=(im:Int):=IntWalk.i64_in _ (by omega)
 have Ek:IntKind.i64.wrap (tot:Int)=(tot:Int):=IntWalk.i64_in _ (by omega)
 have Em:¬((i:Int)=(j:Int)):=by omega
 have CP:¬((j:Int)=(n:Int)):=by omega
 have EK:=fun w' k k'=>GA (P:=Tryz.prog) w' 81 80 i0 Tryz.underlying81 B7 hz (some ⟨g,0,none⟩) n cap i j (by omega) (by omega) k k' (i:Int) (j:Int) rfl rfl
 have El:=fun w' k=>CK (P:=Tryz.prog) w' 81 80 i0 Tryz.underlying81 B7 (some ⟨g,0,none⟩) n cap i (by omega) k (i:Int) rfl
 have Mw:=fun w' k=>BV (P:=Tryz.prog) w' 81 80 i0 Tryz.underlying81 B7 hz (some ⟨g,0,none⟩) n cap j (by omega) k (j:Int) rfl
 have ME:=BU (g:=g) (off:=0) (i:=j) (cap:=cap) (sz:=2) (by omega)
 rw[Nat.zero_add]at ME
 rw[ME,←hr]at Mw
 have MF:∀k v,(AE (l.drop j))[k]?=some v→cur[j*2+k]?=some v:=h.src j
 obtain⟨q,hq⟩:∃t:Nat,t=tot-i:=⟨_,rfl⟩
 have Fc:(tot:Int)-(i:Int)=(q:Int):=by omega
 have eD:IntKind.i64.wrap (q:Int)=(q:Int):=IntWalk.i64_in _ (by omega)
 have D7:decide ((tot:Int)>(cap:Int))=true:=by simp;omega
 have se:decide (cap<tot)=true:=by simp;omega
 have qD:decide ((cap:Int)<(tot:Int))=true:=by simp;omega
 have Rx:=fun b C w' k=>BV (P:=Tryz.prog) w' 81 80 i0 Tryz.underlying81 B7 hz (some ⟨b,0,none⟩) tot C i (by omega) k (i:Int) rfl
 have T1:=fun b C w' k=>BV (P:=Tryz.prog) w' 81 80 i0 Tryz.underlying81 B7 hz (some ⟨b,0,none⟩) tot C im (by omega) k (im:Int) rfl
 have U9:(AE M).length=Nat.min m (tot-i)*2:=by rw[EM];simp only[Nat.min_def];split<;>omega
 have Hh:(AE (l.drop j)).length=Nat.min r (tot-im)*2:=by rw[WU];simp only[Nat.min_def];split<;>omega
 have bB:cur.take (i*2)=AE (l.take i):=by rw[Db,←h.cells,List.take_take,Nat.min_eq_left (by omega)]
 have bA:(AE (l.take i)).length=i*2:=by rw[AX,List.length_take,hlen];omega
 have kX:R.length=tot:=by rw[hR,List.length_append,List.length_append,List.length_take,List.length_drop,hlen,Me];omega
 have IM:∀k v,(AE (l.take i))[k]?=some v→w.cell? ((⟨g,0,none⟩:Addr).add k)=some v:=fun k v hk=>by
  rw[Addr.add_lit,Nat.zero_add,h.row.cell]
  rw[←bB,List.getElem?_take]at hk
  split at hk
  ·exact hk
  ·cases hk
 have Lr:∀k v,(AE (l.drop j))[k]?=some v→w.cell? ((⟨g,j*2,none⟩:Addr).add k)=some v:=fun k v hk=>by
  rw[Addr.add_lit];exact(h.row.cell _).trans (MF k v hk)
 have YX:∀C (c0:List Value),tot≤C→c0.length=C*2→i*2+(AE M).length≤c0.length∧im*2+(AE (l.drop j)).length≤(splice c0 (i*2) (AE M)).length:=fun C c0 h1 h2=>by
  have h3:i*2+(AE M).length≤c0.length:=by rw[EM,h2];omega
  exact⟨h3,by rw[AS _ _ _ h3,WU,h2];omega⟩
 have kU:∀C (c0:List Value),tot≤C→C≤maxLen→c0.length=C*2→c0.take (i*2)=AE (l.take i)→∀b (W:World),Row W b 80 (splice (splice c0 (i*2) (AE M)) (im*2) (AE (l.drop j)))→CN W b C tot R (splice (splice c0 (i*2) (AE M)) (im*2) (AE (l.drop j))):=fun C c0 h1 hm h2 h3 b W hrw=>by
  refine⟨hrw,?_,h1,by unfold maxLen at hm;omega,?_,kX⟩
  ·rw[AS _ _ _ (YX C c0 h1 h2).2,AS _ _ _ (YX C c0 h1 h2).1,h2]
  ·rw[E7 c0 (AE M) (AE (l.drop j)) (i*2) (im*2) (tot*2) (by rw[EM];omega) (by rw[WU];omega) (by rw[h2];omega),h3,hR,Aj,Aj]
 obtain⟨ad,rfl,B4⟩:=Gj hv (by omega)
 have ni:ad.block<w.heap.size:=by
  have Ll:0<(AE M).length:=by rw[EM];omega
  have h1:=B4 0 _ (List.getElem?_eq_getElem Ll)
  have h2:=block_lt_of_cell h1
  simpa [Addr.add]using h2
 have C0:=Lib.hid IM
 have C1:=Lib.hid Hh
 have C2:=Lib.hid Lr
 have C4:=Lib.hid U9
 have C5:=Lib.hid B4
 have C6:=Lib.hid YX
 have C7:=Lib.hid kU
 have CT:=Lib.hid bA
 have CI:Hid (i<im∧im<tot∧i+q=tot∧0<q∧tot≤4000000∧cap<tot):=by unfold Hid;omega
 have W0:=Lib.hid B7
 have qC:=h.row.lt
 have had:=fun(ad:Addr) k=>show (ad.add k).block=ad.block by unfold Addr.add;split<;>rfl
 have wu:=Lib.hid had
 clear IM Hh Lr U9 YX kU bB bA hR kX h hv GR U5 hlen hsz ME hq B4 MF EM WU Me hr had
 go_enter Tryz.func110,Tryz.ntmps110
 go_wp2
 go_region
 go_wp2_with (with_reducible refine BN 67 ?_)
 unfold Hid
 refine DR rfl _ _ 81 3 rfl 80 i0 _ .i64 .i64 Tryz.underlying81 Tryz.underlying3 W0.out By hz (by decide) TF rfl (some ⟨g,0,none⟩) i cap rfl (AE (l.take i)) CT.out (fun e=>by cases e) (fun ad e=>by injection e with e;subst e;exact C0.out) q (q:Int) rfl rfl CI.out.2.2.2.1 (by have:=CI.out;omega) (by unfold maxLen;have:=CI.out;omega) (by have:=CI.out;omega) ?_
 rw[CI.out.2.2.1]
 intro w2 C c0 tO tN IM hct Av m8 AZ
 have ME:=BU (g:=w.heap.size) (off:=0) (i:=im) (cap:=C) (sz:=2) (by have:=CI.out;omega)
 have eE:=BU (g:=w.heap.size) (off:=0) (i:=i) (cap:=C) (sz:=2) (by have:=CI.out;omega)
 rw[Nat.zero_add]at ME eE
 have yB:=T1 w.heap.size C
 have yC:=Rx w.heap.size C
 rw[ME]at yB
 rw[eE]at yC
 have D0:=Lib.hid (tO)
 have D1:=Lib.hid tN
 have D2:=Lib.hid IM
 have D3:=Lib.hid hct
 have D4:=Lib.hid Av
 have D6:=Lib.hid (show Below w.heap.size w w2 from ⟨AZ.os,AZ.tape,AZ.output,AZ.size,AZ.block⟩)
 have c5:∀j v,(AE M)[j]?=some v→w2.cell? (ad.add j)=some v:=fun j v hj=>by
  rw[D6.out.cell (by rw[wu.out];exact ni)];exact C5.out j v hj
 have vU:=Lib.hid c5
 have c2:∀k v,(AE (l.drop j))[k]?=some v→w2.cell? ((⟨g,j*2,none⟩:Addr).add k)=some v:=fun j v hj=>by
  rw[D6.out.cell (by rw[Addr.add_lit];exact qC)];exact C2.out j v hj
 have C2':=Lib.hid c2
 clear tO tN IM hct Av AZ c5 c2 ME eE T1 Rx m8
 go_wp2_with (with_reducible refine BN 72 ?_)
 unfold Hid
 refine BY rfl _ _ 81 81 rfl 80 Tryz.underlying81 DT (by decide) (some ⟨w.heap.size,i*2,none⟩) (some ad) (tot-i) (C-i) m d rfl rfl w.heap.size (i*2) _ 80 D4.out (AE M) C4.out (fun _=>⟨rfl,_,rfl,vU.out⟩) (C6.out C c0 D0.out D2.out).1 BI ?_
 intro w3 Cn Kr
 have c2:∀k v,(AE (l.drop j))[k]?=some v→w3.drew.cell? ((⟨g,j*2,none⟩:Addr).add k)=some v:=fun k v hk=>by
  have h5:=C2'.out k v hk
  rw[Addr.add_lit]at h5⊢
  exact(World.cell?_of_block (Kr.out.block g (by have:=D6.out.size;omega) (by omega))).trans h5
 have pU:=Lib.hid c2
 clear c2
 go_wp2
 go_region_law (refine Cs rfl _ _ 81 81 rfl 80 Tryz.underlying81 DT (by decide) (some ⟨w.heap.size,im*2,none⟩) (some ⟨g,j*2,none⟩) (tot-im) (C-im) r (cap-j) (by simp[Act.eval,Act.put]) (by simp[Act.eval,Act.put]) w.heap.size (im*2) _ 80 Cn.out (AE (l.drop j)) C1.out (fun _=>⟨rfl,_,rfl,pU.out⟩) (C6.out C c0 D0.out D2.out).2 BI ?_;intro w4 FH Mi)
 go_wp2
 go_ret
 have own:=C7.out C c0 D0.out D1.out D2.out D3.out _ _ FH.out
 exact own.oD ((AL.AJ D6.out _).trans ((Kr.out.drew).trans Mi.out fun b hb=>.inl hb) fun b hb=>.inr (by omega)) (.inr (Nat.le_refl _))
theorem BH(w:World){v u:Value}{n m i j:Nat}{l M:List Ex}(h:w.ownsRow 0 80 2 v n (AE l))(hv:w.ownsRow 0 80 2 u m (AE M))(hne:∀k,v.ownBlock=some k→u.ownBlock≠some k)(Fq:i≤j)(hj:j≤n)(hm:i=j→0<m)(IU:n+m≤4000000):
  Calls Tryz.prog 110 #[v,.int .i64 i,.int .i64 j,u] w (Et w v (l.take i++M++l.drop j)):=by
 by_cases e:i=j
 ·subst e
  exact Q9 w h hv hne hj (hm rfl) IU
 have hl:l.length=n:=by obtain⟨_,_,_,_,_,h1⟩:=AT h;exact h1
 rcases GC h with⟨_,h0,_⟩|⟨g,cap,cur,rfl,h1⟩
 ·omega
 obtain⟨B,d,rfl,hmd,qH,Me⟩:=AT hv
 by_cases e2:j=n
 ·subst e2
  rw[List.drop_of_length_le (by omega),List.append_nil]
  rcases Nat.lt_or_ge cap (i+m)with h3|h3
  ·exact La w h1 hv (by omega) h3 IU
  ·exact LZ w h1 hv (by omega) h3
 ·rcases Nat.lt_or_ge cap (i+m+(n-j))with h3|h3
  ·exact RA w h1 hv (by omega) (by omega) h3 IU
  ·rcases Nat.lt_or_ge j (i+m)with h4|h4
   ·rcases GC hv with⟨_,h0,_⟩|⟨gv,cv,VN,e3,h2⟩
    ·omega
    ·injection e3 with e3 e4 e5
     subst e3 e5
     exact Q8 w h1 h2 (fun e=>hne g rfl (by rw[e];rfl)) (by omega) (by omega) h4 h3 IU
   ·exact SX w h1 hv (by omega) (by omega) h4 IU
def F8(s:Sp)(v:Value):List Value:=[.int .i64 s.first,.int .i64 s.blocks,v]
def Es(w:World)(G:Nat→Prop)(p:Nat)(s:Sp):Prop:=
 s.ok∧∃v,Row w p 83 (F8 s v)∧w.ownsRow 0 80 2 v s.fr.length (AE s.fr)∧∀k,G k↔k=p∨v.ownBlock=some k
theorem Ni{w:World}{v:Value}{n:Nat}{l:List Ex}(h:w.ownsRow 0 80 2 v n (AE l)){k:Nat}(hk:v.ownBlock=some k):∃cs,Row w k 80 cs:=by
 rcases GC h with⟨rfl,_⟩|⟨g,cap,cur,rfl,h1⟩
 ·cases hk
 ·injection hk with hk;subst hk;exact⟨_,h1.row⟩
theorem Nj{w w':World}{F:Nat→Prop}{v:Value}{n:Nat}{l:List Ex}(h:w.ownsRow 0 80 2 v n (AE l))(hf:AL F w w')(hn:∀k,v.ownBlock=some k→¬F k):w'.ownsRow 0 80 2 v n (AE l):=by
 obtain⟨h1,h2⟩:=h
 refine⟨h1,?_⟩
 rcases h2 with h2|⟨g,cap,cur,rfl,hg,hh,r⟩
 ·exact .inl h2
 ·exact .inr ⟨g,cap,cur,rfl,hg,hf.row (g:=g) (cs:=cur.toList) (by unfold Row;simpa using hh) (hn g rfl),r⟩
theorem At{w w':World}{v:Value}{n:Nat}{l:List Ex}(h:w.ownsRow 0 80 2 v n (AE l))(hb:Below w.heap.size w w'):w'.ownsRow 0 80 2 v n (AE l):=
 Nj h (AL.AJ hb fun _=>False) fun _ _ hf=>hf
theorem EI{w:World}{A:Option Addr}{n c:Nat}{l:List Ex}(h:w.ownsRow 0 80 2 (.slice A n c) n (AE l)){i:Nat}(hi:i<n):
  ∃g,A=some ⟨g,0,none⟩∧g<w.heap.size∧w.cell? ⟨g,i*2,none⟩=some (.int .i64 (Ae l i).1)∧w.cell? ⟨g,i*2+1,none⟩=some (.int .i64 (Ae l i).2):=by
 rcases GC h with⟨_,h0,_⟩|⟨g,cap,cur,e,h1⟩
 ·omega
 ·injection e with e1 e2 e3
  exact⟨g,e1,h1.row.lt,(h1.at_ hi).1,(h1.at_ hi).2⟩
section
variable {w w' : World} {G : Nat → Prop} {p : Nat} {s : Sp}
theorem Es.lt(h:Es w G p s){k:Nat}(hk:G k):k<w.heap.size:=by
 obtain⟨_,v,hr,ho,hG⟩:=h
 rcases(hG k).1 hk with rfl|hk
 ·exact hr.lt
 ·exact(ho.lt k hk).2
theorem Es.Ju(h:Es w G p s):G p:=by obtain⟨_,v,hr,ho,hG⟩:=h;exact(hG p).2 (.inl rfl)
theorem Es.Cc{F:Nat→Prop}(h:Es w G p s)(hf:AL F w w')(hn:∀k,G k→¬F k):Es w' G p s:=by
 obtain⟨h0,v,hr,ho,hG⟩:=h
 exact⟨h0,v,hf.row hr (hn p ((hG p).2 (.inl rfl))),Nj ho hf fun k hk=>hn k ((hG k).2 (.inr hk)),hG⟩
theorem Es.below(h:Es w G p s)(hb:Below w.heap.size w w'):Es w' G p s:=h.Cc (AL.AJ hb fun _=>False) fun _ _ hf=>hf
theorem Es.types(h:Es w G p s){k:Nat}{t:TypeId}{cs:List Value}(hr:Row w k t cs)(h1:t≠83)(h2:t≠80):¬G k:=by
 obtain⟨_,v,hrp,ho,hG⟩:=h
 have typed:∀{g:Nat} {a b:TypeId} {xs ys:List Value},Row w g a xs→Row w g b ys→a=b:=fun {g a b xs ys} h k=>by
  unfold Row at h k;rw[h]at k;injection k with k;injection k
 intro hk
 rcases(hG k).1 hk with rfl|hk
 ·exact h1 (typed hr hrp)
 ·obtain⟨ds,hd⟩:=Ni ho hk
  exact h2 (typed hr hd)
end
theorem EO(f n:Nat)(w:World)(h:f+n≤4000000):Calls Tryz.prog 96 #[.agg #[.int .i64 f,.int .i64 n]] w fun e w'=>e=.returned (.int .i64 ((f+n:Nat):Int))∧Below w.heap.size w w':=by
 obtain⟨u,hu⟩:∃u,f+n=u:=⟨_,rfl⟩
 rw[hu]
 have Ls:(f:Int)+(n:Int)=(u:Int):=by omega
 have hw:IntKind.i64.wrap (u:Int)=(u:Int):=IntWalk.i64_in _ (by omega)
 have HB:=Lib.hid ((Below.refl w.heap.size w).alloc (Nat.le_refl _) (.cells #[.int .i64 f,.int .i64 n] 80))
 go_enter Tryz.func96,Tryz.ntmps96
 go_wp2
 go_ret
 exact⟨rfl,HB.out⟩
theorem Px(a b:Nat)(f n:Int)(w:World)(h:a+b≤4000000)(hf:Fv f):Calls Tryz.prog 90 #[.agg #[.int .i64 a,.int .i64 b],.int .i64 f,.int .i64 n] w fun e w'=>e=.returned (.bool (decide ((a:Int)≤f)&&decide (n≤((a+b:Nat):Int)-f)))∧Below w.heap.size w w':=by
 have bf:=hf.bounds
 have HB:=Lib.hid ((Below.refl w.heap.size w).alloc (Nat.le_refl _) (.cells #[.int .i64 a,.int .i64 b] 80))
 by_cases h1:(a:Int)≤f
 ·have g1:decide ((a:Int)≤f)=true:=by simpa using h1
  have g2:decide (f≥(a:Int))=true:=by simpa using h1
  have he:=EO a b (w.alloc (.cells #[.int .i64 a,.int .i64 b] 80)) h
  obtain⟨u,hu⟩:∃u,a+b=u:=⟨_,rfl⟩
  rw[hu]at he⊢
  have hw:IntKind.i64.wrap ((u:Int)-f)=(u:Int)-f:=IntWalk.i64_in _ (by omega)
  have HE:=Lib.hid he
  rw[g1]
  clear he h1
  go_enter Tryz.func90,Tryz.ntmps90
  go_wp2_with fail
  refine HE.out.mono ?_
  rintro e w2 ⟨rfl,hb⟩
  have Bt:=Lib.hid (HB.out.trans (hb.mono (by simp)))
  clear hb
  go_wp2
  go_ret
  exact⟨by simp,Bt.out⟩
 ·have g1:decide ((a:Int)≤f)=false:=by simpa using h1
  have g2:decide (f≥(a:Int))=false:=by simpa using h1
  rw[g1]
  clear h1
  go_enter Tryz.func90,Tryz.ntmps90
  go_wp2
  go_ret
  exact⟨by simp,HB.out⟩
def Be(f n:Nat):Sp:=⟨f,n,if n=0 then []else [(f,n)]⟩
theorem Nq{f n:Nat}(hf:f≤1000000)(hn:n≤1000000):(Be f n).ok:=by
 refine⟨hf,hn,?_⟩
 unfold Be
 by_cases h:n=0
 ·simp[h,Canon]
 ·simp[h,Canon];omega
theorem XZ(f n:Nat)(w:World)(hf:f≤1000000)(hn:n≤1000000):Calls Tryz.prog 32 #[.int .i64 f,.int .i64 n] w fun e w'=>∃p G,e=.returned (.pointer (some ⟨p,0,none⟩))∧Es w' G p (Be f n)∧(∀k,G k→w.heap.size≤k)∧Below w.heap.size w w':=by
 have g1:decide ((f:Int)<0)=false:=by simp
 have g2:decide ((f:Int)>1000000)=false:=by simp;omega
 have g3:decide ((n:Int)<0)=false:=by simp
 have g4:decide ((n:Int)>1000000)=false:=by simp;omega
 have DY:=Lib.hid (Nq hf hn)
 by_cases h:n=0
 ·subst h
  have hb:=(Below.refl w.heap.size w).alloc (Nat.le_refl _) (.cells #[.int .i64 f,.int .i64 0,.slice none 0 0] 83)
  have hr:Row (w.alloc (.cells #[.int .i64 f,.int .i64 0,.slice none 0 0] 83)) w.heap.size 83 (F8 (Be f 0) (.slice none 0 0)):=heap_alloc_new _ _
  have HX:Hid (∃p G,Ending.returned (.pointer (some ⟨w.heap.size,0,none⟩))=Ending.returned (.pointer (some ⟨p,0,none⟩))∧Es (w.alloc (.cells #[.int .i64 f,.int .i64 0,.slice none 0 0] 83)) G p (Be f 0)∧(∀k,G k→w.heap.size≤k)∧Below w.heap.size w (w.alloc (.cells #[.int .i64 f,.int .i64 0,.slice none 0 0] 83))):=
   ⟨_,fun k=>k=w.heap.size,rfl,⟨DY.out,_,hr,World.ownsRow_nil _ _ _ _,fun k=>⟨.inl,fun h=>h.elim id fun e=>by cases e⟩⟩,fun k hk=>by omega,hb⟩
  clear hb hr
  go_enter Tryz.func32,Tryz.ntmps32
  go_wp2
  go_ret
  exact HX.out
 ·have g5:decide ((n:Int)>0)=true:=by simp;omega
  have g6:decide (0<n)=true:=by simp;omega
  have hx:∀W,W=(w.alloc (.cells #[.int .i64 f,.int .i64 n,.slice (some ⟨w.heap.size+1,0,none⟩) 1 1] 83)).alloc (.cells #[.int .i64 f,.int .i64 n] 80)→
    (∃p G,Ending.returned (.pointer (some ⟨w.heap.size,0,none⟩))=Ending.returned (.pointer (some ⟨p,0,none⟩))∧Es W G p (Be f n)∧(∀k,G k→w.heap.size≤k)∧Below w.heap.size w W):=by
   rintro W rfl
   have hb:=((Below.refl w.heap.size w).alloc (Nat.le_refl _) (.cells #[.int .i64 f,.int .i64 n,.slice (some ⟨w.heap.size+1,0,none⟩) 1 1] 83)).alloc (by simp) (.cells #[.int .i64 f,.int .i64 n] 80)
   have DP:Row (w.alloc (.cells #[.int .i64 f,.int .i64 n,.slice (some ⟨w.heap.size+1,0,none⟩) 1 1] 83)) w.heap.size 83 [.int .i64 f,.int .i64 n,.slice (some ⟨w.heap.size+1,0,none⟩) 1 1]:=heap_alloc_new _ _
   have hr:=DP.alloc (.cells #[.int .i64 f,.int .i64 n] 80)
   have he:Row ((w.alloc (.cells #[.int .i64 f,.int .i64 n,.slice (some ⟨w.heap.size+1,0,none⟩) 1 1] 83)).alloc (.cells #[.int .i64 f,.int .i64 n] 80)) (w.heap.size+1) 80 [.int .i64 f,.int .i64 n]:=by
    have:=heap_alloc_new (w.alloc (.cells #[.int .i64 f,.int .i64 n,.slice (some ⟨w.heap.size+1,0,none⟩) 1 1] 83)) (.cells #[.int .i64 f,.int .i64 n] 80)
    rw[World.size_alloc]at this
    exact this
   have TQ:(Be f n).fr=[(f,n)]:=by unfold Be;simp[h]
   refine⟨_,fun k=>k=w.heap.size∨k=w.heap.size+1,rfl,⟨DY.out,.slice (some ⟨w.heap.size+1,0,none⟩) 1 1,hr,?_,fun k=>?_⟩,fun k hk=>by omega,hb⟩
   ·rw[TQ]
    exact(CN.own (cap:=1) ⟨he,rfl,Nat.le_refl _,by omega,rfl,rfl⟩)
   ·simp only[Value.ownBlock]
    constructor
    ·rintro(h|h)
     ·exact .inl h
     ·exact .inr (by rw[h])
    ·rintro(h|h)
     ·exact .inl h
     ·injection h with h;exact .inr h.symm
  have HX:=Lib.hid hx
  clear hx h hf hn
  go_enter Tryz.func32,Tryz.ntmps32
  go_wp2
  go_ret
  exact HX.out _ rfl
theorem XR{l:List Ex}{k:Nat}(hk:k<l.length):Az (l.take (k+1))=Az (l.take k)+(Ae l k).2:=by
 rw[List.take_add_one,List.getElem?_eq_getElem hk,DN hk,Ao]
 simp[Az]
theorem fQ{l:List Ex}(k:Nat):Az (l.take k)≤Az l:=by
 conv=>rhs;rw[←List.take_append_drop k l,Ao]
 omega
theorem TY(p:Nat)(s:Sp)(G:Nat→Prop)(w:World)(h:Es w G p s):Calls Tryz.prog 17 #[.pointer (some ⟨p,0,none⟩)] w fun e w'=>e=.returned (.int .i64 (Az s.fr:Nat))∧Below w.heap.size w w':=by
 obtain⟨h0,v,hr,ho,hG⟩:=h
 obtain⟨A,c,rfl,hnc,Dn,_⟩:=AT ho
 have c2:w.cell? ⟨p,2,none⟩=some (.slice A s.fr.length c):=hr.cell 2
 have Bm:=hr.lt
 obtain⟨n,hn⟩:∃n,s.fr.length=n:=⟨_,rfl⟩
 have hlen:=h0.len
 have JN:Az s.fr≤4000000:=by have:=h0.2.2.sum;have:=h0.2.1;omega
 generalize hl:s.fr=l at*
 have HN:=Lib.hid hn
 rw[hn]at c2 hlen
 have HO:Hid (w.ownsRow 0 80 2 (.slice A n c) n (AE l)):=by rw[←hn];exact ho
 have HS:=Lib.hid JN
 have AA2:Hid (Az (l.take n)=Az l):=by unfold Hid;rw[List.take_of_length_le (by omega)]
 clear h0 hr ho hG hn JN
 go_enter Tryz.func17,Tryz.ntmps17
 go_wp2
 go_loopw [3,13] (fun sv iv wr=>∃k:Nat,k≤n∧iv=.int .i64 k∧sv=.int .i64 (Az (l.take k):Nat)∧Below w.heap.size w wr) (fun _ iv _=>n-(intOf iv).toNat)
 case atStart=>exact⟨0,by omega,rfl,rfl,Below.refl _ _⟩
 case round=>
  obtain⟨k,hk,rfl,rfl,En⟩:=hrel
  have T9:=Lib.hid En
  by_cases hlt:k<n
  ·obtain⟨g,rfl,hg,IM,Hh⟩:=EI (At HO.out En) hlt
   obtain⟨a,ha⟩:∃a,(Ae l k).1=a:=⟨_,rfl⟩
   obtain⟨b,hb⟩:∃b,(Ae l k).2=b:=⟨_,rfl⟩
   have hst:=XR (l:=l) (k:=k) (by have:=HN.out;omega)
   have hle:=fQ (l:=l) (k+1)
   rw[ha]at IM
   rw[hb]at Hh hst
   obtain⟨t,ht⟩:∃t,Az (l.take k)=t:=⟨_,rfl⟩
   obtain⟨u,hu⟩:∃u,Az (l.take (k+1))=u:=⟨_,rfl⟩
   rw[ht]
   rw[ht,hu]at hst
   rw[hu]at hle
   have Ls:(t:Int)+(b:Int)=(u:Int):=by omega
   have Ou:IntKind.i64.wrap (u:Int)=(u:Int):=IntWalk.i64_in _ (by have:=HS.out;omega)
   have HU:=Lib.hid hu
   clear hst hle ha hb ht hu En
   go_wp2
   have Bt:=Lib.hid (T9.out.alloc (by have:=T9.out.size;omega) (.cells #[.int .i64 a,.int .i64 b] 80))
   go_roundw
   case rel=>exact⟨k+1,by omega,by go_num,by rw[HU.out],Bt.out⟩
   case measure=>simp[intOf];omega
  ·obtain rfl:k=n:=by omega
   rw[AA2.out]
   clear En
   go_wp2
   go_ret
   exact⟨rfl,T9.out⟩
theorem Xw(b1 b2 p n c i:Nat)(A:Option Addr)(l:List Ex)(at_:Int)(W:World)(h1:W.cell? ⟨b1,0,none⟩=some (.pointer (some ⟨p,0,none⟩)))(h2:W.cell? ⟨b2,0,none⟩=some (.int .i64 at_))(h3:W.cell? ⟨p,2,none⟩=some (.slice A n c))
  (ho:W.ownsRow 0 80 2 (.slice A n c) n (AE l)) (hi:i<n) (hs:(Ae l i).1+(Ae l i).2≤4000000):
  Calls Tryz.prog 109 #[.int .i64 i,.pointer (some ⟨b1,0,none⟩),.pointer (some ⟨b2,0,none⟩)] W fun e w'=>e=.returned (.bool (decide (at_<((Ae l i).1+(Ae l i).2:Nat))))∧Below W.heap.size W w':=by
 obtain⟨g,rfl,hg,IM,Hh⟩:=EI ho hi
 generalize(Ae l i).1=a at*
 generalize(Ae l i).2=b at*
 have l1:=block_lt_of_cell h1
 have l2:=block_lt_of_cell h2
 have l3:=block_lt_of_cell h3
 obtain⟨u,hu⟩:∃u,a+b=u:=⟨_,rfl⟩
 have HE:Hid (∀w,Calls Tryz.prog 96 #[.agg #[.int .i64 a,.int .i64 b]] w fun e w'=>e=.returned (.int .i64 (u:Nat))∧Below w.heap.size w w'):=fun w=>by have:=EO a b w hs;rwa [hu]at this
 rw[hu]
 have i0:(0:Int)≤(i:Int):=by omega
 have i1:(i:Int)<(n:Int):=by omega
 clear hu hs ho
 go_enter Tryz.func109,Tryz.ntmps109
 go_wp2
 go_region_held3 (fun w'=>w'.cell? ⟨b1,0,none⟩=some (.pointer (some ⟨p,0,none⟩))∧w'.cell? ⟨b2,0,none⟩=some (.int .i64 at_)∧w'.cell? ⟨p,2,none⟩=some (.slice (some ⟨g,0,none⟩) n c)∧w'.cell? ⟨g,i*2,none⟩=some (.int .i64 a)∧w'.cell? ⟨g,i*2+1,none⟩=some (.int .i64 b))
  (first|go_keep|(go_split_ands;refine⟨?_,?_,?_,?_,?_⟩<;>(first|assumption|(rw[A8.cell (by first|(simp;done)|(simp;omega))];assumption)))) ((go_at_call 96;refine(HE.out _).mono ?_;rintro e w2 ⟨rfl,A8⟩))
 have HB:Hid (Below W.heap.size W w2):=(AF (Below.refl W.heap.size W) 1).trans A8
 clear A8
 go_wp2
 go_ret
 refine⟨?_,HB.out⟩
 first|rfl|(simp only[gt_iff_lt])
theorem XK(b1:Nat)(a b:Nat)(n:Int)(W:World)(h1:W.cell? ⟨b1,0,none⟩=some (.int .i64 n)):
  Calls Tryz.prog 102 #[.agg #[.int .i64 a,.int .i64 b],.pointer (some ⟨b1,0,none⟩)] W fun e w'=>e=.returned (.bool (decide (n≤(b:Int))))∧Below W.heap.size W w':=by
 have l1:=block_lt_of_cell h1
 have h2:(W.alloc (.cells #[.int .i64 a,.int .i64 b] 80)).cell? ⟨b1,0,none⟩=some (.int .i64 n):=Lib.cell?_alloc_some _ h1
 have HB:=Lib.hid ((Below.refl W.heap.size W).alloc (Nat.le_refl _) (.cells #[.int .i64 a,.int .i64 b] 80))
 go_enter Tryz.func102,Tryz.ntmps102
 go_wp2
 go_ret
 refine⟨?_,HB.out⟩
 first|rfl|(simp only[ge_iff_le])
theorem UX(n:Nat)(q:Nat→Bool)(fs:Array Value)(w:World)(hn:n≤2000000)(kG:∀i j,i≤j→j<n→q i=true→q j=true)
  (hp:∀W k,k<n→Below w.heap.size w W→Calls Tryz.prog 109 (#[.int .i64 (k:Nat)]++fs) W fun e w'=>e=.returned (.bool (q k))∧Below w.heap.size w w'):
  Calls Tryz.prog 108 #[.int .i64 n,.func (.func 109) #[] fs] w fun e w'=>∃i:Nat,e=.returned (.int .i64 i)∧i≤n∧(∀k,k<i→q k=false)∧(i<n→q i=true)∧Below w.heap.size w w':=by
 have HP:=Lib.hid hp
 have HM:=Lib.hid kG
 clear hp kG
 go_enter Tryz.func108,Tryz.ntmps108
 go_wp2
 go_loopw [5,6] (fun iv jv wr=>∃i j:Nat,i≤j∧j≤n∧iv=.int .i64 i∧jv=.int .i64 j∧Below w.heap.size w wr∧Hid (∀k,k<i→q k=false)∧Hid (j<n→q j=true)) (fun iv jv _=>(intOf jv).toNat-(intOf iv).toNat)
 case atStart=>exact⟨0,n,by omega,Nat.le_refl _,rfl,rfl,Below.refl _ _,fun k hk=>absurd hk (by omega),fun h=>absurd h (by omega)⟩
 case round=>
  obtain⟨i,j,Fq,hj,rfl,rfl,En,HI,HJ⟩:=hrel
  have T9:=Lib.hid En
  by_cases hlt:i<j
  ·obtain⟨ij,JN⟩:∃ij:Nat,ij=i+j:=⟨_,rfl⟩
   obtain⟨h,hh⟩:∃h:Nat,h=ij/2:=⟨_,rfl⟩
   have Mf:i≤h:=by omega
   have yt:h<j:=by omega
   have Ls:(i:Int)+(j:Int)=(ij:Int):=by omega
   have Ou:IntKind.i64.wrap (ij:Int)=(ij:Int):=IntWalk.i64_in _ (by omega)
   have hdiv:(ij:Int)/2=(h:Int):=by omega
   clear En JN hh
   go_wp2_with fail
   refine(HP.out wr h (by omega) T9.out).mono ?_
   rintro e w2 ⟨rfl,AZ⟩
   have Bt:=Lib.hid AZ
   clear AZ
   cases hq:q h with
   |true=>
    have HQ:Hid (∀k,k<h→k<i→q k=false):=fun k _ hk=>HI.out k hk
    have qY:Hid (h<n→q h=true):=fun _=>hq
    clear hq
    go_wp2
    go_roundw
    case rel=>exact⟨i,h,Mf,by omega,rfl,rfl,Bt.out,HI.out,qY.out⟩
    case measure=>simp[intOf];omega
   |false=>
    have HQ:Hid (∀k,k<h+1→q k=false):=fun k hk=>by
     rcases Nat.lt_or_ge k h with h1|h1
     ·cases Fe:q k with
      |false=>rfl
      |true=>have:=HM.out k h (by omega) (by omega) Fe;rw[hq]at this;cases this
     ·obtain rfl:k=h:=by omega
      exact hq
    clear hq
    go_wp2
    go_roundw
    case rel=>exact⟨h+1,j,by omega,hj,by go_num,rfl,Bt.out,HQ.out,HJ.out⟩
    case measure=>simp[intOf];omega
  ·obtain rfl:i=j:=by omega
   clear En
   go_wp2
   go_ret
   exact⟨i,rfl,hj,HI.out,HJ.out,T9.out⟩
def DL(l:List Ex)(a:Int):Nat:=l.findIdx fun x=>decide (a<((x.1+x.2:Nat):Int))
theorem Pp(l:List Ex)(a:Nat):DL l (a:Int)=BB l a:=by
 unfold DL BB
 congr 1;funext x
 rw[Bool.eq_iff_iff];simp only[decide_eq_true_eq];omega
theorem NW(p:Nat)(s:Sp)(G:Nat→Prop)(a:Int)(w:World)(h:Es w G p s):Calls Tryz.prog 89 #[.pointer (some ⟨p,0,none⟩),.int .i64 a] w fun e w'=>e=.returned (.int .i64 (DL s.fr a:Nat))∧Below w.heap.size w w':=by
 obtain⟨h0,v,hr,ho,hG⟩:=h
 obtain⟨A,c,rfl,hnc,Dn,_⟩:=AT ho
 have hlen:=h0.len
 have hcan:=h0.2.2
 have Mf:s.first+s.blocks≤4000000:=by have:=h0.1;have:=h0.2.1;omega
 generalize s.first+s.blocks=hi at*
 generalize s.first=lo at*
 generalize hl:s.fr=l at*
 obtain⟨n,hn⟩:∃n,l.length=n:=⟨_,rfl⟩
 rw[hn]at ho hlen hnc
 have hB:=((Below.refl w.heap.size w).alloc (Nat.le_refl _) (.cells #[.pointer (some ⟨p,0,none⟩)] 43)).alloc (by simp) (.cells #[.int .i64 a] 3)
 have k1:((w.alloc (.cells #[.pointer (some ⟨p,0,none⟩)] 43)).alloc (.cells #[.int .i64 a] 3)).cell? ⟨w.heap.size,0,none⟩=some (.pointer (some ⟨p,0,none⟩)):=by
  have h1:Row (w.alloc (.cells #[.pointer (some ⟨p,0,none⟩)] 43)) w.heap.size 43 [.pointer (some ⟨p,0,none⟩)]:=heap_alloc_new _ _
  exact(h1.alloc _).cell 0
 have k2:((w.alloc (.cells #[.pointer (some ⟨p,0,none⟩)] 43)).alloc (.cells #[.int .i64 a] 3)).cell? ⟨w.heap.size+1,0,none⟩=some (.int .i64 a):=by
  have h1:Row ((w.alloc (.cells #[.pointer (some ⟨p,0,none⟩)] 43)).alloc (.cells #[.int .i64 a] 3)) (w.heap.size+1) 3 [.int .i64 a]:=by
   have:=heap_alloc_new (w.alloc (.cells #[.pointer (some ⟨p,0,none⟩)] 43)) (.cells #[.int .i64 a] 3)
   rw[World.size_alloc]at this
   exact this
  exact h1.cell 0
 have k3:((w.alloc (.cells #[.pointer (some ⟨p,0,none⟩)] 43)).alloc (.cells #[.int .i64 a] 3)).cell? ⟨p,2,none⟩=some (.slice A n c):=((hr.alloc _).alloc _).cell 2|>.trans (by rw[←hn,←hl];rfl)
 have k4:=At ho hB
 generalize hW:(w.alloc (.cells #[.pointer (some ⟨p,0,none⟩)] 43)).alloc (.cells #[.int .i64 a] 3)=W at*
 have hq:∀W' k,k<n→Below W.heap.size W W'→Calls Tryz.prog 109 (#[.int .i64 (k:Nat)]++#[.pointer (some ⟨w.heap.size,0,none⟩),.pointer (some ⟨w.heap.size+1,0,none⟩)]) W' fun e w'=>e=.returned (.bool (decide (a<((Ae l k).1+(Ae l k).2:Nat))))∧Below W.heap.size W w':=fun W' k hk hb=>by
  refine(Xw w.heap.size (w.heap.size+1) p n c k A l a W' ?_ ?_ ?_ (At k4 hb) hk ?_).mono fun e w' h=>⟨h.1,hb.trans (h.2.mono hb.size)⟩
  ·exact(hb.cell (block_lt_of_cell k1)).trans k1
  ·exact(hb.cell (block_lt_of_cell k2)).trans k2
  ·exact(hb.cell (block_lt_of_cell k3)).trans k3
  ·have:=hcan.getD (show k<l.length by omega);omega
 have rj:=UX n (fun k=>decide (a<((Ae l k).1+(Ae l k).2:Nat))) #[.pointer (some ⟨w.heap.size,0,none⟩),.pointer (some ⟨w.heap.size+1,0,none⟩)] W (by omega) (fun i j Fq hj bX=>by
   simp only[decide_eq_true_eq]at bX⊢
   rcases Nat.lt_or_ge i j with h1|h1
   ·have:=hcan.ends h1 (by omega);omega
   ·obtain rfl:i=j:=by omega
    exact bX) hq
 have hres:Calls Tryz.prog 108 #[.int .i64 n,.func (.func 109) #[] #[.pointer (some ⟨w.heap.size,0,none⟩),.pointer (some ⟨w.heap.size+1,0,none⟩)]] W fun e w'=>e=.returned (.int .i64 (DL l a:Nat))∧Below w.heap.size w w':=rj.mono fun e w' h=>by
  obtain⟨i,rfl,h1,h2,h3,h4⟩:=h
  have:DL l a=i:=Dy (by omega) h2 (fun h=>h3 (by omega))
  rw[this]
  exact⟨rfl,hB.trans (h4.mono hB.size)⟩
 have HR:=Lib.hid hres
 have K1:=Lib.hid k1
 generalize DL l a=z at*
 subst hW
 clear hres rj hq hcan h0 hr ho k4 hB hn k1 hl hG
 go_enter Tryz.func89,Tryz.ntmps89
 go_wp2_with fail
 refine HR.out.mono ?_
 rintro e w2 ⟨rfl,hb⟩
 have HB:=Lib.hid hb
 clear hb
 go_wp2
 go_ret
 exact⟨rfl,HB.out⟩
theorem Up(b1:Nat)(m:Int)(A:Option Addr)(n c:Nat)(l:List Ex)(w:World)(h1:w.cell? ⟨b1,0,none⟩=some (.int .i64 m))(ho:w.ownsRow 0 80 2 (.slice A n c) n (AE l))(hl:l.length=n)(hn:n≤2000000):
  Calls Tryz.prog 101 #[.slice A n c,.func (.func 102) #[] #[.pointer (some ⟨b1,0,none⟩)]] w fun e w'=>
   (∃i:Nat,i<n∧(∀k,k<i→decide (m≤((Ae l k).2:Int))=false)∧decide (m≤((Ae l i).2:Int))=true∧e=.returned (.int .i64 i)∧Below w.heap.size w w')∨((∀k,k<n→decide (m≤((Ae l k).2:Int))=false)∧e=.returned (.int .i64 (-1))∧Below w.heap.size w w'):=by
 have HO:=Lib.hid ho
 have H1:=Lib.hid h1
 have Am:=block_lt_of_cell h1
 clear ho h1
 go_enter Tryz.func101,Tryz.ntmps101
 go_wp2
 go_loopw [5,8] (fun _ iv wr=>∃k:Nat,k≤n∧iv=.int .i64 k∧Below w.heap.size w wr∧Hid (∀j,j<k→decide (m≤((Ae l j).2:Int))=false)) (fun _ iv _=>n-(intOf iv).toNat)
 case atStart=>exact⟨0,by omega,rfl,Below.refl _ _,fun j hj=>absurd hj (by omega)⟩
 case round=>
  obtain⟨k,hk,rfl,En,HK⟩:=hrel
  have T9:=Lib.hid En
  by_cases hlt:k<n
  ·obtain⟨g,rfl,hg,IM,Hh⟩:=EI (At HO.out En) hlt
   have Lo:=XK b1 (Ae l k).1 (Ae l k).2 m wr ((En.cell Am).trans H1.out)
   have HX:Hid (Ae l k=((Ae l k).1,(Ae l k).2)):=rfl
   generalize(Ae l k).1=a at*
   cases hq:decide (m≤((Ae l k).2:Int))with
   |true=>
    rw[hq]at Lo
    have HC:=Lib.hid Lo
    have HQ:=Lib.hid hq
    generalize(Ae l k).2=b at Hh HC
    clear En Lo hq
    go_wp2_with fail
    refine HC.out.mono ?_
    rintro e w2 ⟨rfl,AZ⟩
    have Bt:=Lib.hid (T9.out.trans (AZ.mono T9.out.size))
    clear AZ
    go_wp2
    go_ret
    exact .inl ⟨k,hlt,HK.out,HQ.out,rfl,Bt.out⟩
   |false=>
    rw[hq]at Lo
    have HC:=Lib.hid Lo
    have HQ:Hid (∀j,j<k+1→decide (m≤((Ae l j).2:Int))=false):=fun j hj=>by
     rcases Nat.lt_or_ge j k with h1|h1
     ·exact HK.out j h1
     ·obtain rfl:j=k:=by omega
      exact hq
    generalize(Ae l k).2=b at Hh HC
    clear En Lo hq
    go_wp2_with fail
    refine HC.out.mono ?_
    rintro e w2 ⟨rfl,AZ⟩
    have Bt:=Lib.hid (T9.out.trans (AZ.mono T9.out.size))
    clear AZ
    go_wp2
    go_roundw
    case rel=>exact⟨k+1,by omega,by go_num,Bt.out,HQ.out⟩
    case measure=>simp[intOf];omega
  ·obtain rfl:k=n:=by omega
   clear En
   go_wp2
   go_ret
   exact .inr ⟨HK.out,rfl,T9.out⟩
end Go.Proofs.YteldegofbbfaeaaGreat
