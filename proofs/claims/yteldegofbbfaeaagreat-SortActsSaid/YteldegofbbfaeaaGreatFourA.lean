/- What the laws stand on. -/
import Derived.Laws.BitsAllLaws
import Derived.Test.YteldegofbbfaeaaGreatRows
import Derived.WalkKit
import Derived.ProofKit
import Derived.OpenShut
import Derived.LoopTactic
import Derived.Outline
import Derived.Lib.Varint
import Derived.Lib.Hide
import Derived.Deep.QuietTactic
import Derived.BigQuiet
import Derived.Below
import Derived.Deep.Draws
import Derived.Laws.CopyOwn
import Derived.Laws.OwnMore
import Derived.Laws.MakeOwn
import Derived.Laws.Bits64b
import Derived.OwnWalk
import Derived.Laws.BytesArg
import Derived.Deep.RegionHeld3
import Derived.Deep.AppendLies
import Derived.Deep.DeepCutAuto
import Derived.Deep.CutBlock
import Derived.Lib.SmallJoins
import Derived.Deep.Slices
import Derived.Deep.Fields
import Derived.Maps.AppendAt
import Derived.Lib.AppendZerosOnto
import Derived.Lib.Overlaps
import Derived.Deep.RegionLaw
import Derived.Laws.Externs
import Derived.IntWalk
import Derived.Lib.QuietBelow
import Derived.Lib.SliceRun
import Derived.BigRegion
import Derived.Maps.OwnSet
import Derived.Maps.RangeWalk
import Derived.Shelf.SlMaps.Clone
import Derived.LaidEqlPtr
import Derived.WalkSpells
import Derived.ChangeKeysEq
import Derived.Laws.StructEq
import Derived.Defers
import Derived.Deep.CutRange
import Derived.StillTailTactics
import Derived.ShutString
import Derived.ChangeOld
namespace Go.Proofs.YteldegofbbfaeaaGreat
set_option linter.unusedVariables false
set_option maxRecDepth 100000
set_option maxHeartbeats 8000000
open Go.ChangeShapes Go.WideShapes Go.ChangeAt Go.RowKit
open Go.Joins Go.Deep
open Go.ChangeShapes Go.WideShapes Go.ChangeAt Go.RowKit Go.Maps
open Go.ChangeMaps (setBlock heap_setBlock_same heap_setBlock_other)
def st(n:Nat):Nat:=if n%2=1 then n/2^^^3988292384 else n/2
def cL:Nat→Nat→Nat
 |0,n=>n
 |k+1,n=>cL k (st n)
def eS(r c:Nat):Nat:=cL 8 (r^^^c)
def wd:Nat→Nat→Nat→Nat
 |0,r,_=>r
 |k+1,r,x=>wd k (eS r (x%256)) (x/256)
def top:Nat:=4294967295
def og(m n:Nat):Nat:=m^^^n
def cm(n:Nat):Nat:=og top n
def nx(s x:Nat):Nat:=cm (wd 8 (cm s) x)
def sm(l:List Nat):Nat:=l.foldl nx 0
def run(r:Nat)(l:List Nat):Nat:=l.foldl (wd 8) r
theorem gn{a:Nat}(h:a<4294967296):st a<4294967296:=by
 unfold st
 split
 ·exact Nat.xor_lt_two_pow (n:=32) (by omega) (by decide)
 ·omega
theorem jw(k:Nat):∀{a},a<4294967296→cL k a<4294967296:=by
 induction k with
 |zero=>intro a h;exact h
 |succ k ih=>intro a h;exact ih (gn h)
theorem Yk(j:Nat):∀k a,cL (k+j) a=cL k (cL j a):=by
 induction j with
 |zero=>intro k a;rfl
 |succ j ih=>intro k a;exact ih k (st a)
theorem VD{r c:Nat}(hr:r<4294967296)(hc:c<256):eS r c<4294967296:=jw 8 (Nat.xor_lt_two_pow (n:=32) hr (by omega))
theorem gm(k:Nat):∀{r:Nat} (x:Nat),r<4294967296→wd k r x<4294967296:=by
 induction k with
 |zero=>intro r x h;exact h
 |succ k ih=>intro r x h;exact ih _ (VD h (by omega))
theorem VZ{n:Nat}(h:n<4294967296):cm n<4294967296:=show og top n< _ from Nat.xor_lt_two_pow (n:=32) (by decide) h
theorem Vy(m n:Nat):og m (og m n)=n:=by unfold og;rw[←Nat.xor_assoc,Nat.xor_self,Nat.zero_xor]
theorem ry(n:Nat):cm (cm n)=n:=Vy _ n
theorem Rs{s:Nat}(x:Nat)(h:s<4294967296):nx s x<4294967296:=VZ (gm 8 x (VZ h))
theorem pg(r x:Nat):nx (cm r) x=cm (wd 8 r x):=by unfold nx;rw[ry]
theorem Pt(l:List Nat)(x:Nat):sm (l++[x])=nx (sm l) x:=by unfold sm;simp
theorem dm(r:Nat):run r []=r:=by unfold run;rw[List.foldl_nil]
theorem Y2(r x:Nat)(l:List Nat):run r (x::l)=run (wd 8 r x) l:=by unfold run;rw[List.foldl_cons]
theorem ag(l:List Nat):∀r,l.foldl nx (cm r)=cm (run r l):=by
 induction l with
 |nil=>intro r;rw[List.foldl_nil,dm]
 |cons x l ih=>intro r;rw[List.foldl_cons,pg,ih,Y2]
theorem mY:cm 4294967295=0:=by decide
theorem kF(l:List Nat):sm l=cm (run 4294967295 l):=by
 rw[←ag,mY];unfold sm;exact Eq.refl _
theorem kI(l:List Nat):∀{r},r<4294967296→run r l<4294967296:=by
 induction l with
 |nil=>intro r h;exact h
 |cons x l ih=>intro r h;exact ih (gm 8 x h)
theorem On(l:List Nat):sm l<4294967296:=by rw[kF];exact VZ (kI l (by decide))
def I6(l:List Nat):Prop:=∀x∈l,x<18446744073709551616
def DY(l:List Nat)(num ad:Nat):Nat:=num*4294967296+sm (l++[num,ad])
def Bi(size tag:Nat)(pl:List Nat):List Nat:=pl++List.replicate (size-2-pl.length) 0++[tag]
def DB(size ad tag:Nat)(pl:List Nat):List Nat:=Bi size tag pl++[DY (Bi size tag pl) (pl.length+1) ad]
def CW(b:List Nat):Nat:=b.getD (b.length-1) 0/4294967296
def Kl(b:List Nat):Nat:=b.getD (b.length-2) 0
def okW(b:List Nat)(ad:Nat):Bool:=decide (1≤CW b)&&decide (CW b≤b.length-1)&&decide (b=DB b.length ad (Kl b) (b.take (CW b-1)))
theorem K9{size tag:Nat}{pl:List Nat}(h:pl.length≤size-2)(h2:2≤size):(Bi size tag pl).length=size-1:=by
 unfold Bi;simp;omega
theorem IM{size ad tag:Nat}{pl:List Nat}(h:pl.length≤size-2)(h2:2≤size):(DB size ad tag pl).length=size:=by
 unfold DB;rw[List.length_append,K9 h h2];simp;omega
theorem eV{l:List Nat}{num ad:Nat}(h:num<4294967296):DY l num ad<18446744073709551616:=by
 unfold DY;have:=On (l++[num,ad]);omega
theorem Zf{l:List Nat}{num ad:Nat}:DY l num ad/4294967296=num:=by
 unfold DY;have:=On (l++[num,ad]);omega
theorem eU{l:List Nat}{num ad:Nat}:num*4294967296|||sm (l++[num,ad])=DY l num ad:=by
 unfold DY
 rw[show num*4294967296=2^32*num by rw[Nat.mul_comm]]
 exact(Nat.two_pow_add_eq_or_of_lt (i:=32) (On _) num).symm
theorem PJ{size tag:Nat}{pl:List Nat}(hp:I6 pl)(ht:tag<18446744073709551616):I6 (Bi size tag pl):=by
 intro x hx
 unfold Bi at hx
 rcases List.mem_append.1 hx with hx|hx
 ·rcases List.mem_append.1 hx with hx|hx
  ·exact hp x hx
  ·rw[List.mem_replicate]at hx;omega
 ·simp at hx;omega
theorem Yw{size ad tag:Nat}{pl:List Nat}(hp:I6 pl)(ht:tag<18446744073709551616)(hn:pl.length+1<4294967296):I6 (DB size ad tag pl):=by
 intro x hx
 unfold DB at hx
 rcases List.mem_append.1 hx with hx|hx
 ·exact PJ hp ht x hx
 ·simp at hx;subst hx;exact eV hn
theorem NT{α:Type}{l m:List α}{k:Nat}{x d:α}(h:l.length=k):(l++x::m).getD k d=x:=by
 rw[List.getD_eq_getElem?_getD,List.getElem?_append_right (by omega),h,Nat.sub_self];rfl
theorem WT{size ad tag:Nat}{pl:List Nat}(h:pl.length≤size-2)(h2:2≤size):(DB size ad tag pl).getD (size-1) 0=DY (Bi size tag pl) (pl.length+1) ad:=by
 unfold DB;exact NT (K9 h h2)
theorem RX{size ad tag:Nat}{pl:List Nat}(h:pl.length≤size-2)(h2:2≤size):CW (DB size ad tag pl)=pl.length+1:=by
 unfold CW;rw[IM h h2,WT h h2,Zf]
theorem RW{size ad tag:Nat}{pl:List Nat}(h:pl.length≤size-2)(h2:2≤size):Kl (DB size ad tag pl)=tag:=by
 unfold Kl;rw[IM h h2]
 unfold DB
 have e:Bi size tag pl++[DY (Bi size tag pl) (pl.length+1) ad]=(pl++List.replicate (size-2-pl.length) 0)++tag::[DY (Bi size tag pl) (pl.length+1) ad]:=by
  conv=>lhs;unfold Bi
  rw[List.append_assoc,List.singleton_append];rfl
 rw[e]
 exact NT (by simp;omega)
theorem Oq{size ad tag:Nat}{pl:List Nat}:(DB size ad tag pl).take pl.length=pl:=by
 unfold DB Bi
 rw[List.append_assoc,List.append_assoc]
 exact List.take_left' rfl
theorem di{size ad tag:Nat}{pl:List Nat}(h:pl.length≤size-2)(h2:2≤size):okW (DB size ad tag pl) ad=true:=by
 unfold okW
 rw[RX h h2,RW h h2,IM h h2,Nat.add_sub_cancel,Oq]
 simp;omega
theorem Ts{b:List Nat}{n p:Nat}(hn:b.length=n)(h2:2≤n)(hp:p≤n-2):
  b=b.take p++(b.drop p).take (n-2-p)++[b.getD (n-2) 0]++[b.getD (n-1) 0]∧b.take (n-1)=b.take p++(b.drop p).take (n-2-p)++[b.getD (n-2) 0]:=by
 have h1:b.take (n-1)=b.take (n-2)++[b.getD (n-2) 0]:=by
  rw[show n-1=n-2+1 by omega,List.take_succ_eq_append_getElem (by omega),List.getD_eq_getElem?_getD,List.getElem?_eq_getElem (by omega)];rfl
 have h0:b.take (n-2)=b.take p++(b.drop p).take (n-2-p):=by
  conv=>lhs;rw[show n-2=p+(n-2-p)by omega]
  rw[List.take_add]
 have h3:b.take n=b.take (n-1)++[b.getD (n-1) 0]:=by
  conv=>lhs;rw[show n=n-1+1 by omega]
  rw[List.take_succ_eq_append_getElem (by omega),List.getD_eq_getElem?_getD,List.getElem?_eq_getElem (by omega)];rfl
 refine⟨?_,by rw[h1,h0]⟩
 rw[←h0,←h1,←h3,List.take_of_length_le (by omega)]
theorem Qk{l:List Nat}:(∀x∈l,x=0)↔l=List.replicate l.length 0:=by
 rw[List.eq_replicate_iff];simp
theorem kT{b:List Nat}{ad n:Nat}(hn:b.length=n)(h2:2≤n)(h3:1≤CW b)(h4:CW b≤n-1):
  okW b ad=true↔(∀x∈(b.drop (CW b-1)).take (n-2-(CW b-1)),x=0)∧b.getD (n-1) 0=DY (b.take (n-1)) (CW b) ad:=by
 have hp:CW b-1≤n-2:=by omega
 obtain⟨e1,e2⟩:=Ts hn h2 hp
 have hlen:(b.take (CW b-1)).length=CW b-1:=by rw[List.length_take];omega
 have Du:((b.drop (CW b-1)).take (n-2-(CW b-1))).length=n-2-(CW b-1):=by rw[List.length_take,List.length_drop];omega
 have hok:okW b ad=true↔b=DB n ad (b.getD (n-2) 0) (b.take (CW b-1)):=by
  unfold okW Kl
  rw[hn]
  simp[h3,h4]
 rw[hok,Qk,Du]
 have hS:DB n ad (b.getD (n-2) 0) (b.take (CW b-1))=b.take (CW b-1)++List.replicate (n-2-(CW b-1)) 0++[b.getD (n-2) 0]++[DY (b.take (CW b-1)++List.replicate (n-2-(CW b-1)) 0++[b.getD (n-2) 0]) (CW b) ad]:=by
  unfold DB Bi
  rw[hlen,show CW b-1+1=CW b by omega]
 rw[hS,e2]
 generalize b.take (CW b-1)=P at*
 generalize(b.drop (CW b-1)).take (n-2-(CW b-1))=M at*
 generalize n-2-(CW b-1)=k at*
 generalize b.getD (n-2) 0=t at*
 generalize b.getD (n-1) 0=z at*
 generalize CW b=num at*
 constructor
 ·intro h
  rw[e1]at h
  have h5:=List.append_inj h (by simp[Du])
  have h6:=List.append_inj h5.1 (by simp[Du])
  have h7:=List.append_inj h6.1 rfl
  refine⟨h7.2,?_⟩
  have h8:z=DY (P++List.replicate k 0++[t]) num ad:=by simpa using h5.2
  rw[h7.2];exact h8
 ·rintro⟨h5,h6⟩
  conv=>lhs;rw[e1,h6]
  rw[h5]
theorem MG{k:IntKind}{a b:Int}(h:a=b):Ending.returned (.int k a)=.returned (.int k b):=by rw[h]
theorem Di{a b:Bool}(h:a=b):Ending.returned (.bool a)=.returned (.bool b):=by rw[h]
def Reads(k:IntKind)(w:World)(B:Nat)(a:Option Addr)(n:Nat)(l:List Nat):Prop:=
 l.length=n∧(∀x∈l,(Lit.int k x).wf=true)∧
 (0<n→∃b off,a=some ⟨b,off,none⟩∧b<B∧∀i,i<n→w.cell? ⟨b,off+i,none⟩=some (.int k (l.getD i 0:Nat)))
theorem Reads.at_{k:IntKind}{w:World}{B:Nat}{a:Option Addr}{n:Nat}{l:List Nat}(h:Reads k w B a n l){i:Nat}(hi:i<n):
  ∃b off c,a=some ⟨b,off,none⟩∧b<B∧w.cell? ⟨b,off+i,none⟩=some (.int k (c:Nat))∧(Lit.int k c).wf=true∧Hid (c=l.getD i 0):=by
 obtain⟨hl,hw,hc⟩:=h
 obtain⟨b,off,rfl,hb,hc⟩:=hc (by omega)
 refine⟨b,off,l.getD i 0,rfl,hb,hc i hi,hw _ ?_,rfl⟩
 have:i<l.length:=by omega
 rw[List.getD_eq_getElem?_getD,List.getElem?_eq_getElem this]
 exact List.getElem_mem this
theorem Reads.CL{k:IntKind}{w w':World}{B:Nat}{a:Option Addr}{n:Nat}{l:List Nat}(h:Reads k w B a n l)(hb:Below B w w'):Reads k w' B a n l:=by
 obtain⟨hl,hw,hc⟩:=h
 refine⟨hl,hw,fun hn=>?_⟩
 obtain⟨b,off,rfl,MK,hc⟩:=hc hn
 exact⟨b,off,rfl,MK,fun i hi=>(hb.cell (p:=⟨b,off+i,none⟩) MK).trans (hc i hi)⟩
theorem Reads.drewN{k:IntKind}{w:World}{B:Nat}{a:Option Addr}{n:Nat}{l:List Nat}(h:Reads k w B a n l)(m:Nat):Reads k (w.drewN m) B a n l:=h
theorem Reads.mono{k:IntKind}{w:World}{B B':Nat}{a:Option Addr}{n:Nat}{l:List Nat}(h:Reads k w B a n l)(hb:B≤B'):Reads k w B' a n l:=by
 obtain⟨hl,hw,hc⟩:=h
 refine⟨hl,hw,fun hn=>?_⟩
 obtain⟨b,off,rfl,MK,hc⟩:=hc hn
 exact⟨b,off,rfl,by omega,hc⟩
theorem AG{B:Nat}{a w:World}(h:Below B a w)(n:Nat):Below B a (w.drewN n):=⟨h.os,h.tape,h.output,h.size,h.block⟩
theorem Md{c:Nat}(h:(Lit.int .u64 c).wf=true):c<18446744073709551616:=by
 simp[Lit.wf,IntKind.min,IntKind.max,IntKind.signed,IntKind.bits]at h;omega
theorem Kk{c:Nat}(h:c<18446744073709551616):(Lit.int .u64 c).wf=true:=by
 simp[Lit.wf,IntKind.min,IntKind.max,IntKind.signed,IntKind.bits];omega
theorem info_parts{t:TypeId}{z:Value}{s b:Nat}(h:(Tryz.prog.info? t).map (fun i=>(i.zero,i.size,i.bytes))=some (some z,s,b)):
  ∃i,Tryz.prog.info? t=some i∧i.zero=some z∧i.size=s∧i.bytes=b:=by
 rcases hi:Tryz.prog.info? t with _|i
 ·rw[hi]at h;cases h
 ·rw[hi]at h;simp at h;exact⟨i,rfl,h.1,h.2.1,h.2.2⟩
def Row(w:World)(g:Nat)(t:TypeId)(cs:List Value):Prop:=w.heap[g]?=some (.cells cs.toArray t (0,0))
section
variable {w w' : World} {g : Nat} {t : TypeId} {cs : List Value}
theorem Row.lt(h:Row w g t cs):g<w.heap.size:=by
 rcases Nat.lt_or_ge g w.heap.size with hlt|hge
 ·exact hlt
 ·unfold Row at h;rw[Array.getElem?_eq_none hge]at h;cases h
theorem Row.cell(h:Row w g t cs)(i:Nat):w.cell? ⟨g,i,none⟩=cs[i]?:=by
 unfold Row at h;simp[World.cell?,h]
theorem Row.free(h:Row w g t cs)(i:Nat):w.frozen? ⟨g,i,none⟩=false:=frozen_of_row w g i _ t h
theorem Row.set(h:Row w g t cs)(i:Nat)(u:Value):Row (w.setCell ⟨g,i,none⟩ u) g t (cs.set i u):=by
 unfold Row at h⊢
 rw[heap_setCell_same w g i _ t u h];simp
theorem Row.CU(h:Row w g t cs){p:Addr}(hp:g≠p.block)(u:Value):Row (w.setCell p u) g t cs:=(heap_setCell_other w p g u hp).trans h
theorem Row.drewN(h:Row w g t cs)(n:Nat):Row (w.drewN n) g t cs:=h
theorem Row.alloc(h:Row w g t cs)(o:Obj):Row (w.alloc o) g t cs:=(Below.heap_alloc w o g h.lt).trans h
theorem Row.below{B:Nat}(h:Row w g t cs)(hb:Below B w w')(hg:g<B):Row w' g t cs:=(hb.block g hg).trans h
theorem Row.reads{k:IntKind}{l:List Nat}(h:Row w g t cs){n:Nat}(hn:l.length=n)(hw:∀x∈l,(Lit.int k x).wf=true)
  (hc:∀i,i<n→cs[i]?=some (.int k (l.getD i 0:Nat))) {B:Nat} (hB:g<B):Reads k w B (some ⟨g,0,none⟩) n l:=
 ⟨hn,hw,fun _=>⟨g,0,rfl,hB,fun i hi=>by rw[Nat.zero_add,h.cell];exact hc i hi⟩⟩
end
theorem ET{P:Program}(w:World){ops:Array Oper}{rest:List Oper}{o:Oper}{a:Act}{Q:Exit→Act→World→Prop}
  (hg:o.guard=none) (l c:Operand) (t:TypeId) (fC:o.op=Op.makeSlice t l c)
  (e:TypeId) (i:TypeInfo) (z:Value) (h1:P.underlying t=some (.slice e)) (h2:P.info? e=some i) (h3:i.zero=some z) (h4:i.size=1) (h5:z.cells=#[z])
  (kl kc:IntKind) (L C:Int) (n:Nat) (hl:a.eval l=.int kl L) (hc:a.eval c=.int kc C) (hL:L=(n:Int)) (hC:C=(n:Int)) (b2:i.bytes*n≤281474976710656) (b3:n≤9223372036854775807)
  (hK:∀w',Row w' w.heap.size e (List.replicate n z)→Below w.heap.size w w'→w'.heap.size=w.heap.size+1→wpList P ops Q rest (a.put o.dst (.slice (some ⟨w.heap.size,0,none⟩) n n)) w'):
  wpList P ops Q (o::rest) a w:=by
 refine wpList_plain hg fun K rS=>?_
 have hb':(i.bytes:Int)*(n:Int)≤281474976710656:=by
  have h:((i.bytes*n:Nat):Int)≤281474976710656:=by omega
  rwa [Int.natCast_mul]at h
 have hrun:=run_make (P:=P) w t e i z h1 h2 h3 kl kc n n (by omega) (Int.le_refl _) hb' (by omega)
 subst hL
 subst hC
 simp only[Int.toNat_natCast]at hrun
 unfold Oper.wp
 simp[execOp,fC,hl,hc,hrun,Result.andThen]
 refine rS _ _ (hK _ ?_ ((Below.refl _ _).alloc (Nat.le_refl _) _) (by simp))
 show _= _
 rw[heap_alloc_new,h4,Nat.mul_one,h5]
 congr 2
 exact Array.toList_inj.1 (by rw[toList_madeCells_one])
theorem JU{P:Program}(w:World)(base:Nat)(t ty e:TypeId)(i:TypeInfo)(ht:P.underlying t=some (.slice e))(hi:P.info? e=some i)
  (v:Value) (n:Nat) (xs:List Value) (BG:w.ownsRow base e 1 v n xs) (c:Nat):(Builtin.append_ #[t,t] ty #[v,.slice none 0 c]).run P w=.ok v w:=by
 rcases BG.2 with⟨rfl,rfl⟩|⟨g,cap,cur,rfl,_,_,hnc,_⟩
 ·simp[Builtin.append_,run_underlying ht,sizeOf,typeInfo,hi,Builtin.lenOf,Builtin.firstCells]
 ·simp[Builtin.append_,run_underlying ht,sizeOf,typeInfo,hi,Builtin.lenOf,Builtin.firstCells,hnc,storeCells]
theorem E7{P:Program}(w:World){ops:Array Oper}{rest:List Oper}{o:Oper}{a:Act}{Q:Exit→Act→World→Prop}(O7:o.guard=none)(s x:Operand)(t:TypeId)
  (ho:o.op=.call {callee:=.builtin .append,args:=#[s,x],argTypes:=#[t,t]})
  (base:Nat) (e:TypeId) (i:TypeInfo) (z:Value) (bytes:Nat) (ht:P.underlying t=some (.slice e)) (hi:P.info? e=some i) (hz:i.zero=some z)
  (Ca:i.size=1) (iy:i.bytes=bytes) (kf:z.cells.size=1)
  (v:Value) (n:Nat) (xs:List Value) (hs:a.eval s=v) (BG:w.ownsRow base e 1 v n xs)
  (A:Option Addr) (m c:Nat) (news:List Value) (hx:a.eval x=.slice A m c) (hl:news.length=m)
  (LZ:0<m→∃ad,A=some ad∧∀j u,news[j]?=some u→w.cell? (ad.add j)=some u) (h1:∀u∈news,u.oneCell'=true)
  (fQ:n+m≤9223372036854775807) (Ic:(n+m)*bytes≤140737488355328) (Hu:base≤w.heap.size)
  (h:∀v' w',w'.ownsRow base e 1 v' (n+m) (xs++news)→Below base w w'→wpList P ops Q rest (a.put o.dst v') w'):wpList P ops Q (o::rest) a w:=by
 rcases A with _|ad
 ·have hm:m=0:=by
   rcases Nat.eq_zero_or_pos m with h0|h0
   ·exact h0
   ·obtain⟨ad,hh,_⟩:=LZ h0;cases hh
  subst hm
  obtain rfl:news=[]:=List.eq_nil_of_length_eq_zero hl
  refine wpList_plain O7 fun K hK=>?_
  have hrun:=JU (P:=P) w base t o.type e i ht hi v n xs BG c
  unfold Oper.wp
  simp[execOp,ho,resolve,invoke,builtin,hs,hx,hrun,Result.andThen]
  exact hK _ _ (h v w (by simpa using BG) (Below.refl _ _))
 ·refine wpList_append_own w O7 s x t ho base e i z 1 bytes ht hi hz Ca iy kf (by omega) v n xs hs BG ad m c news hx (by omega) ?_ h1 fQ Ic Hu ?_
  ·intro j u hj
   rcases Nat.eq_zero_or_pos m with h0|h0
   ·obtain rfl:news=[]:=List.eq_nil_of_length_eq_zero (by omega)
    simp at hj
   ·obtain⟨ad',hh,hc⟩:=LZ h0
    injection hh with hh;subst hh
    exact hc j u hj
  ·intro v' w' h2 h3 _
   exact h v' w' h2 ((Below.refl _ _).grown h3 Hu fun k hk=>(BG.lt k hk).1)
theorem Wj{w:World}{base:Nat}{e:TypeId}{v:Value}{n:Nat}{k:IntKind}{l:List Nat}(h:w.ownsRow base e 1 v n (l.map fun c:Nat=>Value.int k c))(hw:∀x∈l,(Lit.int k x).wf=true):
  ∃A c,v=.slice A n c∧Reads k w w.heap.size A n l∧l.length=n:=by
 obtain⟨hl,h2⟩:=h
 have T9:l.length=n:=by simpa using hl
 rcases h2 with⟨rfl,rfl⟩|⟨g,cap,cur,rfl,hg,hh,hcap,hm,hs,ht⟩
 ·exact⟨none,0,rfl,⟨T9,hw,fun h=>absurd h (by omega)⟩,T9⟩
 ·refine⟨some ⟨g,0,none⟩,cap,rfl,⟨T9,hw,fun _=>⟨g,0,rfl,?_,fun i hi=>?_⟩⟩,T9⟩
  ·rcases Nat.lt_or_ge g w.heap.size with hlt|hge
   ·exact hlt
   ·rw[Array.getElem?_eq_none hge]at hh;cases hh
  ·have h3:w.cell? ⟨g,0+i,none⟩=cur[0+i]?:=by simp[World.cell?,hh]
   rw[h3,Nat.zero_add]
   have h4:(cur.toList.take (n*1))[i]?=cur.toList[i]?:=by rw[List.getElem?_take,if_pos (by omega)]
   rw[ht]at h4
   rw[←Array.getElem?_toList,←h4,List.getElem?_map,List.getD_eq_getElem?_getD]
   rw[List.getElem?_eq_getElem (by omega)];rfl
theorem eD{w:World}{base:Nat}{e:TypeId}{v:Value}{n:Nat}{xs:List Value}(h:w.ownsRow base e 1 v n xs)(hn:0<n):
  ∃g cap cs,v=.slice (some ⟨g,0,none⟩) n cap∧base≤g∧Row w g e cs∧n≤cap∧cap≤maxLen∧cs.length=cap∧cs.take n=xs:=by
 rcases h.2 with⟨_,h0⟩|⟨g,cap,cur,rfl,hg,hh,hcap,hm,hs,ht⟩
 ·omega
 ·exact⟨g,cap,cur.toList,rfl,hg,hh,hcap,hm,by simpa using hs,by simpa using ht⟩
def Vn(k:IntKind)(w:World)(a:Option Addr)(len cap:Nat)(zs:List Int):Prop:=
 (a=none∧len=0∧cap=0∧zs=[])∨
 ∃x,a=some x∧len≤cap∧cap≤maxLen∧zs.length=cap∧(∀i,i<zs.length→w.cell? (x.add i)=some (.int k (zs.getD i 0)))∧∀n∈zs,(Lit.int k n).wf=true
theorem Vn.reads{k:IntKind}{w:World}{a:Option Addr}{len cap:Nat}{zs:List Int}(h:Vn k w a len cap zs)(h0:∀n:Int,(Lit.int k n).wf=true→0≤n):
  ∃l:List Nat,Reads k w w.heap.size a len l:=by
 rcases h with⟨rfl,rfl,rfl,rfl⟩|⟨x,rfl,hlc,hm,hz,Be,wC⟩
 ·exact⟨[],rfl,by simp,fun h=>absurd h (by omega)⟩
 ·refine⟨(zs.take len).map Int.toNat,by simp;omega,?_,fun Bw=>?_⟩
  ·intro c hc
   obtain⟨z,CM,rfl⟩:=List.mem_map.1 hc
   have GJ:=wC z (List.mem_of_mem_take CM)
   rw[Int.toNat_of_nonneg (h0 z GJ)];exact GJ
  ·obtain⟨b,off,spot⟩:=x
   have hc:=Be 0 (by omega)
   have Zy:spot=none:=by simpa [Addr.add]using World.cell?_spot hc
   subst Zy
   refine⟨b,off,rfl,block_lt_of_cell hc,fun i hi=>?_⟩
   have iT:i<zs.length:=by omega
   have h1:=Be i iT
   have e:(⟨b,off,none⟩:Addr).add i=⟨b,off+i,none⟩:=by unfold Addr.add;split<;>simp_all
   rw[e]at h1
   rw[h1,List.getD_eq_getElem?_getD,List.getD_eq_getElem?_getD,List.getElem?_map,List.getElem?_take,if_pos hi,List.getElem?_eq_getElem iT]
   have:=h0 zs[i] (wC _ (List.getElem_mem iT))
   simp[Int.toNat_of_nonneg this]
theorem Vn.cap{k:IntKind}{w:World}{a:Option Addr}{len cap:Nat}{zs:List Int}(h:Vn k w a len cap zs):len≤cap∧cap≤9223372036854775807:=by
 rcases h with⟨_,h1,h2,_⟩|⟨_,_,h1,h2,_⟩
 ·omega
 ·unfold maxLen at h2;omega
theorem Tx{n:Int}(h:(Lit.int .i64 n).wf=true):-9223372036854775808≤n∧n≤9223372036854775807:=by
 simp[Lit.wf,IntKind.min,IntKind.max,IntKind.signed,IntKind.bits]at h;omega
theorem dw{P:Program}(w:World)(t e:TypeId)(i0:TypeInfo)(ht:P.underlying t=some (.slice e))(hi:P.info? e=some i0)(hs:i0.size=1)(b off len cap i j:Nat)(Fa:i≤j)(hj:j≤cap)(hne:i<cap)
  (kl kh:IntKind) (I J:Int) (hI:I=i) (hJ:J=j):
  (Instr.slice t (.slice (some ⟨b,off,none⟩) len cap) (some (.int kl I)) (some (.int kh J)) none).run P w=.ok (.slice (some ⟨b,off+i,none⟩) (j-i) (cap-i)) w:=by
 subst hI hJ
 have he:P.elem t=e:=by simp[Program.elem,ht]
 rw[run_slice_lh w t _ len cap (by rw[he];exact ht) kl kh i j (by omega) (by omega) (by omega)]
 have lO:¬cap=i:=by omega
 simp[he,sizeOf,typeInfo,hi,hs,sliced,lO,Addr.add]
theorem BX{P:Program}{ops:Array Oper}{Q:Exit→Act→World→Prop}{rest:List Oper}{a:Act}{w:World}(s:Nat){op:Op}{ty:TypeId}{pos:String}{after:Array Edge}{guard:Option (Nat×Bool)}
  (h:Hid (wpList P ops Q (⟨some s,op,ty,pos,after,guard⟩::rest) a w)):wpList P ops Q (⟨some s,op,ty,pos,after,guard⟩::rest) a w:=h
theorem Reads.source{k:IntKind}{w:World}{B:Nat}{a:Option Addr}{n:Nat}{l:List Nat}(h:Reads k w B a n l):
  0<n→∃ad,a=some ad∧∀j u,(l.map fun c:Nat=>Value.int k c)[j]?=some u→w.cell? (ad.add j)=some u:=by
 intro Bw
 obtain⟨hlen,_,hc⟩:=h
 obtain⟨b,off,rfl,hb,hc⟩:=hc Bw
 refine⟨_,rfl,fun j v hj=>?_⟩
 have cR:j<l.length:=by
  rcases Nat.lt_or_ge j l.length with hlt|hge
  ·exact hlt
  ·rw[List.getElem?_eq_none (by simpa using hge)]at hj;cases hj
 have h1:=hc j (by omega)
 rw[List.getElem?_map,List.getElem?_eq_getElem cR]at hj
 have e:(⟨b,off,none⟩:Addr).add j=⟨b,off+j,none⟩:=by unfold Addr.add;split<;>simp_all
 rw[e,h1,←hj]
 simp[cR]
theorem PW{k:IntKind}{l:List Nat}:∀u∈l.map (fun c:Nat=>Value.int k c),u.oneCell'=true:=by
 intro v hv;obtain⟨c,_,rfl⟩:=List.mem_map.1 hv;rfl
theorem Reads.take{k:IntKind}{w:World}{B:Nat}{a:Option Addr}{n m:Nat}{l:List Nat}(h:Reads k w B a n l)(hm:m≤n):Reads k w B a m (l.take m):=by
 obtain⟨hl,hw,hc⟩:=h
 refine⟨by simp;omega,fun x hx=>hw x (List.mem_of_mem_take hx),fun Bw=>?_⟩
 obtain⟨b,off,rfl,hb,hc⟩:=hc (by omega)
 refine⟨b,off,rfl,hb,fun i hi=>?_⟩
 rw[hc i (by omega)]
 simp only[List.getD_eq_getElem?_getD,List.getElem?_take,if_pos hi]
theorem B7{P:Program}(w:World)(t e:TypeId)(i0:TypeInfo)(ht:P.underlying t=some (.slice e))(hi:P.info? e=some i0)(a:Option Addr)(len cap j:Nat)(hj:j≤cap)
  (kh:IntKind) (J:Int) (hJ:J=j):
  (Instr.slice t (.slice a len cap) none (some (.int kh J)) none).run P w=.ok (.slice a j cap) w:=by
 subst hJ
 have he:P.elem t=e:=by simp[Program.elem,ht]
 rw[run_slice_h w t a len cap (by rw[he];exact ht) kh j (by omega) (by omega)]
 have e2:a.map (fun x:Addr=>x.add 0)=a:=by cases a<;>simp[Addr.add]
 simp[he,sizeOf,typeInfo,hi,sliced,e2]
section
variable {H : Type} {enc : TypeId × Value → H} {P : Program} {w : World} {base b0 : Nat} {spare : Nat → Bool} {held : Bool} {t e : TypeId} {k : IntKind} {r : Reach}
theorem ZU{n:Nat}{v:Value}{d:DataW H}{p:List MemPlace}(ht:P.underlying t=some (.array n e))(he:P.underlying e=some (.int k))(lu:P.cellsOf e=1)(hct:P.cellsOf t=n)
  (hv:Value.okWide P w r b0 t v) (h:DataW.Trod enc P w base spare held t v d p):
  ∃zs:List Int,zs.length=n∧v=.agg (zs.map (Value.int k)).toArray∧∀z∈zs,(Lit.int k z).wf=true:=by
 have h0:∃cs,v=.agg cs∧cs.size=P.cellsOf t:=by
  simp only[Value.okWide,ht]at hv
  obtain⟨cs,h1,h2,_⟩:=hv
  exact⟨cs,h1,h2⟩
 obtain⟨cs,rfl,hsz⟩:=h0
 obtain⟨fuel,hf⟩:=h
 obtain⟨xs,m,_,_,hl,vz,hx⟩:=DataW.trod_array ht hf
 have K3:(Value.agg cs).cells.toList=cs.toList:=by simp[Value.cells]
 rw[K3]at hx hl
 have Be:∀i,i<n→∃z,cs[i]?=some (.int k z)∧(Lit.int k z).wf=true:=by
  intro i hi
  have h1:=hx i hi
  rw[lu,Nat.mul_one]at h1
  have iT:i<cs.toList.length:=by simp;omega
  rw[List.drop_eq_getElem_cons iT,List.take_succ_cons,List.take_zero]at h1
  rw[List.getElem?_eq_getElem (by omega)]at h1
  obtain⟨z,hz,_,hw⟩:=DataW.trod_int he h1
  injection hz with hz
  exact⟨z,by rw[←Array.getElem?_toList,List.getElem?_eq_getElem iT,hz],hw⟩
 have L3:∀c∈cs.toList,c=.int k (intOf c)∧(Lit.int k (intOf c)).wf=true:=by
  intro c hc
  obtain⟨i,hi,rfl⟩:=List.getElem_of_mem hc
  obtain⟨z,hz,hw⟩:=Be i (by omega)
  rw[←Array.getElem?_toList,List.getElem?_eq_getElem hi]at hz
  injection hz with hz
  rw[hz];exact⟨rfl,hw⟩
 refine⟨cs.toList.map intOf,by rw[List.length_map];omega,?_,?_⟩
 ·congr 1
  apply Array.ext'
  rw[List.map_map]
  have e1:∀l:List Value,(∀c∈l,c=.int k (intOf c)∧(Lit.int k (intOf c)).wf=true)→l=l.map (Value.int k∘intOf):=by
   intro l
   induction l with
   |nil=>intro _;rfl
   |cons c l ih=>intro h;rw[List.map_cons,←ih fun x hx=>h x (by simp[hx])];congr 1;exact(h c (by simp)).1
  exact e1 _ L3
 ·intro z hz
  obtain⟨c,hc,rfl⟩:=List.mem_map.1 hz
  exact(L3 c hc).2
end
def Ff(n:Int):Prop:=(Lit.int .i64 n).wf=true
theorem Ff.bounds{n:Int}(h:Ff n):-9223372036854775808≤n∧n≤9223372036854775807:=Tx h
theorem Ff.of{n:Int}(h0:-9223372036854775808≤n)(h1:n≤9223372036854775807):Ff n:=by
 simp[Ff,Lit.wf,IntKind.min,IntKind.max,IntKind.signed,IntKind.bits];omega
structure AK (F:Nat→Prop) (w w':World):Prop where
 os:w'.os=w.os
 tape:w'.tape=w.tape
 output:w'.output=w.output
 size:w.heap.size≤w'.heap.size
 block:∀k,k<w.heap.size→¬F k→w'.heap[k]?=w.heap[k]?
section
variable {F F' : Nat → Prop} {w w1 w2 : World}
theorem AK.refl(F:Nat→Prop)(w:World):AK F w w:=⟨rfl,rfl,rfl,Nat.le_refl _,fun _ _ _=>rfl⟩
theorem AK.trans(h:AK F w w1)(k:AK F' w1 w2)(hF:∀b,F' b→F b∨w.heap.size≤b):AK F w w2:=
 ⟨k.os.trans h.os,k.tape.trans h.tape,k.output.trans h.output,Nat.le_trans h.size k.size,fun b hb hn=>(k.block b (Nat.lt_of_lt_of_le hb h.size) fun hf=>by
  rcases hF b hf with h1|h1
  ·exact hn h1
  ·omega).trans (h.block b hb hn)⟩
theorem AK.AJ(h:Below w.heap.size w w1)(F:Nat→Prop):AK F w w1:=⟨h.os,h.tape,h.output,h.size,fun k hk _=>h.block k hk⟩
theorem AK.below(h:AK F w w1){B:Nat}(hB:B≤w.heap.size)(hF:∀b,F b→B≤b):Below B w w1:=⟨h.os,h.tape,h.output,h.size,fun k hk=>h.block k (by omega) fun hf=>by have:=hF k hf;omega⟩
theorem AK.mono(h:AK F w w1)(hF:∀b,F b→F' b):AK F' w w1:=⟨h.os,h.tape,h.output,h.size,fun k hk hn=>h.block k hk fun hf=>hn (hF k hf)⟩
theorem AK.drewN(h:AK F w w1)(m:Nat):AK F w (w1.drewN m):=⟨h.os,h.tape,h.output,h.size,h.block⟩
theorem AK.drew(h:AK F w w1):AK F w w1.drew:=⟨h.os,h.tape,h.output,h.size,h.block⟩
theorem AK.set(h:AK F w w1){p:Addr}(hp:F p.block∨w.heap.size≤p.block)(v:Value):AK F w (w1.setCell p v):=by
 have h0:=(Below.refl 0 w1).setCell (Nat.zero_le p.block) v
 refine h.trans (F':=fun b=>b=p.block) ⟨h0.os,h0.tape,h0.output,h0.size,fun k _ hn=>heap_setCell_other w1 p k v hn⟩ ?_
 intro b hb;subst hb;exact hp
theorem AK.alloc(h:AK F w w1)(o:Obj):AK F w (w1.alloc o):=h.trans (AK.AJ ((Below.refl _ w1).alloc (Nat.le_refl _) o) fun _=>False) fun _ hf=>hf.elim
theorem AK.grown(h:AK F w w1){row:Option Nat}(hg:w1.grownBy w2 row)(hr:∀k,row=some k→F k∨w.heap.size≤k):AK F w w2:=
 h.trans (F':=fun b=>row=some b) ⟨hg.os,hg.tape,hg.output,hg.size,fun k hk hn=>hg.block k hk fun e=>hn e.symm⟩ fun b hb=>hr b hb
theorem AK.row(h:AK F w w1){g:Nat}{t:TypeId}{cs:List Value}(hr:Row w g t cs)(hn:¬F g):Row w1 g t cs:=(h.block g hr.lt hn).trans hr
end
def Hl(w:World)(B:Nat)(a:Option Addr)(n:Nat)(l:List Bool):Prop:=
 l.length=n∧(0<n→∃b off,a=some ⟨b,off,none⟩∧b<B∧∀i,i<n→w.cell? ⟨b,off+i,none⟩=some (.bool (l.getD i false)))
theorem Hl.CL{w w':World}{B:Nat}{a:Option Addr}{n:Nat}{l:List Bool}(h:Hl w B a n l)(hb:Below B w w'):Hl w' B a n l:=by
 obtain⟨hl,hc⟩:=h
 refine⟨hl,fun hn=>?_⟩
 obtain⟨b,off,rfl,MK,hc⟩:=hc hn
 exact⟨b,off,rfl,MK,fun i hi=>(hb.cell (p:=⟨b,off+i,none⟩) MK).trans (hc i hi)⟩
theorem Hl.CU{w w1:World}{B:Nat}{A:Option Addr}{n:Nat}{l:List Bool}{F:Nat→Prop}(h:Hl w B A n l)(hB:B≤w.heap.size)(hf:AK F w w1)(hF:0<n→∀b off,A=some ⟨b,off,none⟩→¬F b):Hl w1 B A n l:=by
 obtain⟨h1,h3⟩:=h
 refine⟨h1,fun hn=>?_⟩
 obtain⟨b,off,hA,hb,hc⟩:=h3 hn
 refine⟨b,off,hA,hb,fun i hi=>?_⟩
 rw[World.cell?_of_block (w:=w) (w':=w1) (hf.block b (by omega) (hF hn b off hA))]
 exact hc i hi
theorem Hl.mono{w:World}{B B':Nat}{a:Option Addr}{n:Nat}{l:List Bool}(h:Hl w B a n l)(hb:B≤B'):Hl w B' a n l:=by
 obtain⟨hl,hc⟩:=h
 refine⟨hl,fun hn=>?_⟩
 obtain⟨b,off,rfl,MK,hc⟩:=hc hn
 exact⟨b,off,rfl,by omega,hc⟩
theorem Pq{P:Program}{ops:Array Oper}{Q:Exit→Act→World→Prop}{rest:List Oper}{a:Act}{w:World}{t:TypeId}{m x v:Operand}{ty:TypeId}{pos:String}{after:Array Edge}{guard:Option (Nat×Bool)}
  (h:Hid (wpList P ops Q (⟨none,.mapUpdate t m x v,ty,pos,after,guard⟩::rest) a w)):wpList P ops Q (⟨none,.mapUpdate t m x v,ty,pos,after,guard⟩::rest) a w:=h
structure Kept (K:Obj→Prop) (w w':World):Prop where
 os:w'.os=w.os
 tape:w'.tape=w.tape
 output:w'.output=w.output
 size:w.heap.size≤w'.heap.size
 block:∀(k:Nat) (o:Obj),w.heap[k]?=some o→¬K o→w'.heap[k]?=some o
def rowsOf(T:TypeId→Prop)(o:Obj):Prop:=∃(cs:Array Value) (t:TypeId),o=.cells cs t (0,0)∧T t
section
variable {K : Obj → Prop} {T : TypeId → Prop} {w w1 w2 : World}
theorem Kept.refl(K:Obj→Prop)(w:World):Kept K w w:=⟨rfl,rfl,rfl,Nat.le_refl _,fun _ _ h _=>h⟩
theorem Kept.trans(h:Kept K w w1)(k:Kept K w1 w2):Kept K w w2:=⟨k.os.trans h.os,k.tape.trans h.tape,k.output.trans h.output,Nat.le_trans h.size k.size,fun i o hi ho=>k.block i o (h.block i o hi ho) ho⟩
theorem Kept.drew(h:Kept K w w1):Kept K w w1.drew:=⟨h.os,h.tape,h.output,h.size,h.block⟩
theorem Kept.drewN(h:Kept K w w1)(m:Nat):Kept K w (w1.drewN m):=⟨h.os,h.tape,h.output,h.size,h.block⟩
theorem JY{k:Nat}{o:Obj}(h:w.heap[k]?=some o):k<w.heap.size:=by
 rcases Nat.lt_or_ge k w.heap.size with h1|h1
 ·exact h1
 ·rw[Array.getElem?_eq_none h1]at h;cases h
theorem Kept.AJ(h:Below w.heap.size w w1)(K:Obj→Prop):Kept K w w1:=⟨h.os,h.tape,h.output,h.size,fun k _ hk _=>(h.block k (JY hk)).trans hk⟩
theorem Kept.row(h:Kept (rowsOf T) w w1){k:Nat}{t:TypeId}{cs:List Value}(hr:Row w k t cs)(ht:¬T t):Row w1 k t cs:=
 h.block k _ hr fun⟨_,_,e,hT⟩=>ht (by injection e with _ e;subst e;exact hT)
theorem Kept.set(h:Kept (rowsOf T) w w1){p:Addr}{t:TypeId}{cs:List Value}(hr:Row w1 p.block t cs)(ht:T t)(v:Value):Kept (rowsOf T) w (w1.setCell p v):=by
 have h0:=(Below.refl 0 w1).setCell (Nat.zero_le p.block) v
 refine h.trans ⟨h0.os,h0.tape,h0.output,h0.size,fun k o hk ho=>?_⟩
 rw[heap_setCell_other w1 p k v fun e=>?_]
 ·exact hk
 ·subst e
  unfold Row at hr
  rw[hr]at hk;injection hk with hk;subst hk
  exact ho ⟨_,_,rfl,ht⟩
theorem Kept.append(h:Kept (rowsOf T) w w1){base:Nat}{e:TypeId}{n:Nat}{v:Value}{xs:List Value}{s:Nat}(BG:w1.ownsRow base e s v n xs)(hT:T e)(hb:Below base w1 w2)(hf:∀k,k<w1.heap.size→some k≠v.ownBlock→w2.heap[k]?=w1.heap[k]?):Kept (rowsOf T) w w2:=by
 refine h.trans ⟨hb.os,hb.tape,hb.output,hb.size,fun k o hk ho=>(hf k (JY hk) fun e1=>?_).trans hk⟩
 rcases BG.2 with⟨rfl,_⟩|⟨g,cap,cur,rfl,_,hh,_⟩
 ·simp[Value.ownBlock]at e1
 ·simp only[Value.ownBlock]at e1
  injection e1 with e1;subst e1
  rw[hh]at hk;injection hk with hk;subst hk
  exact ho ⟨_,_,rfl,hT⟩
theorem QB(h:Kept (rowsOf T) w w1){base:Nat}{e:TypeId}{n s:Nat}{v:Value}{xs:List Value}(BG:w.ownsRow base e s v n xs)(hT:¬T e):w1.ownsRow base e s v n xs:=by
 obtain⟨h1,h2⟩:=BG
 refine⟨h1,?_⟩
 rcases h2 with h2|⟨g,cap,cur,rfl,hg,hh,r⟩
 ·exact .inl h2
 ·exact .inr ⟨g,cap,cur,rfl,hg,h.block g _ hh fun⟨_,_,e1,e2⟩=>hT (by injection e1 with _ e1;subst e1;exact e2),r⟩
theorem Rp{base:Nat}{e:TypeId}{n s:Nat}{v:Value}{xs:List Value}(BG:w.ownsRow base e s v n xs){p:Addr}{t:TypeId}{cs:List Value}(hr:Row w p.block t cs)(ht:e≠t)(u:Value):(w.setCell p u).ownsRow base e s v n xs:=
 QB (T:=fun x=>x=t) (Kept.set (T:=fun x=>x=t) (Kept.refl _ w) hr rfl u) BG ht
end
theorem CK{w w':World}{base s:Nat}{e:TypeId}{v:Value}{n:Nat}{xs:List Value}(h:w.ownsRow base e s v n xs)(hb:∀k,v.ownBlock=some k→w'.heap[k]?=w.heap[k]?):w'.ownsRow base e s v n xs:=by
 obtain⟨h1,h2⟩:=h
 refine⟨h1,?_⟩
 rcases h2 with h2|⟨g,cap,cur,rfl,hg,hh,r⟩
 ·exact .inl h2
 ·exact .inr ⟨g,cap,cur,rfl,hg,(hb g rfl).trans hh,r⟩
section
variable {α : Type}
def Qt(f:Int→Option α)(i:Int)(x:α):Int→Option α:=fun k=>if k=i then some x else f k
def lay(f:Int→Option α)(l:List (Int×α)):Int→Option α:=l.foldl (fun f e=>Qt f e.1 e.2) f
def nothing:Int→Option α:=fun _=>none
theorem GR(f:Int→Option α)(i:Int)(x:α):Qt f i x i=some x:=by simp[Qt]
theorem E0(f:Int→Option α){i k:Int}(x:α)(h:k≠i):Qt f i x k=f k:=by simp[Qt,h]
theorem M6(f:Int→Option α)(l:List (Int×α))(i:Int)(x:α):lay f (l++[(i,x)])=Qt (lay f l) i x:=by simp[lay,List.foldl_append]
def over(f g:Int→Option α):Int→Option α:=fun k=>match f k with|some x=>some x|none=>g k
theorem ZT(f g:Int→Option α)(i:Int)(x:α):over (Qt f i x) g=Qt (over f g) i x:=by
 funext k
 by_cases h:k=i
 ·subst h;simp[over,Qt]
 ·simp[over,Qt,h]
theorem R5(g:Int→Option α):∀(l:List (Int×α)) (f:Int→Option α),lay (over f g) l=over (lay f l) g
 |[],_=>rfl
 |e::l,f=>by
  show lay (Qt (over f g) e.1 e.2) l=over (lay (Qt f e.1 e.2) l) g
  rw[←ZT];exact R5 g l _
theorem QC(g:Int→Option α):over nothing g=g:=by funext k;rfl
theorem kX(g:Int→Option α)(l:List (Int×α)):lay g l=over (lay nothing l) g:=by rw[←R5,QC]
def kept:List Bool→List (Int×α)→List (Int×α)
 | _,[]=>[]
 |[],_=>[]
 |b::k,e::l=>if b then e::kept k l else kept k l
theorem QG(p:α→Prop):∀(l:List (Int×α)) (f:Int→Option α),(∀k x,f k=some x→p x)→(∀e∈l,p e.2)→∀k x,lay f l k=some x→p x
 |[],f,hf,_=>hf
 |e::l,f,hf,hl=>by
  refine QG p l (Qt f e.1 e.2) ?_ fun e' he=>hl e' (List.mem_cons_of_mem _ he)
  intro k x hx
  by_cases h:k=e.1
  ·subst h;rw[GR]at hx;injection hx with hx;subst hx;exact hl e List.mem_cons_self
  ·rw[E0 _ _ h]at hx;exact hf k x hx
end
structure St where
 size:Nat
 blocks:Int
 fl:Int→Option (List Nat)
 Ah:List (Int×List Nat)
 fb:Bool
 fn:Int
 tb:Bool
 tn:Int
 down:Bool
 Ab:Int
def fresh(size:Nat)(blocks:Int):St:=⟨size,blocks,nothing,[],false,0,false,0,false,0⟩
def blk(n:Nat)(o:Option (List Nat)):List Nat:=match o with|some l=>l|none=>List.replicate n 0
def St.now(s:St)(x:Int):List Nat:=blk s.size (lay s.fl s.Ah x)
def begin(s:St)(right:Bool):Int×St:=
 if s.down then (8,s)else if right=false then (1,s)
 else if s.fb=true∧s.fn=0 then (8,{s with down:=true})
 else
  let fn':=if s.fb then s.fn-1 else s.fn
  if s.tb=true∧s.tn=0 then (6,{s with fn:=fn',tb:=false,tn:=0})
  else (0,{s with fn:=fn',tn:=if s.tb then s.tn-1 else s.tn,Ab:=s.Ab+1})
def right(s:St)(i:Int):Bool:=decide (0≤i)&&decide (i<s.blocks)
def read(s:St)(i:Int):Int×St:=begin s (right s i)
def write(s:St)(i:Int)(l:List Nat):Int×St:=
 let r:=begin s (right s i&&decide (l.length=s.size))
 if r.1=0 then (0,{r.2 with Ah:=s.Ah++[(i,l)]})else r
theorem Cs(s:St)(b:Bool):(begin s b).2.size=s.size∧(begin s b).2.blocks=s.blocks∧(begin s b).2.fl=s.fl∧(begin s b).2.Ah=s.Ah:=by
 unfold begin;split<;>(try split)<;>(try split)<;>(try dsimp only)<;>(try split)<;>exact⟨rfl,rfl,rfl,rfl⟩
theorem Ue(s:St)(b:Bool):(begin s b).2.Ab=s.Ab∨(begin s b).2.Ab=s.Ab+1:=by
 unfold begin;split<;>(try split)<;>(try split)<;>(try dsimp only)<;>(try split)<;>first|exact .inl rfl|exact .inr rfl
theorem bH(s:St)(h1:s.down=false)(h2:s.fb=false)(h3:s.tb=false):begin s true=(0,{s with Ab:=s.Ab+1}):=by
 unfold begin;simp[h1,h2,h3]
def Calm(s:St):Prop:=s.down=false∧s.fb=false∧s.tb=false
theorem Jf(n:Nat)(b:Int):Calm (fresh n b):=⟨rfl,rfl,rfl⟩
theorem YM{s:St}(h:Calm s){i:Int}(hi:right s i=true){l:List Nat}(hl:l.length=s.size):write s i l=(0,{s with Ab:=s.Ab+1,Ah:=s.Ah++[(i,l)]}):=by
 have:(right s i&&decide (l.length=s.size))=true:=by simp[hi,hl]
 unfold write;rw[this,bH s h.1 h.2.1 h.2.2];rfl
theorem Ud(s:St)(b:Bool)(h1:s.down=true):begin s b=(8,s):=by unfold begin;simp[h1]
theorem XS{l:List (Int×Int)}{i:Nat}(h:i<l.length):l.getD i (0,0)∈l:=by
 rw[List.getD_eq_getElem?_getD,List.getElem?_eq_getElem h];exact List.getElem_mem h
def DU(w:World)(B:Nat)(a:Option Addr)(n:Nat)(l:List (Int×Int)):Prop:=
 l.length=n∧(∀x∈l,Ff x.1∧Ff x.2)∧
 (0<n→∃b off,a=some ⟨b,off,none⟩∧b<B∧∀i,i<n→w.cell? ⟨b,off+i*2,none⟩=some (.int .i64 (l.getD i (0,0)).1)∧w.cell? ⟨b,off+i*2+1,none⟩=some (.int .i64 (l.getD i (0,0)).2))
theorem DU.at_{w:World}{B:Nat}{a:Option Addr}{n:Nat}{l:List (Int×Int)}(h:DU w B a n l){i:Nat}(hi:i<n):
  ∃b off u v,a=some ⟨b,off,none⟩∧b<B∧w.cell? ⟨b,off+i*2,none⟩=some (.int .i64 u)∧w.cell? ⟨b,off+i*2+1,none⟩=some (.int .i64 v)∧Ff u∧Ff v∧Hid (l.getD i (0,0)=(u,v)):=by
 obtain⟨hl,hw,hc⟩:=h
 obtain⟨b,off,rfl,hb,hc⟩:=hc (by omega)
 have hm:=hw _ (XS (l:=l) (i:=i) (by omega))
 exact⟨b,off,_,_,rfl,hb,(hc i hi).1,(hc i hi).2,hm.1,hm.2,rfl⟩
theorem DU.CL{w w':World}{B:Nat}{a:Option Addr}{n:Nat}{l:List (Int×Int)}(h:DU w B a n l)(hb:Below B w w'):DU w' B a n l:=by
 obtain⟨hl,hw,hc⟩:=h
 refine⟨hl,hw,fun hn=>?_⟩
 obtain⟨b,off,rfl,MK,hc⟩:=hc hn
 exact⟨b,off,rfl,MK,fun i hi=>⟨(hb.cell (p:=⟨b,off+i*2,none⟩) MK).trans (hc i hi).1,(hb.cell (p:=⟨b,off+i*2+1,none⟩) MK).trans (hc i hi).2⟩⟩
theorem DU.drewN{w:World}{B:Nat}{a:Option Addr}{n:Nat}{l:List (Int×Int)}(h:DU w B a n l)(m:Nat):DU (w.drewN m) B a n l:=h
theorem DU.mono{w:World}{B B':Nat}{a:Option Addr}{n:Nat}{l:List (Int×Int)}(h:DU w B a n l)(hb:B≤B'):DU w B' a n l:=by
 obtain⟨hl,hw,hc⟩:=h
 refine⟨hl,hw,fun hn=>?_⟩
 obtain⟨b,off,rfl,MK,hc⟩:=hc hn
 exact⟨b,off,rfl,by omega,hc⟩
theorem DU.nil(w:World)(B:Nat)(a:Option Addr):DU w B a 0 []:=⟨rfl,by simp,fun h=>absurd h (by omega)⟩
theorem DU.lt{w:World}{B:Nat}{a:Option Addr}{n:Nat}{l:List (Int×Int)}(h:DU w B a n l){x:Addr}(hx:a=some x)(hn:0<n):x.block<B:=by
 obtain⟨b,off,rfl,hb,_⟩:=h.2.2 hn
 injection hx with hx;subst hx;exact hb
def Nn(w:World)(B:Nat)(a:Option Addr)(n:Nat)(l:List Int):Prop:=
 l.length=n∧(∀x∈l,Ff x)∧(0<n→∃b off,a=some ⟨b,off,none⟩∧b<B∧∀i,i<n→w.cell? ⟨b,off+i,none⟩=some (.int .i64 (l.getD i 0)))
theorem Nn.at_{w:World}{B:Nat}{a:Option Addr}{n:Nat}{l:List Int}(h:Nn w B a n l){i:Nat}(hi:i<n):
  ∃b off u,a=some ⟨b,off,none⟩∧b<B∧w.cell? ⟨b,off+i,none⟩=some (.int .i64 u)∧Ff u∧Hid (l.getD i 0=u):=by
 obtain⟨hl,hw,hc⟩:=h
 obtain⟨b,off,rfl,hb,hc⟩:=hc (by omega)
 have:i<l.length:=by omega
 have hm:l.getD i 0∈l:=by rw[List.getD_eq_getElem?_getD,List.getElem?_eq_getElem this];exact List.getElem_mem this
 exact⟨b,off,_,rfl,hb,hc i hi,hw _ hm,rfl⟩
theorem Nn.CL{w w':World}{B:Nat}{a:Option Addr}{n:Nat}{l:List Int}(h:Nn w B a n l)(hb:Below B w w'):Nn w' B a n l:=by
 obtain⟨hl,hw,hc⟩:=h
 refine⟨hl,hw,fun hn=>?_⟩
 obtain⟨b,off,rfl,MK,hc⟩:=hc hn
 exact⟨b,off,rfl,MK,fun i hi=>(hb.cell (p:=⟨b,off+i,none⟩) MK).trans (hc i hi)⟩
def Mi(a:Option Addr)(i cap sz:Nat):Option Addr:=if cap=i then a else a.map (·.add (i*sz))
theorem BN{g off i cap sz:Nat}(h:i<cap):Mi (some ⟨g,off,none⟩) i cap sz=some ⟨g,off+i*sz,none⟩:=by
 unfold Mi;rw[if_neg (by omega)];simp[Addr.add]
section
variable {P : Program} {w : World}
theorem BO(w:World)(t e:TypeId)(i0:TypeInfo){sz:Nat}(ht:P.underlying t=some (.slice e))(hi:P.info? e=some i0)(hs:i0.size=sz)(a:Option Addr)(len cap i:Nat)(hil:i≤len)
  (kl:IntKind) (I:Int) (hI:I=i):(Instr.slice t (.slice a len cap) (some (.int kl I)) none none).run P w=.ok (.slice (Mi a i cap sz) (len-i) (cap-i)) w:=by
 subst hI
 have he:P.elem t=e:=by simp[Program.elem,ht]
 rw[run_slice_l w t a len cap (by rw[he];exact ht) kl i (by omega) (by omega)]
 simp[he,sizeOf,typeInfo,hi,hs,sliced,Mi]
theorem Fq(w:World)(t e:TypeId)(i0:TypeInfo){sz:Nat}(ht:P.underlying t=some (.slice e))(hi:P.info? e=some i0)(hs:i0.size=sz)(a:Option Addr)(len cap i j:Nat)(Fa:i≤j)(hj:j≤cap)
  (kl kh:IntKind) (I J:Int) (hI:I=i) (hJ:J=j):(Instr.slice t (.slice a len cap) (some (.int kl I)) (some (.int kh J)) none).run P w=.ok (.slice (Mi a i cap sz) (j-i) (cap-i)) w:=by
 subst hI hJ
 have he:P.elem t=e:=by simp[Program.elem,ht]
 rw[run_slice_lh w t a len cap (by rw[he];exact ht) kl kh i j (by omega) (by omega) (by omega)]
 simp[he,sizeOf,typeInfo,hi,hs,sliced,Mi]
theorem AR{α:Type}(L:List α)(off:Nat)(cs:List α)(h:off+cs.length≤L.length):(splice L off cs).length=L.length:=length_splice L off cs h
theorem BL{α:Type}(L:List α)(off:Nat)(cs:List α)(h:off+cs.length≤L.length){k:Nat}(hk:k<off∨off+cs.length≤k):(splice L off cs)[k]?=L[k]?:=by
 unfold splice
 rcases hk with hk|hk
 ·rw[List.getElem?_append_left (by rw[List.length_take];omega),List.getElem?_take,if_pos hk]
 ·rw[List.getElem?_append_right (by rw[List.length_take];omega),List.getElem?_append_right (by rw[List.length_take];omega),List.getElem?_drop]
  congr 1;rw[List.length_take];omega
theorem Ei{α:Type}(C X Y:List α)(a b c:Nat)(hb:b=a+X.length)(hc:c=b+Y.length)(h:c≤C.length):(splice (splice C a X) b Y).take c=C.take a++X++Y:=by
 have h1:(splice C a X).take b=C.take a++X:=by
  unfold splice
  rw[←List.append_assoc,List.take_append_of_le_length (by simp;omega)]
  exact List.take_of_length_le (by simp;omega)
 unfold splice at h1⊢
 rw[h1,←List.append_assoc,List.take_append_of_le_length (by simp;omega)]
 exact List.take_of_length_le (by simp;omega)
theorem I9{α:Type}(C X Y:List α)(a b c:Nat)(hb:b=a+X.length)(hc:c=b+Y.length)(h:c≤C.length):(splice (splice C b Y) a X).take c=C.take a++X++Y:=by
 have e:splice (splice C b Y) a X=splice (splice C a X) b Y:=by
  apply List.ext_getElem?
  intro k
  have l1:(splice C a X).length=C.length:=length_splice _ _ _ (by omega)
  have l2:(splice C b Y).length=C.length:=length_splice _ _ _ (by omega)
  by_cases hx:a≤k∧k<a+X.length
  ·rw[BL (splice C a X) b Y (by omega) (by omega)]
   unfold splice
   rw[List.getElem?_append_right (by simp;omega),List.getElem?_append_left (by simp;omega),List.getElem?_append_right (by simp;omega),List.getElem?_append_left (by simp;omega)]
   congr 1
   simp;omega
  ·rw[BL (splice C b Y) a X (by omega) (by omega)]
   by_cases hy:b≤k∧k<b+Y.length
   ·unfold splice
    rw[List.getElem?_append_right (by simp;omega),List.getElem?_append_left (by simp;omega),List.getElem?_append_right (by simp;omega),List.getElem?_append_left (by simp;omega)]
    congr 1
    simp;omega
   ·rw[BL C b Y (by omega) (by omega),BL (splice C a X) b Y (by omega) (by omega),BL C a X (by omega) (by omega)]
 rw[e];exact Ei C X Y a b c hb hc h
theorem AK.setRow(w:World)(g:Nat)(cs:Array Value):AK (fun k=>k=g) w (w.setRow g cs):=
 ⟨rfl,rfl,rfl,by simp[World.setRow],fun k _ hk=>setRow_other w g k cs hk⟩
theorem JB(w:World)(dT sT ty e:TypeId){sz:Nat}(hu:P.underlying dT=some (.slice e))(hsz:(P.info? e).map (·.size)=some sz)(ND:0<sz)(dp sp:Option Addr)(I5 UU IN RY g off:Nat)(cur:List Value)(t:TypeId)(hg:Row w g t cur)
  (cs:List Value) (hn:cs.length=Nat.min IN I5*sz) (Bw:0<cs.length→dp=some ⟨g,off,none⟩∧∃ad,sp=some ad∧∀j v,cs[j]?=some v→w.cell? (ad.add j)=some v) (hfit:off+cs.length≤cur.length) (h1:∀v∈cs,v.oneCell'=true):
  ∃w',(Builtin.copy_ #[dT,sT] ty #[.slice dp I5 UU,.slice sp IN RY]).run P w=.ok (goInt (Nat.min IN I5)) w'∧Row w' g t (splice cur off cs)∧AK (fun k=>k=g) w w':=by
 obtain⟨i,hi,hs⟩:∃i,P.info? e=some i∧i.size=sz:=by
  rcases hq:P.info? e with _|i
  ·rw[hq]at hsz;cases hsz
  ·rw[hq]at hsz;exact⟨i,rfl,by simpa using hsz⟩
 by_cases h0:cs.length=0
 ·obtain rfl:cs=[]:=List.eq_nil_of_length_eq_zero h0
  have IW:Nat.min IN I5=0:=by
   rcases Nat.eq_zero_or_pos (Nat.min IN I5)with h|h
   ·exact h
   ·have:=Nat.mul_pos h ND;simp at hn;omega
  have hl:∀(x:Addr),(loadCells x 0).run P w=.ok #[] w:=fun x=>by simpa using run_loadCells_list (P:=P) w x [] (by simp)
  refine⟨w,?_,by simpa [splice]using hg,AK.refl _ _⟩
  rw[IW]
  cases dp<;>cases sp<;>simp[Builtin.copy_,run_underlying hu,Builtin.lenOf,Builtin.firstCells,sizeOf,typeInfo,hi,IW,storeCells,hl]
 ·obtain⟨rfl,ad,rfl,Bv⟩:=Bw (by omega)
  have hf:=run_firstCells_some (P:=P) w sz (Nat.min IN I5) ad IN RY cs hn Bv
  have hst:=run_storeCells_at P g off t cs 0 cur.toArray w hg (by simpa using hfit) h1
  refine⟨w.setRow g (splice cur off cs).toArray,?_,setRow_heap w g _ _ t _ hg,AK.setRow w g _⟩
  simp only[Nat.add_zero]at hst
  have e2:splice cur off cs=cur.take off++cs++cur.drop (off+cs.length):=by unfold splice;rw[List.append_assoc]
  simp[Builtin.copy_,run_underlying hu,Builtin.lenOf,sizeOf,typeInfo,hi,hs,hf,hst,e2]
theorem BU{ops:Array Oper}{rest:List Oper}{o:Oper}{a:Act}{Q:Exit→Act→World→Prop}(O7:o.guard=none)(d s:Operand)(dT sT:TypeId)
  (ho:o.op=.call {callee:=.builtin .copy,args:=#[d,s],argTypes:=#[dT,sT]}) (e:TypeId) {sz:Nat} (hu:P.underlying dT=some (.slice e)) (hsz:(P.info? e).map (·.size)=some sz) (ND:0<sz)
  (dp sp:Option Addr) (I5 UU IN RY:Nat) (hd:a.eval d=.slice dp I5 UU) (hs:a.eval s=.slice sp IN RY) (g off:Nat) (cur:List Value) (t:TypeId) (hg:Row w g t cur)
  (cs:List Value) (hn:cs.length=Nat.min IN I5*sz) (Bw:0<cs.length→dp=some ⟨g,off,none⟩∧∃ad,sp=some ad∧∀j v,cs[j]?=some v→w.cell? (ad.add j)=some v) (hfit:off+cs.length≤cur.length) (h1:∀v∈cs,v.oneCell'=true)
  (h:∀w',Hid (Row w' g t (splice cur off cs))→Hid (AK (fun k=>k=g) w w')→wpList P ops Q rest (a.put o.dst (goInt (Nat.min IN I5))) w'):wpList P ops Q (o::rest) a w:=by
 obtain⟨w',hrun,h2,h3⟩:=JB w dT sT o.type e hu hsz ND dp sp I5 UU IN RY g off cur t hg cs hn Bw hfit h1
 refine wpList_plain O7 fun K hK=>?_
 unfold Oper.wp
 simp[execOp,ho,resolve,invoke,builtin,hd,hs,hrun,Result.andThen]
 exact hK _ _ (h w' h2 h3)
theorem Ci{ops:Array Oper}{o:Oper}{a:Act}{K:Act→World→Prop}{Q:Exit→Act→World→Prop}{E:Prop}(O7:o.guard=none)(d s:Operand)(dT sT:TypeId)
  (ho:o.op=.call {callee:=.builtin .copy,args:=#[d,s],argTypes:=#[dT,sT]}) (e:TypeId) {sz:Nat} (hu:P.underlying dT=some (.slice e)) (hsz:(P.info? e).map (·.size)=some sz) (ND:0<sz)
  (dp sp:Option Addr) (I5 UU IN RY:Nat) (hd:a.eval d=.slice dp I5 UU) (hs:a.eval s=.slice sp IN RY) (g off:Nat) (cur:List Value) (t:TypeId) (hg:Row w g t cur)
  (cs:List Value) (hn:cs.length=Nat.min IN I5*sz) (Bw:0<cs.length→dp=some ⟨g,off,none⟩∧∃ad,sp=some ad∧∀j v,cs[j]?=some v→w.cell? (ad.add j)=some v) (hfit:off+cs.length≤cur.length) (h1:∀v∈cs,v.oneCell'=true)
  (h:∀w',Hid (Row w' g t (splice cur off cs))→Hid (AK (fun k=>k=g) w w')→K (a.put o.dst (goInt (Nat.min IN I5))) w'):if Region.wanted o (yielded ops a.tmps)=true then Oper.wp P o a w K Q else E:=by
 have hw:Region.wanted o (yielded ops a.tmps)=true:=by simp[Region.wanted,O7]
 rw[if_pos hw]
 obtain⟨w',hrun,h2,h3⟩:=JB w dT sT o.type e hu hsz ND dp sp I5 UU IN RY g off cur t hg cs hn Bw hfit h1
 unfold Oper.wp
 simp[execOp,ho,resolve,invoke,builtin,hd,hs,hrun,Result.andThen]
 exact h w' h2 h3
theorem OI{z:Array Value}(h:∀v∈z.toList,v.oneCell'=true)(n:Nat):∀v∈(Builtin.zeroCells z n).toList,v.oneCell'=true:=by
 intro v hv
 simp only[Builtin.zeroCells,Array.toList_map,List.mem_map,Array.mem_toList_iff]at hv
 obtain⟨i,hi,rfl⟩:=hv
 have hi:i<n*z.size:=by simpa using hi
 have hz:0<z.size:=by
  rcases Nat.eq_zero_or_pos z.size with h0|h0
  ·rw[h0,Nat.mul_zero]at hi;omega
  ·exact h0
 have hm:=Nat.mod_lt i hz
 rw[getElem!_pos z _ hm]
 exact h _ (by simp)
theorem Mo(w:World)(t e ty:TypeId)(z:Value){sz:Nat}(ht:P.underlying t=some (.slice e))(hv:∀w,(zeroValue e).run P w=.ok z w)(hz:z.cells.size=sz)(h1:∀v∈z.cells.toList,v.oneCell'=true)
  (A:Option Addr) (n c g off:Nat) (cur:List Value) (tt:TypeId) (hg:Row w g tt cur) (Bw:0<n→A=some ⟨g,off,none⟩) (hfit:off+n*sz≤cur.length):
  ∃w' Qe,(Builtin.clear_ #[t] ty #[.slice A n c]).run P w=.ok (.tuple #[]) w'∧Row w' g tt Qe∧Qe.length=cur.length∧Qe.take off=cur.take off∧AK (fun k=>k=g) w w':=by
 cases n with
 |zero=>
  refine⟨w,cur,?_,hg,rfl,rfl,AK.refl _ _⟩
  cases A<;>simp[Builtin.clear_,run_underlying ht]
 |succ m=>
  obtain rfl:=Bw (by omega)
  have hlen:(Builtin.zeroCells z.cells (m+1)).toList.length=(m+1)*sz:=by simp[Builtin.zeroCells,hz]
  have hst:=run_storeCells_at P g off tt (Builtin.zeroCells z.cells (m+1)).toList 0 cur.toArray w hg (by rw[hlen];simpa using hfit) (OI h1 _)
  simp only[Nat.add_zero]at hst
  refine⟨_,cur.take off++(Builtin.zeroCells z.cells (m+1)).toList++cur.drop (off+(Builtin.zeroCells z.cells (m+1)).toList.length),?_,setRow_heap w g cur.toArray _ tt (0,0) hg,?_,?_,AK.setRow w g _⟩
  ·simp[Builtin.clear_,run_underlying ht,hv,hst]
  ·simp[hlen];omega
  ·rw[List.append_assoc,List.take_append_of_le_length (by rw[List.length_take];omega)]
   rw[List.take_take,Nat.min_self]
end
theorem Fk{P:Program}{w:World}{ops:Array Oper}{rest:List Oper}{o:Oper}{a:Act}{Q:Exit→Act→World→Prop}(O7:o.guard=none)(s:Operand)(t:TypeId)
  (ho:o.op=.call {callee:=.builtin .clear,args:=#[s],argTypes:=#[t]}) (e:TypeId) (z:Value) {sz:Nat} (ht:P.underlying t=some (.slice e)) (hv:∀w,(zeroValue e).run P w=.ok z w) (hz:z.cells.size=sz) (h1:∀v∈z.cells.toList,v.oneCell'=true)
  (A:Option Addr) (n c:Nat) (hs:a.eval s=.slice A n c) (g off:Nat) (cur:List Value) (tt:TypeId) (hg:Row w g tt cur) (Bw:0<n→A=some ⟨g,off,none⟩) (hfit:off+n*sz≤cur.length)
  (h:∀w' Qe,Row w' g tt Qe→Qe.length=cur.length→Qe.take off=cur.take off→AK (fun k=>k=g) w w'→wpList P ops Q rest (a.put o.dst (.tuple #[])) w'):wpList P ops Q (o::rest) a w:=by
 obtain⟨w',Qe,hrun,h2,h3,h4,h5⟩:=Mo w t e o.type z ht hv hz h1 A n c g off cur tt hg Bw hfit
 refine wpList_plain O7 fun K hK=>?_
 unfold Oper.wp
 simp[execOp,ho,resolve,invoke,builtin,hs,hrun,Result.andThen]
 exact hK _ _ (h w' Qe h2 h3 h4 h5)
theorem Oj{P:Program}{ops:Array Oper}{Q:Exit→Act→World→Prop}{rest:List Oper}{a:Act}{w:World}{s:Operand}{ts:Array TypeId}{ty:TypeId}{pos:String}{after:Array Edge}{guard:Option (Nat×Bool)}
  (h:Hid (wpList P ops Q (⟨none,.call {callee:=.builtin .clear,args:=#[s],argTypes:=ts},ty,pos,after,guard⟩::rest) a w)):wpList P ops Q (⟨none,.call {callee:=.builtin .clear,args:=#[s],argTypes:=ts},ty,pos,after,guard⟩::rest) a w:=h
theorem Dh{P:Program}{w:World}{ops:Array Oper}{rest:List Oper}{o:Oper}{a:Act}{Q:Exit→Act→World→Prop}(O7:o.guard=none)(s x:Operand)(t:TypeId)
  (ho:o.op=.call {callee:=.builtin .append,args:=#[s,x],argTypes:=#[t,t]}) (e:TypeId) (i:TypeInfo) {sz:Nat} (ht:P.underlying t=some (.slice e)) (hi:P.info? e=some i) (hsz:i.size=sz)
  (g k cap:Nat) (hs:a.eval s=.slice (some ⟨g,0,none⟩) k cap) (cur:List Value) (hg:Row w g e cur) (A:Option Addr) (m c:Nat) (hx:a.eval x=.slice A m c) (cs:List Value) (hl:cs.length=m*sz)
  (Bv:0<m→∃ad,A=some ad∧∀j v,cs[j]?=some v→w.cell? (ad.add j)=some v) (h1:∀v∈cs,v.oneCell'=true) (hroom:k+m≤cap) (hfit:k*sz+cs.length≤cur.length)
  (h:∀w',Hid (Row w' g e (splice cur (k*sz) cs))→Hid (AK (fun b=>b=g) w w')→wpList P ops Q rest (a.put o.dst (.slice (some ⟨g,0,none⟩) (k+m) cap)) w'):wpList P ops Q (o::rest) a w:=by
 subst hsz
 rcases Nat.eq_zero_or_pos m with h0|h0
 ·subst h0
  obtain rfl:cs=[]:=List.eq_nil_of_length_eq_zero (by simpa using hl)
  have hld:∀ad:Addr,(loadCells ad 0).run P w=.ok #[] w:=fun ad=>by simpa using run_loadCells_list (P:=P) w ad [] (by simp)
  have hkc:k≤cap:=by omega
  have hrun:(Builtin.append_ #[t,t] o.type #[.slice (some ⟨g,0,none⟩) k cap,.slice A 0 c]).run P w=.ok (.slice (some ⟨g,0,none⟩) k cap) w:=by
   cases A<;>simp[Builtin.append_,run_underlying ht,sizeOf,typeInfo,hi,Builtin.lenOf,Builtin.firstCells,hkc,storeCells,hld]
  refine wpList_plain O7 fun K hK=>?_
  unfold Oper.wp
  simp[execOp,ho,resolve,invoke,builtin,hs,hx,hrun,Result.andThen]
  exact hK _ _ (h w (by simpa [splice,Hid]using hg) (AK.refl _ _))
 ·obtain⟨ad,rfl,qI⟩:=Bv h0
  have hrun:=run_append_room (P:=P) w t o.type e i ht hi g k cap cur.toArray hg ad m c cs hl qI h1 hroom (by simpa using hfit)
  refine wpList_plain O7 fun K hK=>?_
  unfold Oper.wp
  simp only[execOp,ho,resolve,invoke,builtin,hs,hx,hrun,Result.andThen,Sem.run_bind,Sem.run_pure,List.map_toArray,List.map_cons,List.map_nil]
  refine hK _ _ (h _ ?_ (AK.setRow w g _))
  have e2:splice cur (k*i.size) cs=cur.take (k*i.size)++cs++cur.drop (k*i.size+cs.length):=by unfold splice;rw[List.append_assoc]
  rw[e2]
  exact setRow_heap w g _ _ e _ hg
theorem DH{P:Program}{w:World}{ops:Array Oper}{rest:List Oper}{o:Oper}{a:Act}{Q:Exit→Act→World→Prop}(O7:o.guard=none)(s x:Operand)(t tn:TypeId)
  (ho:o.op=.call {callee:=.builtin .append,args:=#[s,x],argTypes:=#[t,tn]}) (e:TypeId) (i:TypeInfo) (z:Value) {sz bytes:Nat} (kn kq:IntKind) (ht:P.underlying t=some (.slice e)) (ku:P.underlying tn=some (.int kn)) (hi:P.info? e=some i) (hz:i.zero=some z)
  (hsz:i.size=sz) (ND:0<sz) (iy:i.bytes=bytes) (kf:z.cells.size=sz) (A:Option Addr) (k cap:Nat) (hs:a.eval s=.slice A k cap) (OL:List Value) (hl:OL.length=k*sz) (hA:A=none→k=0)
  (hold:∀ad,A=some ad→∀j v,OL[j]?=some v→w.cell? (ad.add j)=some v) (m:Nat) (I:Int) (hx:a.eval x=.int kq I) (hI:I=(m:Nat)) (hm:0<m) (hroom:cap<k+m) (fQ:k+m≤maxLen) (Ic:(k+m)*bytes≤140737488355328)
  (h:∀w' C cur,k+m≤C→C≤maxLen→cur.length=C*sz→cur.take (k*sz)=OL→Row w' w.heap.size e cur→w'.heap.size=w.heap.size+1→Below w.heap.size w w'→wpList P ops Q rest (a.put o.dst (.slice (some ⟨w.heap.size,0,none⟩) (k+m) C)) w'):wpList P ops Q (o::rest) a w:=by
 subst hsz;subst iy;subst hI
 have hf:(Builtin.firstCells i.size k (.slice A k cap)).run P w.drew=.ok OL.toArray w.drew:=by
  cases A with
  |none=>
   obtain rfl:=hA rfl
   obtain rfl:OL=[]:=List.eq_nil_of_length_eq_zero (by simpa using hl)
   simp[Builtin.firstCells]
  |some ad=>exact run_firstCells_some (P:=P) w.drew i.size k ad k cap OL hl (hold ad rfl)
 have AX:m*i.bytes≤281474976710656:=by
  have:=Nat.mul_le_mul_right i.bytes (show m≤k+m by omega);omega
 have hrun:=Lib.run_append_grow_zeros (P:=P) w t tn o.type e i z kq kn ht ku hi hz A k cap OL hf m hm ND hroom (by unfold maxLen at fQ;omega) AX (growslice_fits (by omega) Ic)
 have hge:=grownCap_ge w (k+m) cap e
 have hle:=grownCap_le_maxLen w (k+m) cap e fQ
 generalize hC:grownCap w (k+m) cap e=C at hrun hge hle
 refine wpList_plain O7 fun K hK=>?_
 unfold Oper.wp
 simp only[execOp,ho,resolve,invoke,builtin,hs,hx,hrun,Result.andThen,Sem.run_bind,Sem.run_pure,List.map_toArray,List.map_cons,List.map_nil]
 refine hK _ _ (h _ C (OL++(Builtin.zeroCells z.cells m).toList++(Builtin.zeroCells z.cells (C-(k+m))).toList) hge hle ?_ ?_ ?_ ?_ ?_)
 ·simp only[List.length_append,Array.length_toList,size_zeroCells,hl,kf,←Nat.add_mul]
  congr 1;omega
 ·rw[List.append_assoc,←hl];exact List.take_left
 ·unfold Row
  rw[show (OL++(Builtin.zeroCells z.cells m).toList++(Builtin.zeroCells z.cells (C-(k+m))).toList).toArray=OL.toArray++Builtin.zeroCells z.cells m++Builtin.zeroCells z.cells (C-(k+m))by apply Array.ext';simp]
  exact heap_alloc_new w.drew _
 ·simp
 ·exact⟨rfl,rfl,rfl,by simp,fun k hk=>Below.heap_alloc w.drew _ k hk⟩
theorem Lo{P:Program}(w:World)(base:Nat)(t ty e:TypeId)(i:TypeInfo)(z:Value)(size bytes:Nat)(ht:P.underlying t=some (.slice e))(hi:P.info? e=some i)(hz:i.zero=some z)
  (Ca:i.size=size) (iy:i.bytes=bytes) (kf:z.cells.size=size) (hsz:0<size) (v:Value) (n:Nat) (xs:List Value) (BG:w.ownsRow base e size v n xs)
  (a:Addr) (m c:Nat) (news:List Value) (hl:news.length=m*size) (LZ:∀j u,news[j]?=some u→w.cell? (a.add j)=some u) (h1:∀u∈news,u.oneCell'=true)
  (fQ:n+m≤maxLen) (Ic:(n+m)*bytes≤140737488355328) (Hu:base≤w.heap.size):
  ∃v' w',(Builtin.append_ #[t,t] ty #[v,.slice (some a) m c]).run P w=.ok v' w'∧w'.ownsRow base e size v' (n+m) (xs++news)∧w.grownBy w' v.ownBlock∧w'.ownsRow base e size v n xs:=by
 obtain⟨v',w',hr,h2,h3,_,_⟩:=run_append_own_at (P:=P) w base t ty e i z size bytes ht hi hz Ca iy kf hsz v n xs BG a m c news hl LZ h1 fQ Ic Hu
 refine⟨v',w',hr,h2,h3,?_⟩
 subst Ca;subst iy
 have iN:=BG
 obtain⟨k1,k2⟩:=BG
 rcases k2 with⟨rfl,rfl⟩|⟨g,cap,cur,rfl,Qz,hg,hnc,DP,rF,qC⟩
 ·exact⟨k1,.inl ⟨rfl,rfl⟩⟩
 ·by_cases hroom:n+m≤cap
  ·have hfit:n*i.size+news.length≤cur.size:=by rw[hl,rF,←Nat.add_mul];exact Nat.mul_le_mul_right _ hroom
   have Ap:=run_append_room (P:=P) w t ty e i ht hi g n cap cur hg a m c news hl LZ h1 hroom hfit
   rw[hr]at Ap;injection Ap with _ Ap;subst Ap
   refine⟨k1,.inr ⟨g,cap,_,rfl,Qz,setRow_heap w g cur _ e _ hg,hnc,DP,?_,?_⟩⟩
   ·simp only[List.size_toArray,List.length_append,List.length_take,List.length_drop,Array.length_toList]
    omega
   ·rw[qC,List.append_assoc]
    exact List.take_append_of_le_length (by omega)|>.trans (List.take_of_length_le (by omega))
  ·refine iN.kept (row:=none) ⟨h3.os,h3.tape,h3.output,h3.size,fun k hk _=>?_⟩ (.inr (by simp[Value.ownBlock]))
   have holds:∀j u,xs[j]?=some u→w.cell? ((⟨g,0,none⟩:Addr).add j)=some u:=iN.cells (g:=g) rfl
   have wO:n+m≤9223372036854775807:=by simp only[maxLen]at fQ;omega
   have Ap:=run_append_grow (P:=P) w t ty e i z ht hi hz ⟨g,0,none⟩ n cap xs k1 holds a m c news hl LZ (by omega) (by omega) (growslice_fits (by omega) Ic)
   rw[hr]at Ap;injection Ap with _ Ap;subst Ap
   exact Below.heap_alloc w.drew _ k hk
theorem GY{P:Program}{w:World}{ops:Array Oper}{o:Oper}{a:Act}{K:Act→World→Prop}{Q:Exit→Act→World→Prop}{E:Prop}(O7:o.guard=none)(s x:Operand)(t:TypeId)
  (ho:o.op=.call {callee:=.builtin .append,args:=#[s,x],argTypes:=#[t,t]}) (base:Nat) (e:TypeId) (i:TypeInfo) (z:Value) (size bytes:Nat) (ht:P.underlying t=some (.slice e)) (hi:P.info? e=some i) (hz:i.zero=some z)
  (Ca:i.size=size) (iy:i.bytes=bytes) (kf:z.cells.size=size) (hsz:0<size) (v:Value) (n:Nat) (xs:List Value) (hs:a.eval s=v) (BG:w.ownsRow base e size v n xs)
  (ad:Addr) (m c:Nat) (news:List Value) (hx:a.eval x=.slice (some ad) m c) (hl:news.length=m*size) (LZ:∀j u,news[j]?=some u→w.cell? (ad.add j)=some u) (h1:∀u∈news,u.oneCell'=true)
  (fQ:n+m≤maxLen) (Ic:(n+m)*bytes≤140737488355328) (Hu:base≤w.heap.size)
  (h:∀v' w',Hid (w'.ownsRow base e size v' (n+m) (xs++news))→w.grownBy w' v.ownBlock→w'.ownsRow base e size v n xs→K (a.put o.dst v') w'):if Region.wanted o (yielded ops a.tmps)=true then Oper.wp P o a w K Q else E:=by
 have hw:Region.wanted o (yielded ops a.tmps)=true:=by simp[Region.wanted,O7]
 rw[if_pos hw]
 obtain⟨v',w',hrun,h2,h3,h4⟩:=Lo w base t o.type e i z size bytes ht hi hz Ca iy kf hsz v n xs BG ad m c news hl LZ h1 fQ Ic Hu
 unfold Oper.wp
 simp[execOp,ho,resolve,invoke,builtin,hs,hx,hrun,Result.andThen]
 exact h v' w' h2 h3 h4
structure AB where
 a:Int
 b:Int
 c:Int
 d:Int
 e:Int
def AB.Bf(t:AB):List Int:=[t.a,t.b,t.c,t.d,t.e]
def CQ(t:AB):Prop:=∀x∈t.Bf,Ff x
def AD:AB:=⟨0,0,0,0,0⟩
theorem AB.Se(t:AB):t.Bf.length=5:=rfl
theorem AB.au{t u:AB}(h:t.Bf=u.Bf):t=u:=by
 obtain⟨a,b,c,d,e⟩:=t;obtain⟨a',b',c',d',e'⟩:=u
 simp[AB.Bf]at h
 obtain⟨rfl,rfl,rfl,rfl,rfl⟩:=h;rfl
def uw(z:Int):Nat:=(z%18446744073709551616).toNat
theorem Uw(z:Int):IntKind.u64.wrap z=((uw z:Nat):Int):=by unfold uw;rw[IntKind.wrap_u64];omega
theorem pL(z:Int):uw z<18446744073709551616:=by unfold uw;omega
theorem Jy{z:Int}(h:Ff z):IntKind.i64.wrap ((uw z:Nat):Int)=z:=by
 have:=h.bounds;unfold uw;rw[IntKind.wrap_i64];omega
def AY(k:Nat)(t:AB):List Nat:=(t.Bf.take k).map uw
theorem CG{k:Nat}(hk:k≤5)(t:AB):(AY k t).length=k:=by unfold AY;simp[AB.Se];omega
def BA(k:Nat)(l:List AB):List Nat:=l.flatMap (AY k)
theorem Qb(k:Nat)(l m:List AB):BA k (l++m)=BA k l++BA k m:=by simp[BA]
theorem PL(k:Nat)(t:AB):BA k [t]=AY k t:=by simp[BA]
theorem Gj{k:Nat}(hk:k≤5):∀l:List AB,(BA k l).length=l.length*k
 |[]=>by simp[BA]
 |t::l=>by
  have h:=Gj hk l
  show (AY k t++BA k l).length= _
  rw[List.length_append,CG hk,h,List.length_cons,Nat.add_mul];omega
theorem LB(k:Nat)(l:List AB):∀x∈BA k l,x<18446744073709551616:=by
 intro x hx
 obtain⟨t,_,hx⟩:=List.mem_flatMap.1 hx
 obtain⟨z,_,rfl⟩:=List.mem_map.1 hx
 exact pL z
theorem NW{k:Nat}(hk:k≤5):∀(l:List AB) (i:Nat),(BA k l).drop (i*k)=BA k (l.drop i)
 |[],i=>by simp[BA]
 |t::l,0=>by simp
 |t::l,i+1=>by
  show (AY k t++BA k l).drop ((i+1)*k)=BA k (l.drop i)
  rw[←NW hk l i,Nat.add_mul,Nat.one_mul,Nat.add_comm,←List.drop_drop,List.drop_left' (CG hk t)]
theorem SX{k:Nat}(hk:k≤5){l:List AB}{i:Nat}{t:AB}(h:l[i]?=some t):((BA k l).drop (i*k)).take k=AY k t:=by
 rw[NW hk]
 have hi:i<l.length:=(List.getElem?_eq_some_iff.1 h).1
 rw[List.drop_eq_getElem_cons hi]
 have e:l[i]=t:=(List.getElem?_eq_some_iff.1 h).2
 rw[e]
 show (AY k t++BA k (l.drop (i+1))).take k=AY k t
 exact List.take_left' (CG hk t)
def Ac(k:Nat)(t:AB):Bool:=(t.Bf.drop k).all (·==0)
def Fo(k:Nat)(ws:List Nat):AB:=
 let g:=fun i=>if i<k then IntKind.i64.wrap ((ws.getD i 0:Nat):Int)else 0
 ⟨g 0,g 1,g 2,g 3,g 4⟩
theorem Me{k:Nat}(hk:k≤5){t:AB}(hok:CQ t)(hf:Ac k t=true):Fo k (AY k t)=t:=by
 obtain⟨a,b,c,d,e⟩:=t
 have ha:=Jy (hok a (by simp[AB.Bf]))
 have hb:=Jy (hok b (by simp[AB.Bf]))
 have hc:=Jy (hok c (by simp[AB.Bf]))
 have hd:=Jy (hok d (by simp[AB.Bf]))
 have he:=Jy (hok e (by simp[AB.Bf]))
 match k,hk with
 |0,_=>simp[Ac,AB.Bf]at hf;simp[Fo,hf]
 |1,_=>simp[Ac,AB.Bf]at hf;simp[Fo,AY,AB.Bf,hf,ha]
 |2,_=>simp[Ac,AB.Bf]at hf;simp[Fo,AY,AB.Bf,hf,ha,hb]
 |3,_=>simp[Ac,AB.Bf]at hf;simp[Fo,AY,AB.Bf,hf,ha,hb,hc]
 |4,_=>simp[Ac,AB.Bf]at hf;simp[Fo,AY,AB.Bf,hf,ha,hb,hc,hd]
 |5,_=>simp[Fo,AY,AB.Bf,ha,hb,hc,hd,he]
def AE(size:Nat)(width:Int):Nat:=if width<1∨5<width then 0 else (size-2)/width.toNat
def AA(h c:Nat):Nat:=if 0<c%h then c/h+1 else c/h
section
variable {h c : Nat}
theorem Aw(h:Nat):AA h 0=0:=by simp[AA]
theorem Bd(_hh:0<h)(hc:0<c):0<AA h c:=by
 have h1:=Nat.div_add_mod c h
 unfold AA;split
 ·exact Nat.succ_pos _
 ·rcases Nat.eq_zero_or_pos (c/h)with h0|h0
  ·rw[h0]at h1;omega
  ·exact h0
theorem BM(h c:Nat):AA h c≤c:=by
 unfold AA
 have h1:=Nat.div_add_mod c h
 have h2:=Nat.div_le_self c h
 split
 ·rename_i h3
  rcases Nat.eq_zero_or_pos h with h0|h0
  ·subst h0;simp at h3⊢;omega
  ·rcases Nat.eq_zero_or_pos (c/h)with h4|h4
   ·rw[h4]at h1⊢;omega
   ·have:c/h*1≤c/h*h:=Nat.mul_le_mul_left _ h0
    rw[Nat.mul_comm (c/h) h]at this;omega
 ·exact h2
theorem EM(hh:0<h)(hc:0<c):(AA h c-1)*h<c∧c≤(AA h c-1)*h+h∧c-(AA h c-1)*h=if 0<c%h then c%h else h:=by
 have h1:=Nat.div_add_mod c h
 have h2:=Nat.mod_lt c hh
 have hp:=Bd hh hc
 unfold AA at hp⊢
 rw[Nat.mul_comm]at h1
 by_cases h3:0<c%h
 ·rw[if_pos h3,if_pos h3,Nat.add_sub_cancel];omega
 ·rw[if_neg h3]at hp
  rw[if_neg h3,if_neg h3]
  have h4:(c/h-1)*h+h=c/h*h:=by
   conv=>rhs;rw[show c/h=(c/h-1)+1 by omega,Nat.add_mul,Nat.one_mul]
  omega
theorem FT(hh:0<h):c≤AA h c*h:=by
 rcases Nat.eq_zero_or_pos c with h0|h0
 ·omega
 ·have h1:=EM hh h0
  have h2:=Bd hh h0
  have h4:(AA h c-1)*h+h=AA h c*h:=by
   conv=>rhs;rw[show AA h c=(AA h c-1)+1 by omega,Nat.add_mul,Nat.one_mul]
  omega
theorem Ev(hh:0<h){k:Nat}(hk:c≤k*h):AA h c≤k:=by
 rcases Nat.eq_zero_or_pos c with h0|h0
 ·subst h0;rw[Aw];exact Nat.zero_le _
 ·have h1:=(EM hh h0).1
  have h2:(AA h c-1)*h<k*h:=by omega
  have h3:AA h c-1<k:=Nat.lt_of_mul_lt_mul_right h2
  omega
theorem Am(hh:0<h){c':Nat}(hc:c≤c'):AA h c≤AA h c':=Ev hh (Nat.le_trans hc (FT hh))
theorem Le(hh:0<h):(AA h (c+1)-1)*h+c%h=c∧c+1-(AA h (c+1)-1)*h=c%h+1∧AA h (c+1)-1=c/h:=by
 have h1:=Nat.div_add_mod c h
 have h2:=Nat.mod_lt c hh
 have key:AA h (c+1)=c/h+1:=by
  have h5:c+1≤(c/h+1)*h:=by rw[Nat.add_mul,Nat.one_mul,Nat.mul_comm];omega
  have h6:=Ev hh h5
  have h7:=FT (c:=c+1) hh
  have h8:c/h<AA h (c+1):=by
   apply Nat.lt_of_not_le
   intro h9
   have:=Nat.mul_le_mul_right h h9
   rw[Nat.mul_comm (c/h)]at this
   omega
  omega
 rw[key,Nat.add_sub_cancel,Nat.mul_comm]
 refine⟨h1,?_,rfl⟩
 omega
theorem EN(h3:c%h=0):AA h c=c/h:=by unfold AA;rw[if_neg (by omega)]
end
def Ck(h:Nat)(l:List AB):List AB:=l.drop ((AA h l.length-1)*h)
def Em(h k:Nat)(l:List AB)(j:Nat):List Nat:=BA k ((l.drop (j*h)).take h)
theorem Ix{h:Nat}{l:List AB}(hh:0<h)(hl:0<l.length):(Ck h l).length≤h∧0<(Ck h l).length∧(Ck h l).length=l.length-(AA h l.length-1)*h:=by
 obtain⟨h1,h2,h3⟩:=EM hh hl
 unfold Ck;rw[List.length_drop];omega
theorem ZP{h k:Nat}{l:List AB}(hh:0<h)(hl:0<l.length):Em h k l (AA h l.length-1)=BA k (Ck h l):=by
 unfold Em
 rw[show l.drop ((AA h l.length-1)*h)=Ck h l from rfl,List.take_of_length_le (Ix hh hl).1]
theorem eC{h k:Nat}(hk:k≤5)(l:List AB)(j:Nat):(Em h k l j).length≤h*k:=by
 unfold Em;rw[Gj hk];exact Nat.mul_le_mul_right _ (by rw[List.length_take];omega)
theorem ZO{h k:Nat}{l m:List AB}{j:Nat}(hj:(j+1)*h≤l.length):Em h k (l++m) j=Em h k l j:=by
 unfold Em
 rw[Nat.add_mul,Nat.one_mul]at hj
 rw[List.drop_append_of_le_length (by omega),List.take_append_of_le_length (by rw[List.length_drop];omega)]
theorem Wf{h k:Nat}(hk:k≤5)(l:List AB)(j:Nat):(Em h k l j).length=min h (l.length-j*h)*k:=by
 unfold Em;rw[Gj hk,List.length_take,List.length_drop]
theorem Tt{h:Nat}(hh:0<h)(l:List AB)(t:AB):Ck h (l++[t])=l.drop (l.length-l.length%h)++[t]∧(Ck h (l++[t])).length=l.length%h+1:=by
 obtain⟨h1,h2,h3⟩:=Le (c:=l.length) hh
 have e:Ck h (l++[t])=l.drop (l.length-l.length%h)++[t]:=by
  unfold Ck
  rw[List.length_append,List.length_singleton,show (AA h (l.length+1)-1)*h=l.length-l.length%h by omega,List.drop_append_of_le_length (by omega)]
 refine⟨e,?_⟩
 rw[e,List.length_append,List.length_drop,List.length_singleton]
 have:=Nat.mod_le l.length h
 omega
def Nq(k h:Nat)(l:List AB)(ws:List Nat):Prop:=ws.take (l.length%h*k)=BA k (l.drop (l.length-l.length%h))
theorem aQ(k h:Nat)(ws:List Nat):Nq k h [] ws:=by simp[Nq,BA]
theorem XM{k h:Nat}{l:List AB}(ws:List Nat)(h0:l.length%h=0):Nq k h l ws:=by
 unfold Nq;rw[h0,Nat.zero_mul,Nat.sub_zero,List.drop_length];simp[BA]
theorem aP{k h:Nat}(hk:k≤5)(hh:0<h){l:List AB}{ws:List Nat}(hw:Nq k h l ws)(hl:h*k≤ws.length)(t:AB):
  (splice ws (l.length%h*k) (AY k t)).take ((Ck h (l++[t])).length*k)=BA k (Ck h (l++[t])):=by
 obtain⟨e1,e2⟩:=Tt hh l t
 rw[e2,e1,Qb,PL,←hw]
 have hm:=Nat.mod_lt l.length hh
 have hb:l.length%h*k+k≤h*k:=by
  have:=Nat.mul_le_mul_right k (show l.length%h+1≤h by omega)
  rw[Nat.add_mul,Nat.one_mul]at this;exact this
 have Oz:=CG hk t
 unfold splice
 rw[←List.append_assoc,List.take_append_of_le_length (by simp[Oz,Nat.add_mul];omega)]
 exact List.take_of_length_le (by simp[Oz,Nat.add_mul];omega)
theorem O9{k h:Nat}(hh:0<h){l:List AB}{ws:List Nat}(h0:l.length%h≠0):Nq k h l ws↔ws.take ((Ck h l).length*k)=BA k (Ck h l):=by
 have hl:0<l.length:=by
  rcases Nat.eq_zero_or_pos l.length with h1|h1
  ·rw[h1]at h0;simp at h0
  ·exact h1
 obtain⟨h1,h2,h3⟩:=EM hh hl
 rw[if_pos (by omega)]at h3
 have e1:=(Ix hh hl).2.2
 unfold Nq
 rw[e1,h3]
 unfold Ck
 rw[show l.length-l.length%h=(AA h l.length-1)*h by omega]
def Az(D:St)(first k h:Nat)(l:List AB)(m:Nat):Prop:=∀j,j<m→D.now ((first+j:Nat):Int)=DB D.size (first+j) k (Em h k l j)
theorem Ku{s:St}{i:Int}{l:List Nat}(h0:(write s i l).1=0):(write s i l).2.now i=l∧(∀x,x≠i→(write s i l).2.now x=s.now x)∧(write s i l).2.size=s.size∧(write s i l).2.blocks=s.blocks:=by
 obtain⟨e1,e2,e3,e4⟩:=Cs s (right s i&&decide (l.length=s.size))
 unfold write at h0⊢
 dsimp only at h0⊢
 by_cases hb:(begin s (right s i&&decide (l.length=s.size))).1=0
 ·rw[if_pos hb]
  refine⟨?_,fun x hx=>?_,e1,e2⟩
  ·unfold St.now
   dsimp only
   rw[e3,M6,GR];rfl
  ·unfold St.now
   dsimp only
   rw[e1,e3,M6,E0 _ _ hx]
 ·rw[if_neg hb]at h0;exact absurd h0 hb
theorem Ru{s:St}{i:Int}{l:List Nat}(h0:(write s i l).1≠0):(∀x,(write s i l).2.now x=s.now x)∧(write s i l).2.size=s.size∧(write s i l).2.blocks=s.blocks:=by
 obtain⟨e1,e2,e3,e4⟩:=Cs s (right s i&&decide (l.length=s.size))
 unfold write at h0⊢
 dsimp only at h0⊢
 by_cases hb:(begin s (right s i&&decide (l.length=s.size))).1=0
 ·rw[if_pos hb]at h0;exact absurd rfl h0
 ·rw[if_neg hb]
  refine⟨fun x=>?_,e1,e2⟩
  unfold St.now;rw[e1,e3,e4]
theorem FH(s:St)(i x:Int):(read s i).2.now x=s.now x∧(read s i).2.size=s.size∧(read s i).2.blocks=s.blocks:=by
 obtain⟨e1,e2,e3,e4⟩:=Cs s (right s i)
 unfold read St.now;rw[e1,e3,e4];exact⟨rfl,rfl,e2⟩
theorem pz:(Tryz.prog.info? 63).map (fun i=>(i.zero,i.size,i.bytes))=some (some (.agg #[.int .i64 0,.int .i64 0,.int .i64 0,.int .i64 0,.int .i64 0]),5,40):=by kernel_rfl
def An(t:AB):List Value:=[.int .i64 t.a,.int .i64 t.b,.int .i64 t.c,.int .i64 t.d,.int .i64 t.e]
def Bj(l:List AB):List Value:=l.flatMap An
theorem XZ(l:List AB):(Bj l).length=l.length*5:=by
 unfold Bj
 induction l with
 |nil=>rfl
 |cons e l ih=>rw[List.flatMap_cons,List.length_append,ih,List.length_cons];show 5+ _= _;omega
theorem UR(l:List AB)(e:AB):Bj (l++[e])=Bj l++An e:=by unfold Bj;simp
theorem SW:∀(l:List AB) (i:Nat),i<l.length→∀(j:Nat) (u:Value),(An (l.getD i AD))[j]?=some u→(Bj l)[i*5+j]?=some u
 |[],i,h=>by simp at h
 |e::l,0,_=>by
  intro j u h
  have hj:j<(An e).length:=(List.getElem?_eq_some_iff.1 h).1
  show (An e++Bj l)[0*5+j]?= _
  rw[Nat.zero_mul,Nat.zero_add,List.getElem?_append_left hj];exact h
 |e::l,i+1,hi=>by
  intro j u h
  show (An e++Bj l)[(i+1)*5+j]?= _
  rw[List.getElem?_append_right (by show 5≤ _;omega),show (i+1)*5+j-(An e).length=i*5+j by show _-5= _;omega]
  exact SW l i (by simpa using hi) j u (by simpa using h)
theorem Iz{l:List AB}{i:Nat}(h:i<l.length):l.getD i AD∈l:=by
 rw[List.getD_eq_getElem?_getD,List.getElem?_eq_getElem h];exact List.getElem_mem h
def BH(w:World)(B:Nat)(a:Option Addr)(n:Nat)(l:List AB):Prop:=
 l.length=n∧(∀e∈l,CQ e)∧(0<n→∃b off,a=some ⟨b,off,none⟩∧b<B∧∀(i:Nat),i<n→∀(j:Nat) (u:Value),(An (l.getD i AD))[j]?=some u→w.cell? ⟨b,off+i*5+j,none⟩=some u)
section
variable {w w' : World} {B : Nat} {a : Option Addr} {n : Nat} {l : List AB}
theorem BH.CL(h:BH w B a n l)(hb:Below B w w'):BH w' B a n l:=by
 obtain⟨hl,hw,hc⟩:=h
 refine⟨hl,hw,fun hn=>?_⟩
 obtain⟨b,off,rfl,MK,hc⟩:=hc hn
 exact⟨b,off,rfl,MK,fun i hi j u hj=>(hb.cell (p:=⟨b,off+i*5+j,none⟩) MK).trans (hc i hi j u hj)⟩
theorem BH.mono{B':Nat}(h:BH w B a n l)(hb:B≤B'):BH w B' a n l:=by
 obtain⟨hl,hw,hc⟩:=h
 refine⟨hl,hw,fun hn=>?_⟩
 obtain⟨b,off,rfl,MK,hc⟩:=hc hn
 exact⟨b,off,rfl,by omega,hc⟩
theorem BH.drewN(h:BH w B a n l)(m:Nat):BH (w.drewN m) B a n l:=h
theorem BH.nil(w:World)(B:Nat)(a:Option Addr):BH w B a 0 []:=⟨rfl,by simp,fun h=>absurd h (by omega)⟩
theorem BH.CU{F:Nat→Prop}(h:BH w B a n l)(hB:B≤w.heap.size)(hf:AK F w w')(hF:0<n→∀b off,a=some ⟨b,off,none⟩→¬F b):BH w' B a n l:=by
 obtain⟨hl,hw,hc⟩:=h
 refine⟨hl,hw,fun hn=>?_⟩
 obtain⟨b,off,hA,MK,hc⟩:=hc hn
 refine⟨b,off,hA,MK,fun i hi j u hj=>?_⟩
 have h1:=hf.block b (by omega) (hF hn b off hA)
 have h2:w'.cell? ⟨b,off+i*5+j,none⟩=w.cell? ⟨b,off+i*5+j,none⟩:=by simp only[World.cell?,h1]
 exact h2.trans (hc i hi j u hj)
theorem BH.at_(h:BH w B a n l){i:Nat}(hi:i<n):∃b off t,a=some ⟨b,off,none⟩∧b<B∧w.cell? ⟨b,off+i*5,none⟩=some (.int .i64 t.a)∧w.cell? ⟨b,off+i*5+1,none⟩=some (.int .i64 t.b)∧w.cell? ⟨b,off+i*5+2,none⟩=some (.int .i64 t.c)∧
  w.cell? ⟨b,off+i*5+3,none⟩=some (.int .i64 t.d)∧w.cell? ⟨b,off+i*5+4,none⟩=some (.int .i64 t.e)∧CQ t∧Hid (l[i]?=some t):=by
 obtain⟨hl,hw,hc⟩:=h
 obtain⟨b,off,rfl,hb,hc⟩:=hc (by omega)
 refine⟨b,off,l.getD i AD,rfl,hb,hc i hi 0 _ rfl,hc i hi 1 _ rfl,hc i hi 2 _ rfl,hc i hi 3 _ rfl,hc i hi 4 _ rfl,hw _ (Iz (by omega)),?_⟩
 show l[i]?=some (l.getD i AD)
 rw[List.getD_eq_getElem?_getD,List.getElem?_eq_getElem (by omega)];rfl
end
theorem Mt{w:World}{base:Nat}{t:TypeId}{v:Value}{n:Nat}{l:List AB}(h:w.ownsRow base t 5 v n (Bj l))(hw:∀e∈l,CQ e):∃A c,v=.slice A n c∧BH w w.heap.size A n l∧l.length=n∧c≤maxLen∧n≤c∧(0<n→∀b off,A=some ⟨b,off,none⟩→base≤b):=by
 obtain⟨hl,h2⟩:=h
 have T9:l.length=n:=by rw[XZ]at hl;omega
 rcases h2 with⟨rfl,rfl⟩|⟨g,cap,cur,rfl,hg,hh,hcap,hm,hs,ht⟩
 ·exact⟨none,0,rfl,⟨T9,hw,fun h=>absurd h (by omega)⟩,T9,by unfold maxLen;omega,Nat.le_refl _,fun h=>absurd h (by omega)⟩
 ·refine⟨some ⟨g,0,none⟩,cap,rfl,⟨T9,hw,fun _=>⟨g,0,rfl,?_,fun i hi j u hj=>?_⟩⟩,T9,hm,hcap,fun _ b off e=>?_⟩
  ·exact JY hh
  ·have h3:w.cell? ⟨g,0+i*5+j,none⟩=cur[0+i*5+j]?:=by simp[World.cell?,hh]
   rw[h3,Nat.zero_add]
   have VQ:j<5:=(List.getElem?_eq_some_iff.1 hj).1
   have h4:(cur.toList.take (n*5))[i*5+j]?=cur.toList[i*5+j]?:=by rw[List.getElem?_take,if_pos (by omega)]
   rw[ht,SW l i (by omega) j u hj]at h4
   rw[←Array.getElem?_toList];exact h4.symm
  ·injection e with e;injection e with e _;subst e;exact hg
theorem Ks{w w':World}{base:Nat}{e:TypeId}{s n:Nat}{v:Value}{xs:List Value}(h:w.ownsRow base e s v n xs)(hb:Below w.heap.size w w'):w'.ownsRow base e s v n xs:=
 CK h fun k hk=>hb.block k (h.lt k hk).2
theorem ZR(w:World)(base:Nat)(e:TypeId):w.ownsRow base e 5 (.slice none 0 0) 0 (Bj []):=⟨rfl,.inl ⟨rfl,rfl⟩⟩
theorem Lk{w:World}{ops:Array Oper}{rest:List Oper}{o:Oper}{a:Act}{Q:Exit→Act→World→Prop}(O7:o.guard=none)(sl x:Operand)
  (ho:o.op=.call {callee:=.builtin .append,args:=#[sl,x],argTypes:=#[24,24]}) {v:Value} {base n:Nat} {l:List AB} (h:w.ownsRow base 63 5 v n (Bj l)) (hs:a.eval sl=v) (ad:Addr) (hx:a.eval x=.slice (some ad) 1 1) (t:AB)
  (Bv:∀j u,(An t)[j]?=some u→w.cell? (ad.add j)=some u) (hn:n≤1000000) (Hu:base≤w.heap.size)
  (hK:∀v' w',w'.ownsRow base 63 5 v' (n+1) (Bj (l++[t]))→AK (fun k=>v.ownBlock=some k) w w'→(v'.ownBlock=v.ownBlock∨v'.ownBlock=some w.heap.size)→wpList Tryz.prog ops Q rest (a.put o.dst v') w'):wpList Tryz.prog ops Q (o::rest) a w:=by
 obtain⟨i0,CA,Cy,hz,Qv⟩:=info_parts pz
 refine wpList_append_own_at w O7 sl x 24 ho base 63 i0 _ 5 40 Tryz.underlying24 CA Cy hz Qv rfl (by decide) v n (Bj l) hs h ad 1 1 (An t) hx rfl Bv (fun u hu=>by simp[An]at hu;rcases hu with rfl|rfl|rfl|rfl|rfl<;>rfl) (by unfold maxLen;omega) (by omega) Hu ?_
 intro v' w' BG KI _ Bp
 rw[←UR]at BG
 exact hK v' w' BG ((AK.refl _ w).grown KI fun k hk=>.inl hk) Bp
section
variable {H : Type} {enc : TypeId × Value → H} {P : Program} {w : World} {base b0 : Nat} {spare : Nat → Bool} {held : Bool} {r : Reach}
theorem pe{t e:TypeId}{v:Value}{d:DataW H}{p:List MemPlace}(ht:P.underlying t=some (.array 5 e))(he:P.underlying e=some (.int .i64))(lu:P.cellsOf e=1)(hct:P.cellsOf t=5)
  (hv:Value.okWide P w r b0 t v) (h:DataW.Trod enc P w base spare held t v d p):
  ∃t:AB,v=.agg #[.int .i64 t.a,.int .i64 t.b,.int .i64 t.c,.int .i64 t.d,.int .i64 t.e]∧CQ t:=by
 obtain⟨zs,hl,rfl,hw⟩:=ZU ht he lu hct hv h
 match zs,hl,hw with
 |[x,y,z,u,q],_,hw=>exact⟨⟨x,y,z,u,q⟩,rfl,fun k hk=>hw k hk⟩
theorem V6{t e:TypeId}{fuel:Nat}{cs:List Value}{x:DataW H×List MemPlace}(ht:P.underlying t=some (.array 5 e))(he:P.underlying e=some (.int .i64))(lu:P.cellsOf e=1)(hct:P.cellsOf t=5)(h:DataW.trod enc P w base spare held fuel t cs=some x):∃u:AB,cs=An u∧CQ u:=by
 obtain⟨xs,m,_,_,hl,vz,hx⟩:=DataW.trod_array ht h
 rw[hct]at hl
 have Be:∀i,i<5→∃z,cs[i]?=some (.int .i64 z)∧Ff z:=by
  intro i hi
  have h1:=hx i hi
  rw[lu,Nat.mul_one]at h1
  rw[List.drop_eq_getElem_cons (by omega),List.take_succ_cons,List.take_zero]at h1
  rw[List.getElem?_eq_getElem (show i<xs.length by omega)]at h1
  obtain⟨z,hz,_,hw⟩:=DataW.trod_int he h1
  injection hz with hz
  exact⟨z,by rw[List.getElem?_eq_getElem (by omega),hz],hw⟩
 clear hx h
 match cs,hl,Be with
 |[c0,c1,c2,c3,c4],_,Be=>
  obtain⟨z0,e0,w0⟩:=Be 0 (by omega)
  obtain⟨z1,e1,w1⟩:=Be 1 (by omega)
  obtain⟨z2,e2,w2⟩:=Be 2 (by omega)
  obtain⟨z3,e3,w3⟩:=Be 3 (by omega)
  obtain⟨z4,e4,w4⟩:=Be 4 (by omega)
  have yN:some c0=some (Value.int .i64 z0):=e0
  injection yN with yN
  subst yN
  have yM:some c1=some (Value.int .i64 z1):=e1
  injection yM with yM
  subst yM
  have yJ:some c2=some (Value.int .i64 z2):=e2
  injection yJ with yJ
  subst yJ
  have yI:some c3=some (Value.int .i64 z3):=e3
  injection yI with yI
  subst yI
  have yH:some c4=some (Value.int .i64 z4):=e4
  injection yH with yH
  subst yH
  refine⟨⟨z0,z1,z2,z3,z4⟩,rfl,fun z hz=>?_⟩
  simp[AB.Bf]at hz
  rcases hz with rfl|rfl|rfl|rfl|rfl<;>assumption
theorem oD{t e i:TypeId}{fuel:Nat}{v:Value}{x:DataW H×List MemPlace}(ht:P.underlying t=some (.slice e))(he:P.underlying e=some (.array 5 i))(hi:P.underlying i=some (.int .i64))(lu:P.cellsOf i=1)(hC:P.cellsOf e=5)
  (h:DataW.trod enc P w base spare held fuel t [v]=some x):∃a len cap l,v=.slice a len cap∧BH w w.heap.size a len l∧len≤maxLen:=by
 rcases open_slice ht h with h0|⟨a,len,cap,m,n,D,Pl,rF,hb,hl,hm,hmm,hx,hit⟩
 ·have h2:=h0.1
  injection h2 with h2;subst h2
  exact⟨none,0,0,[],rfl,BH.nil _ _ _,Nat.zero_le _⟩
 ·injection rF with rF;subst rF
  have hlm:len≤m:=by split at hmm<;>omega
  have hex:∀k,k<len→∃o:AB,CQ o∧∀(j:Nat) (u:Value),(An o)[j]?=some u→w.cell? (a.add (k*5+j))=some u:=by
   intro k hk
   obtain⟨fj,hc,qD⟩:=hit k (by omega)
   rw[hC]at hc
   obtain⟨o,rfl,ho⟩:=V6 he hi lu hC qD
   obtain⟨_,Dv,Bp⟩:=World.cells?_some hc
   refine⟨o,ho,fun j u hj=>?_⟩
   have VQ:j<5:=(List.getElem?_eq_some_iff.1 hj).1
   rw[←Go.Deep.add_add,Bp j VQ,hj]
  obtain⟨f,hf⟩:∃f:Nat→AB,∀k,k<len→CQ (f k)∧∀(j:Nat) (u:Value),(An (f k))[j]?=some u→w.cell? (a.add (k*5+j))=some u:=by
   have:∀k,∃o:AB,k<len→CQ o∧∀(j:Nat) (u:Value),(An o)[j]?=some u→w.cell? (a.add (k*5+j))=some u:=fun k=>by
    by_cases hk:k<len
    ·obtain⟨o,ho⟩:=hex k hk;exact⟨o,fun _=>ho⟩
    ·exact⟨AD,fun h=>absurd h hk⟩
   exact⟨fun k=>(this k).choose,fun k=>(this k).choose_spec⟩
  have Zy:0<len→a.spot=none:=fun hp=>by
   have:=(hf 0 hp).2 0 _ rfl
   simpa [Addr.add]using World.cell?_spot this
  obtain⟨b,off,spot⟩:=a
  have e:∀k j,spot=none→(⟨b,off,spot⟩:Addr).add (k*5+j)=⟨b,off+k*5+j,none⟩:=by
   intro k j hs;subst hs;unfold Addr.add;split<;>simp_all [Nat.add_assoc]
  refine⟨_,len,cap,(List.range len).map f,rfl,⟨by simp,?_,fun Bw=>?_⟩,by omega⟩
  ·intro o ho
   obtain⟨k,hk,rfl⟩:=List.mem_map.1 ho
   exact(hf k (List.mem_range.1 hk)).1
  ·have hs:spot=none:=Zy Bw
   subst hs
   refine⟨b,off,rfl,?_,fun k cQ j u hj=>?_⟩
   ·have:=(hf 0 Bw).2 0 _ rfl;rw[e _ _ rfl]at this;exact block_lt_of_cell this
   ·have hD:((List.range len).map f).getD k AD=f k:=by
     rw[List.getD_eq_getElem?_getD,List.getElem?_map,List.getElem?_range cQ];rfl
    rw[hD]at hj
    have:=(hf k cQ).2 j u hj
    rw[e _ _ rfl]at this;exact this
end
section
variable {H : Type} {enc : TypeId × Value → H} {P : Program} {w : World} {base b0 : Nat} {spare : Nat → Bool} {held : Bool} {r : Reach}
theorem Mx{t i:TypeId}{fs:Array Field}{v:Value}{d:DataW H}{p:List MemPlace}(ht:P.underlying t=some (.struct fs))(OP:oneCellFields P fs=true)(hC:P.cellsOf t=fs.size)(hi:P.underlying i=some (.int .u8))(L3:∀(j:Nat) (f:Field),fs[j]?=some f→f.type=i)
  (hv:Value.okWide P w r b0 t v) (h:DataW.Trod enc P w base spare held t v d p):
  ∃zs:List Int,zs.length=fs.size∧v=.agg (zs.map (Value.int .u8)).toArray∧∀z∈zs,(Lit.int .u8 z).wf=true:=by
 have h0:∃cs,v=.agg cs∧cs.size=P.cellsOf t:=by
  simp only[Value.okWide,ht]at hv
  obtain⟨cs,h1,h2,_⟩:=hv
  exact⟨cs,h1,h2⟩
 obtain⟨cs,rfl,hsz⟩:=h0
 obtain⟨fuel,hf⟩:=h
 have K3:(Value.agg cs).cells.toList=cs.toList:=by simp[Value.cells]
 rw[K3]at hf
 obtain⟨ys,n',wv,hy,hlen,hyl,aO⟩:=DataW.trod_struct ht hf
 have rP:∀j,j<fs.size→∃z,cs[j]?=some (.int .u8 z)∧(Lit.int .u8 z).wf=true:=by
  intro j hj
  have xI:fs[j]?=some fs[j]:=Array.getElem?_eq_getElem hj
  obtain⟨ho,hk⟩:=hone_of OP j _ xI
  have h1:=aO j _ xI
  rw[ho,hk]at h1
  have cR:j<cs.toList.length:=by simp;omega
  have qi:(cs.toList.drop j).take 1=[cs.toList[j]'cR]:=by
   rw[List.drop_eq_getElem_cons cR];rfl
  rw[qi]at h1
  have hys:ys[j]?=some (ys[j]'(by omega)):=List.getElem?_eq_getElem (by omega)
  rw[L3 j _ xI]at h1
  obtain⟨z,hz,_,hw⟩:=DataW.trod_int hi (h1.trans hys)
  injection hz with hz
  exact⟨z,by rw[←Array.getElem?_toList,List.getElem?_eq_getElem cR,hz],hw⟩
 have jA:∀c∈cs.toList,c=.int .u8 (intOf c)∧(Lit.int .u8 (intOf c)).wf=true:=by
  intro c hc
  obtain⟨j,hj,rfl⟩:=List.getElem_of_mem hc
  obtain⟨z,hz,hw⟩:=rP j (by simp at hj;omega)
  rw[←Array.getElem?_toList,List.getElem?_eq_getElem hj]at hz
  injection hz with hz
  rw[hz];exact⟨rfl,hw⟩
 refine⟨cs.toList.map intOf,by rw[List.length_map];simp;omega,?_,?_⟩
 ·congr 1
  apply Array.ext'
  rw[List.map_map]
  have e1:∀l:List Value,(∀c∈l,c=.int .u8 (intOf c)∧(Lit.int .u8 (intOf c)).wf=true)→l=l.map (Value.int .u8∘intOf):=by
   intro l
   induction l with
   |nil=>intro _;rfl
   |cons c l ih=>intro h;rw[List.map_cons,←ih fun x hx=>h x (by simp[hx])];congr 1;exact(h c (by simp)).1
  exact e1 _ jA
 ·intro z hz
  obtain⟨c,hc,rfl⟩:=List.mem_map.1 hz
  exact(jA c hc).2
theorem QE{z:Int}(h:(Lit.int .u8 z).wf=true):∃u:Nat,z=(u:Int)∧u≤255:=by
 have:=bounds_u8 h
 exact⟨z.toNat,by omega,by omega⟩
theorem kQ{t i:TypeId}{f0 f1 f2 f3:Field}{v:Value}{d:DataW H}{p:List MemPlace}(ht:P.underlying t=some (.struct #[f0,f1,f2,f3]))(OP:oneCellFields P #[f0,f1,f2,f3]=true)(hC:P.cellsOf t=4)(hi:P.underlying i=some (.int .u8))(h0:f0.type=i)(h1:f1.type=i)(h2:f2.type=i)(h3:f3.type=i)
  (hv:Value.okWide P w r b0 t v) (h:DataW.Trod enc P w base spare held t v d p):
  ∃x y z u:Nat,v=.agg #[.int .u8 x,.int .u8 y,.int .u8 z,.int .u8 u]∧x≤255∧y≤255∧z≤255∧u≤255:=by
 obtain⟨zs,hl,rfl,hw⟩:=Mx ht OP hC hi (fun j f hj=>by
  match j,hj with
  |0,hj=>simp at hj;rw[←hj];exact h0
  |1,hj=>simp at hj;rw[←hj];exact h1
  |2,hj=>simp at hj;rw[←hj];exact h2
  |3,hj=>simp at hj;rw[←hj];exact h3
  |j+4,hj=>simp at hj) hv h
 match zs,hl,hw with
 |[x,y,z,u],_,hw=>
  obtain⟨x',rfl,bx⟩:=QE (hw x (by simp))
  obtain⟨y',rfl,by'⟩:=QE (hw y (by simp))
  obtain⟨z',rfl,bz⟩:=QE (hw z (by simp))
  obtain⟨u',rfl,bu⟩:=QE (hw u (by simp))
  exact⟨x',y',z',u',rfl,bx,by',bz,bu⟩
end
def A4(t:AB)(i:Nat):Int:=t.Bf.getD i 0
def Ce(k:Int):Nat:=k.natAbs-1
theorem eW{k:Int}(h:0<k):((Ce k:Nat):Int)=k-1:=by unfold Ce;omega
theorem eX{k:Int}(h:k<0):((Ce k:Nat):Int)=-k-1:=by unfold Ce;omega
def Fm(o:AB):Prop:=∀i,i<5→(-5≤A4 o i∧A4 o i≤5)∧∀k,k<i→A4 o i≠0→A4 o k≠0∧Ce (A4 o k)≠Ce (A4 o i)
instance fmDec (o : AB) : Decidable (Fm o) := by unfold Fm; exact inferInstance
def cmpL:List Int→AB→AB→Int
 |[],_,_=>0
 |k::ks,a,b=>if k=0 then 0 else if A4 a (Ce k)=A4 b (Ce k)then cmpL ks a b else if decide (A4 a (Ce k)<A4 b (Ce k))=decide (0<k)then -1 else 1
def AN(o a b:AB):Int:=if Fm o then cmpL o.Bf a b else 0
theorem E6(ks:List Int)(a b:AB):cmpL (0::ks) a b=0:=by unfold cmpL;rw[if_pos rfl]
theorem F8{k:Int}(h0:k≠0)(ks:List Int){a b:AB}(h1:A4 a (Ce k)=A4 b (Ce k)):cmpL (k::ks) a b=cmpL ks a b:=by rw[cmpL,if_neg h0,if_pos h1]
theorem Et{k:Int}(h0:k≠0)(ks:List Int){a b:AB}(h1:A4 a (Ce k)<A4 b (Ce k)):cmpL (k::ks) a b=if 0<k then -1 else 1:=by
 rw[cmpL,if_neg h0,if_neg (by omega)]
 by_cases h4:0<k<;>simp[h1,h4]
theorem Eu{k:Int}(h0:k≠0)(ks:List Int){a b:AB}(h1:A4 b (Ce k)<A4 a (Ce k)):cmpL (k::ks) a b=if 0<k then 1 else -1:=by
 rw[cmpL,if_neg h0,if_neg (by omega)]
 have h2:¬A4 a (Ce k)<A4 b (Ce k):=by omega
 by_cases h4:0<k<;>simp[h2,h4]
theorem PU:∀(ks:List Int) (a b:AB),cmpL ks a b=-cmpL ks b a
 |[],_,_=>rfl
 |k::ks,a,b=>by
  by_cases h0:k=0
  ·rw[h0,E6,E6];rfl
  ·rcases Int.lt_trichotomy (A4 a (Ce k)) (A4 b (Ce k))with h|h|h
   ·rw[Et h0 ks h,Eu h0 ks h];split<;>rfl
   ·rw[F8 h0 ks h,F8 h0 ks h.symm];exact PU ks a b
   ·rw[Eu h0 ks h,Et h0 ks h];split<;>rfl
theorem Nf:∀(ks:List Int) (a b c:AB),cmpL ks a b≤0→cmpL ks b c≤0→cmpL ks a c≤0
 |[],_,_,_=>fun _ _=>Int.le_refl _
 |k::ks,a,b,c=>by
  by_cases h0:k=0
  ·rw[h0,E6,E6,E6];omega
  ·rcases Int.lt_trichotomy (A4 a (Ce k)) (A4 b (Ce k))with h|h|h
   ·rw[Et h0 ks h]
    intro g1
    have hk:0<k:=by
     by_cases hk:0<k
     ·exact hk
     ·rw[if_neg hk]at g1;omega
    rcases Int.lt_trichotomy (A4 b (Ce k)) (A4 c (Ce k))with g|g|g
    ·rw[Et h0 ks (a:=a) (b:=c) (by omega),if_pos hk];omega
    ·rw[Et h0 ks (a:=a) (b:=c) (by omega),if_pos hk];omega
    ·rw[Eu h0 ks g,if_pos hk];omega
   ·rcases Int.lt_trichotomy (A4 b (Ce k)) (A4 c (Ce k))with g|g|g
    ·rw[Et h0 ks g,Et h0 ks (a:=a) (b:=c) (by omega)];exact fun _ h=>h
    ·rw[F8 h0 ks h,F8 h0 ks g,F8 h0 ks (h.trans g)];exact Nf ks a b c
    ·rw[Eu h0 ks g,Eu h0 ks (a:=a) (b:=c) (by omega)];exact fun _ h=>h
   ·rw[Eu h0 ks h]
    intro g1
    have hk:¬0<k:=by
     intro hk
     rw[if_pos hk]at g1;omega
    rcases Int.lt_trichotomy (A4 b (Ce k)) (A4 c (Ce k))with g|g|g
    ·rw[Et h0 ks g,if_neg hk];omega
    ·rw[Eu h0 ks (a:=a) (b:=c) (by omega),if_neg hk];omega
    ·rw[Eu h0 ks (a:=a) (b:=c) (by omega),if_neg hk];omega
theorem Ag(o a b:AB):AN o a b=-AN o b a:=by
 unfold AN;split
 ·exact PU _ _ _
 ·rfl
theorem Bz{o a b c:AB}(h1:AN o a b≤0)(h2:AN o b c≤0):AN o a c≤0:=by
 unfold AN at*
 by_cases h:Fm o
 ·rw[if_pos h]at*;exact Nf _ _ _ _ h1 h2
 ·rw[if_neg h]at*;exact Int.le_refl _
theorem Gm(o a:AB):AN o a a=0:=by have:=Ag o a a;omega
def posB(f:AB→Bool)(l:List AB):Nat→Nat
 |0=>0
 |k+1=>if f (l.getD k AD)=true then posB f l k else k+1
theorem J8(f:AB→Bool)(l:List AB):∀k,posB f l k≤k
 |0=>Nat.le_refl _
 |k+1=>by
  unfold posB
  split
  ·exact Nat.le_succ_of_le (J8 f l k)
  ·exact Nat.le_refl _
theorem JV(f:AB→Bool)(l:List AB):∀k,0<posB f l k→f (l.getD (posB f l k-1) AD)=false
 |0,h=>absurd h (by simp[posB])
 |k+1,h=>by
  unfold posB at h⊢
  by_cases e:f (l.getD k AD)=true
  ·rw[if_pos e]at h⊢;exact JV f l k h
  ·rw[if_neg e];simpa using e
theorem Ft(f:AB→Bool)(l:List AB):∀k i,posB f l k≤i→i<k→f (l.getD i AD)=true
 |0,i,_,h=>absurd h (by omega)
 |k+1,i,h1,h2=>by
  unfold posB at h1
  by_cases e:f (l.getD k AD)=true
  ·rw[if_pos e]at h1
   by_cases UB:i=k
   ·rw[UB];exact e
   ·exact Ft f l k i h1 (by omega)
  ·rw[if_neg e]at h1;omega
def NA(o:AB)(l:List AB)(t:AB):List AB:=l.take (posB (fun y=>decide (AN o t y<0)) l l.length)++t::l.drop (posB (fun y=>decide (AN o t y<0)) l l.length)
def YF(o:AB)(l:List AB):Prop:=∀i,i+1<l.length→AN o (l.getD i AD) (l.getD (i+1) AD)≤0
theorem ME(o:AB):YF o []:=fun i h=>by simp at h
theorem Zo(o:AB)(l:List AB)(t:AB):(NA o l t).length=l.length+1:=by
 unfold NA
 have:=J8 (fun y=>decide (AN o t y<0)) l l.length
 rw[List.length_append,List.length_cons,List.length_take,List.length_drop];omega
theorem VG(o:AB)(l:List AB)(t:AB)(i:Nat):(NA o l t).getD i AD=if i<posB (fun y=>decide (AN o t y<0)) l l.length then l.getD i AD else if i=posB (fun y=>decide (AN o t y<0)) l l.length then t else l.getD (i-1) AD:=by
 unfold NA
 have hk:=J8 (fun y=>decide (AN o t y<0)) l l.length
 generalize posB (fun y=>decide (AN o t y<0)) l l.length=k at*
 have hlt:(l.take k).length=k:=by rw[List.length_take];omega
 rw[List.getD_eq_getElem?_getD,List.getD_eq_getElem?_getD,List.getD_eq_getElem?_getD]
 by_cases h1:i<k
 ·rw[if_pos h1,List.getElem?_append_left (by omega),List.getElem?_take,if_pos h1]
 ·rw[if_neg h1,List.getElem?_append_right (by omega),hlt]
  by_cases h2:i=k
  ·rw[if_pos h2,h2,Nat.sub_self];rfl
  ·rw[if_neg h2,show i-k=(i-k-1)+1 by omega,List.getElem?_cons_succ,List.getElem?_drop,show k+(i-k-1)=i-1 by omega]
theorem SA{o:AB}{l:List AB}(h:YF o l)(t:AB):YF o (NA o l t):=by
 intro i hi
 rw[Zo]at hi
 rw[VG,VG]
 have hk:=J8 (fun y=>decide (AN o t y<0)) l l.length
 have ha:=JV (fun y=>decide (AN o t y<0)) l l.length
 have hb:=Ft (fun y=>decide (AN o t y<0)) l l.length
 generalize posB (fun y=>decide (AN o t y<0)) l l.length=k at*
 by_cases h1:i+1<k
 ·rw[if_pos (by omega),if_pos h1];exact h i (by omega)
 ·rw[if_neg h1]
  by_cases h2:i+1=k
  ·rw[if_pos (by omega),if_pos h2]
   have:=ha (by omega)
   rw[show k-1=i by omega]at this
   have h3:¬AN o t (l.getD i AD)<0:=by simpa using this
   rw[Ag];omega
  ·rw[if_neg h2,if_neg (by omega)]
   by_cases h3:i=k
   ·rw[if_pos h3,show i+1-1=i by omega]
    have h4:AN o t (l.getD i AD)<0:=by simpa using hb i (by omega) (by omega)
    omega
   ·rw[if_neg h3]
    have:=h (i-1) (by omega)
    rw[show i-1+1=i by omega]at this
    rw[show i+1-1=i by omega]
    exact this
def IL(o:AB):List AB→List AB→List AB
 |out,[]=>out
 |out,t::l=>IL o (NA o out t) l
theorem GZ(o:AB):∀(l out:List AB),YF o out→YF o (IL o out l)
 |[],_,h=>h
 |t::l,out,h=>GZ o l (NA o out t) (SA h t)
def mZ(k:Int):Int:=if k<0 then -k-1 else k-1
theorem Va{k:Int}(h:k≠0):mZ k=((Ce k:Nat):Int):=by
 unfold mZ
 split
 ·rw[eX (by omega)]
 ·rw[eW (by omega)]
theorem Zg{k:Int}(_h0:k≠0)(h:-5≤k∧k≤5):Ce k<5:=by unfold Ce;omega
def mh(t:AB):List Value:=[.int .i64 t.a,.int .i64 t.b,.int .i64 t.c,.int .i64 t.d,.int .i64 t.e]
theorem Sj{W:World}{g:Nat}{T:TypeId}{t:AB}(h:Row W g T (mh t)){i:Nat}(hi:i<5):W.cell? ⟨g,i,none⟩=some (.int .i64 (A4 t i)):=by
 rw[h.cell i]
 match i,hi with
 |0,_=>rfl
 |1,_=>rfl
 |2,_=>rfl
 |3,_=>rfl
 |4,_=>rfl
theorem Bx{B:Nat}{a w:World}(h:Below B a w)(q:Nat):Below B a (w.drewN q):=⟨h.os,h.tape,h.output,h.size,h.block⟩
def Uq(o:AB)(i:Nat):Prop:=(-5≤A4 o i∧A4 o i≤5)∧∀k,k<i→A4 o i≠0→A4 o k≠0∧Ce (A4 o k)≠Ce (A4 o i)
theorem fe{o:AB}{i:Nat}(hi:i<5):o.Bf.drop i=A4 o i::o.Bf.drop (i+1):=by
 match i,hi with
 |0,_=>rfl
 |1,_=>rfl
 |2,_=>rfl
 |3,_=>rfl
 |4,_=>rfl
theorem az(o:AB):o.Bf.drop 5=[]:=rfl
instance srtDec (o : AB) (l : List AB) : Decidable (YF o l) := decidable_of_iff (∀ i, i < l.length - 1 → AN o (l.getD i AD) (l.getD (i + 1) AD) ≤ 0) ⟨fun h i hi => h i (by omega), fun h i hi => h i (by omega)⟩
theorem Nk{B:Nat}{a w:World}(h:Below B a w){g:Nat}(hg:B≤g)(j:Nat)(v0 v1 v2 v3 v4:Value):Below B a (((((w.setCell ⟨g,j,none⟩ v0).setCell ⟨g,j+1,none⟩ v1).setCell ⟨g,j+2,none⟩ v2).setCell ⟨g,j+3,none⟩ v3).setCell ⟨g,j+4,none⟩ v4):=
 ((((h.setCell (p:=⟨g,j,none⟩) hg v0).setCell (p:=⟨g,j+1,none⟩) hg v1).setCell (p:=⟨g,j+2,none⟩) hg v2).setCell (p:=⟨g,j+3,none⟩) hg v3).setCell (p:=⟨g,j+4,none⟩) hg v4
def Zn(o:AB)(out:List AB)(t:AB):List AB:=if 0<posB (fun y=>decide (AN o t y<0)) out out.length∧AN o t (out.getD (posB (fun y=>decide (AN o t y<0)) out out.length-1) AD)=0 then out else NA o out t
def RU(o:AB):List AB→List AB→List AB
 |out,[]=>out
 |out,t::l=>RU o (Zn o out t) l
abbrev Ex:=Nat×Nat
def Canon(hi:Nat):Nat→List Ex→Prop
 | _,[]=>True
 |lo,x::l=>lo≤x.1∧1≤x.2∧x.1+x.2≤hi∧Canon hi (x.1+x.2+1) l
def hasB(l:List Ex)(b:Nat):Prop:=∃x∈l,x.1≤b∧b<x.1+x.2
def Ax(l:List Ex):Nat:=(l.map (·.2)).sum
section
variable {hi lo : Nat} {l A B : List Ex} {x : Ex}
theorem Canon.mono{z7:Nat}(h:Canon hi lo l)(hl:z7≤lo):Canon hi z7 l:=by
 cases l with
 |nil=>trivial
 |cons x l=>exact⟨by have:=h.1;omega,h.2⟩
theorem CV:∀{A:List Ex} {lo:Nat},Canon hi lo (A++x::B)↔Canon hi lo A∧(∀y∈A,y.1+y.2+1≤x.1)∧lo≤x.1∧1≤x.2∧x.1+x.2≤hi∧Canon hi (x.1+x.2+1) B
 |[],lo=>by simp[Canon]
 |y::A,lo=>by
  show lo≤y.1∧1≤y.2∧y.1+y.2≤hi∧Canon hi (y.1+y.2+1) (A++x::B)↔(lo≤y.1∧1≤y.2∧y.1+y.2≤hi∧Canon hi (y.1+y.2+1) A)∧ _
  rw[CV (A:=A)]
  constructor
  ·rintro⟨h1,h2,h3,h4,h5,h6,h7,h8,h9⟩
   refine⟨⟨h1,h2,h3,h4⟩,fun z hz=>?_,by omega,h7,h8,h9⟩
   rcases List.mem_cons.1 hz with rfl|hz
   ·exact h6
   ·exact h5 z hz
  ·rintro⟨⟨h1,h2,h3,h4⟩,h5,h6,h7,h8,h9⟩
   exact⟨h1,h2,h3,h4,fun z hz=>h5 z (List.mem_cons_of_mem _ hz),h5 y List.mem_cons_self,h7,h8,h9⟩
theorem Canon.left:∀{A:List Ex} {lo:Nat},Canon hi lo (A++B)→Canon hi lo A
 |[],_,_=>trivial
 | _:: _,_,h=>⟨h.1,h.2.1,h.2.2.1,Canon.left h.2.2.2⟩
theorem Canon.Mz:∀{l:List Ex} {lo:Nat} {x:Ex},Canon hi lo l→x∈l→lo≤x.1∧1≤x.2∧x.1+x.2≤hi
 |[],_,_,_,h=>by cases h
 |y::l,lo,x,h,hx=>by
  rcases List.mem_cons.1 hx with rfl|p6
  ·exact⟨h.1,h.2.1,h.2.2.1⟩
  ·have h1:=Canon.Mz (x:=x) h.2.2.2 p6;have h2:=h.1;omega
theorem Canon.apart:∀{l:List Ex} {lo:Nat} {x y:Ex},Canon hi lo l→x∈l→y∈l→x=y∨x.1+x.2+1≤y.1∨y.1+y.2+1≤x.1
 |[],_,_,_,_,h,_=>by cases h
 |z::l,lo,x,y,h,hx,hy=>by
  rcases List.mem_cons.1 hx with rfl|p6<;>rcases List.mem_cons.1 hy with rfl|vt
  ·exact .inl rfl
  ·exact .inr (.inl (Canon.Mz h.2.2.2 vt).1)
  ·exact .inr (.inr (Canon.Mz h.2.2.2 p6).1)
  ·exact Canon.apart h.2.2.2 p6 vt
theorem Canon.has(h:Canon hi lo l){b:Nat}(hb:hasB l b):lo≤b∧b<hi:=by
 obtain⟨x,hx,h1,h2⟩:=hb
 have:=h.Mz hx;omega
theorem Canon.length(h:Canon hi lo l):l.length≤hi-lo:=by
 induction l generalizing lo with
 |nil=>simp
 |cons x l ih=>
  have:=ih h.2.2.2
  have:=h.1;have:=h.2.1;have:=h.2.2.1
  simp only[List.length_cons];omega
theorem Gi(b:Nat):¬hasB [] b:=by rintro⟨x,h,_⟩;cases h
theorem BV{b:Nat}:hasB (x::l) b↔(x.1≤b∧b<x.1+x.2)∨hasB l b:=by simp[hasB]
theorem Av{b:Nat}:hasB (A++B) b↔hasB A b∨hasB B b:=by simp[hasB,or_and_right,exists_or]
theorem Al:Ax (A++B)=Ax A+Ax B:=by simp[Ax]
theorem CS:Ax (x::l)=x.2+Ax l:=by simp[Ax]
theorem GW:Ax []=0:=rfl
theorem Canon.sum(h:Canon hi lo l):Ax l≤hi-lo:=by
 induction l generalizing lo with
 |nil=>simp[Ax]
 |cons x l ih=>
  have:=ih h.2.2.2
  have:=h.1;have:=h.2.1;have:=h.2.2.1
  rw[CS];omega
theorem Canon.only:∀{l l':List Ex} {lo:Nat},Canon hi lo l→Canon hi lo l'→(∀b,hasB l b↔hasB l' b)→l=l'
 |[],[],_,_,_,_=>rfl
 |[],y::l',_,_,h',e=>absurd ((e y.1).2 ⟨y,List.mem_cons_self,Nat.le_refl _,by have:=h'.2.1;omega⟩) (Gi _)
 |x::l,[],_,h,_,e=>absurd ((e x.1).1 ⟨x,List.mem_cons_self,Nat.le_refl _,by have:=h.2.1;omega⟩) (Gi _)
 |x::l,y::l',lo,h,h',e=>by
  have low:∀{z:Ex} {m:List Ex} {b:Nat},Canon hi lo (z::m)→hasB (z::m) b→z.1≤b:=fun {z m b} hc hb=>by
   rcases BV.1 hb with hb|hb
   ·exact hb.1
   ·have:=(Canon.has hc.2.2.2 hb).1;omega
  have gap:∀{z:Ex} {m:List Ex},Canon hi lo (z::m)→¬hasB (z::m) (z.1+z.2):=fun {z m} hc hb=>by
   rcases BV.1 hb with hb|hb
   ·omega
   ·have:=(Canon.has hc.2.2.2 hb).1;omega
  have h1:x.1≤y.1:=low h ((e y.1).2 ⟨y,List.mem_cons_self,Nat.le_refl _,by have:=h'.2.1;omega⟩)
  have h2:y.1≤x.1:=low h' ((e x.1).1 ⟨x,List.mem_cons_self,Nat.le_refl _,by have:=h.2.1;omega⟩)
  have h3:y.1+y.2≤x.1+x.2:=by
   rcases Nat.lt_or_ge (x.1+x.2) (y.1+y.2)with hlt|hge
   ·exact absurd ((e (x.1+x.2)).2 ⟨y,List.mem_cons_self,by omega,hlt⟩) (gap h)
   ·exact hge
  have h4:x.1+x.2≤y.1+y.2:=by
   rcases Nat.lt_or_ge (y.1+y.2) (x.1+x.2)with hlt|hge
   ·exact absurd ((e (y.1+y.2)).1 ⟨x,List.mem_cons_self,by omega,hlt⟩) (gap h')
   ·exact hge
  have hxy:x=y:=Prod.ext (by omega) (by omega)
  subst hxy
  rw[Canon.only h.2.2.2 h'.2.2.2 fun b=>?_]
  constructor
  ·intro hb
   have h5:=Canon.has h.2.2.2 hb
   rcases BV.1 ((e b).1 (BV.2 (.inr hb)))with h6|h6
   ·omega
   ·exact h6
  ·intro hb
   have h5:=Canon.has h'.2.2.2 hb
   rcases BV.1 ((e b).2 (BV.2 (.inr hb)))with h6|h6
   ·omega
   ·exact h6
theorem Canon.one(h:Canon hi lo l){k:Nat}:∀{n:Nat},1≤n→(∀b,k≤b→b<k+n→hasB l b)→∃x∈l,x.1≤k∧k+n≤x.1+x.2
 |0,h1,_=>by omega
 |1,_,hb=>by
  obtain⟨x,hx,h1,h2⟩:=hb k (by omega) (by omega)
  exact⟨x,hx,h1,by omega⟩
 |n+2,_,hb=>by
  obtain⟨x,hx,h1,h2⟩:=Canon.one h (n:=n+1) (by omega) (fun b h1 h2=>hb b h1 (by omega))
  obtain⟨y,hy,h3,h4⟩:=hb (k+(n+1)) (by omega) (by omega)
  rcases h.apart hx hy with rfl|h5|h5
  ·exact⟨x,hx,h1,by omega⟩
  ·omega
  ·omega
end
def Ad(l:List Ex)(i:Nat):Ex:=l.getD i (0,0)
theorem DE{l:List Ex}{i:Nat}(hi:i<l.length):Ad l i=l[i]:=by
 unfold Ad;rw[List.getD_eq_getElem?_getD,List.getElem?_eq_getElem hi];rfl
def IU(x:Ex)(f n:Nat):List Ex:=(if x.1<f then [(x.1,f-x.1)]else [])++(if f+n<x.1+x.2 then [(f+n,x.1+x.2-(f+n))]else [])
def Hj(l:List Ex)(i f n:Nat):List Ex:=l.take i++IU (Ad l i) f n++l.drop (i+1)
theorem RQ{l:List Ex}{i:Nat}(hi:i<l.length):l=l.take i++Ad l i::l.drop (i+1):=by
 conv=>lhs;rw[←List.take_append_drop i l,List.drop_eq_getElem_cons hi]
 rw[DE hi]
theorem XQ{x:Ex}{f n b:Nat}(h1:x.1≤f)(h2:f+n≤x.1+x.2):hasB (IU x f n) b↔(x.1≤b∧b<x.1+x.2)∧¬(f≤b∧b<f+n):=by
 unfold IU
 rw[Av]
 by_cases h3:x.1<f<;>by_cases h4:f+n<x.1+x.2<;>simp[hasB,h3,h4]<;>omega
theorem UY{hi:Nat}{x:Ex}{f n:Nat}{A B:List Ex}{lo:Nat}(h:Canon hi lo (A++x::B))(h1:x.1≤f)(h2:f+n≤x.1+x.2)(hn:1≤n):Canon hi lo (A++IU x f n++B):=by
 obtain⟨c1,c2,c3,c4,c5,c6⟩:=CV.1 h
 have tail:∀(C:List Ex) (c:Nat),Canon hi lo C→(∀y∈C,y.1+y.2≤c)→c≤x.1+x.2→Canon hi lo (C++B):=by
  intro C c hC hy hc
  cases B with
  |nil=>simpa using hC
  |cons z B=>
   have hz:=c6
   refine CV.2 ⟨hC,fun y h=>?_,?_,hz.2.1,hz.2.2.1,hz.2.2.2⟩
   ·have:=hy y h;have:=hz.1;omega
   ·have:=hz.1;omega
 unfold IU
 have hA:∀y∈A,y.1+y.2≤x.1+x.2:=fun y hy=>by have:=c2 y hy;omega
 by_cases h3:x.1<f<;>by_cases h4:f+n<x.1+x.2
 ·rw[if_pos h3,if_pos h4]
  refine tail _ (x.1+x.2) ?_ ?_ (Nat.le_refl _)
  ·rw[show A++([(x.1,f-x.1)]++[(f+n,x.1+x.2-(f+n))])=A++(x.1,f-x.1)::[(f+n,x.1+x.2-(f+n))]from rfl]
   refine CV.2 ⟨c1,c2,c3,?_,?_,?_,?_,?_,trivial⟩<;>simp<;>omega
  ·intro y hy
   simp at hy
   rcases hy with hy|rfl|rfl
   ·exact hA y hy
   ·simp;omega
   ·simp;omega
 ·rw[if_pos h3,if_neg h4,List.append_nil]
  refine tail _ (x.1+x.2) ?_ ?_ (Nat.le_refl _)
  ·refine CV.2 ⟨c1,c2,c3,?_,?_,trivial⟩<;>simp<;>omega
  ·intro y hy
   simp at hy
   rcases hy with hy|rfl
   ·exact hA y hy
   ·simp;omega
 ·rw[if_neg h3,if_pos h4,List.nil_append]
  refine tail _ (x.1+x.2) ?_ ?_ (Nat.le_refl _)
  ·refine CV.2 ⟨c1,?_,?_,?_,?_,trivial⟩<;>simp
   ·intro a b hy;have:=c2 (a,b) hy;simp at this;omega
   ·omega
   ·omega
   ·omega
  ·intro y hy
   simp at hy
   rcases hy with hy|rfl
   ·exact hA y hy
   ·simp;omega
 ·rw[if_neg h3,if_neg h4,List.append_nil,List.append_nil]
  exact tail A (x.1+x.2) c1 hA (Nat.le_refl _)
theorem Yi{x:Ex}{f n:Nat}(h1:x.1≤f)(h2:f+n≤x.1+x.2):Ax (IU x f n)+n=x.2:=by
 unfold IU
 rw[Al]
 by_cases h3:x.1<f<;>by_cases h4:f+n<x.1+x.2<;>simp[Ax,h3,h4]<;>omega
theorem Sc{hi lo:Nat}{l:List Ex}{i f n:Nat}(h:Canon hi lo l)(hil:i<l.length)(h1:(Ad l i).1≤f)(h2:f+n≤(Ad l i).1+(Ad l i).2)(hn:1≤n):
  Canon hi lo (Hj l i f n)∧(∀b,hasB (Hj l i f n) b↔hasB l b∧¬(f≤b∧b<f+n))∧Ax (Hj l i f n)+n=Ax l:=by
 have hs:=RQ hil
 unfold Hj
 generalize Ad l i=x at*
 generalize l.take i=A at*
 generalize l.drop (i+1)=B at*
 subst hs
 refine⟨UY h h1 h2 hn,fun b=>?_,?_⟩
 ·obtain⟨c1,c2,c3,c4,c5,c6⟩:=CV.1 h
  rw[Av,Av,XQ h1 h2,Av,BV]
  have hA:hasB A b→¬(f≤b∧b<f+n):=by
   rintro⟨y,hy,h3,h4⟩ h5
   have:=c2 y hy;omega
  have hB:hasB B b→¬(f≤b∧b<f+n):=fun hb=>by have:=c6.has hb;omega
  constructor
  ·rintro((h3|h3)|h3)
   ·exact⟨.inl h3,hA h3⟩
   ·exact⟨.inr (.inl h3.1),h3.2⟩
   ·exact⟨.inr (.inr h3),hB h3⟩
  ·rintro⟨h3|h3|h3,h4⟩
   ·exact .inl (.inl h3)
   ·exact .inl (.inr ⟨h3,h4⟩)
   ·exact .inr h3
 ·rw[Al,Al,Al,CS]
  have:=Yi (x:=x) (f:=f) (n:=n) h1 h2
  omega
def A8(l:List Ex)(a:Nat):Nat:=l.findIdx fun x=>decide (a<x.1+x.2)
def EY(l:List Ex)(n:Nat):Nat:=l.findIdx fun x=>decide (n≤x.2)
theorem QZ{l:List Ex}{i:Nat}(hi:i<l.length):Ad l i∈l:=by
 rw[DE hi];exact List.getElem_mem hi
theorem Dn{p:Ex→Bool}{l:List Ex}{i:Nat}(hi:i≤l.length)(h1:∀k,k<i→p (Ad l k)=false)(h2:i<l.length→p (Ad l i)=true):l.findIdx p=i:=by
 rcases Nat.lt_trichotomy (l.findIdx p) i with h|h|h
 ·have h3:=List.findIdx_getElem (p:=p) (xs:=l) (w:=by omega)
  have h4:=h1 _ h
  rw[DE (by omega),h3]at h4;cases h4
 ·exact h
 ·have h3:=List.not_of_lt_findIdx h
  have hil:i<l.length:=Nat.lt_of_lt_of_le h List.findIdx_le_length
  have h4:=h2 hil
  rw[DE hil]at h4
  rw[h4]at h3;cases h3
theorem Ji{p:Ex→Bool}{l:List Ex}(h:l.findIdx p<l.length):p (Ad l (l.findIdx p))=true:=by
 rw[DE h];exact List.findIdx_getElem
theorem EE{p:Ex→Bool}{l:List Ex}{k:Nat}(h:k<l.findIdx p):p (Ad l k)=false:=by
 have hk:k<l.length:=Nat.lt_of_lt_of_le h List.findIdx_le_length
 rw[DE hk]
 simpa using List.not_of_lt_findIdx h
theorem Canon.ends{hi lo:Nat}{l:List Ex}(h:Canon hi lo l){i j:Nat}(Fa:i<j)(hj:j<l.length):(Ad l i).1+(Ad l i).2+1≤(Ad l j).1:=by
 have hs:=RQ hj
 rw[hs]at h
 have h2:=(CV.1 h).2.1 (Ad l i) (by
  rw[DE (by omega)]
  have h3:(l.take j)[i]?=some l[i]:=by rw[List.getElem?_take,if_pos Fa,List.getElem?_eq_getElem (by omega)]
  exact List.mem_of_getElem? h3)
 exact h2
theorem Canon.getD{hi lo:Nat}{l:List Ex}(h:Canon hi lo l){i:Nat}(hil:i<l.length):lo≤(Ad l i).1∧1≤(Ad l i).2∧(Ad l i).1+(Ad l i).2≤hi:=h.Mz (QZ hil)
theorem Tp{hi lo:Nat}{l:List Ex}{f n:Nat}(h:Canon hi lo l)(hn:1≤n)(hb:∀b,f≤b→b<f+n→hasB l b):
  A8 l f<l.length∧(Ad l (A8 l f)).1≤f∧f+n≤(Ad l (A8 l f)).1+(Ad l (A8 l f)).2:=by
 obtain⟨x,hx,h1,h2⟩:=h.one hn hb
 obtain⟨j,hj,rfl⟩:=List.getElem_of_mem hx
 have hg:Ad l j=l[j]:=DE hj
 have he:A8 l f=j:=Dn (Nat.le_of_lt hj) (fun k hk=>by
   have:=h.ends hk hj
   rw[hg]at this
   simp;omega) (fun _=>by rw[hg];simp;omega)
 rw[he,hg]
 exact⟨hj,h1,h2⟩
theorem Iw{hi lo:Nat}{l:List Ex}{f n:Nat}(h:Canon hi lo l)(hn:1≤n):(∀b,f≤b→b<f+n→¬hasB l b)↔(A8 l f<l.length→f+n≤(Ad l (A8 l f)).1):=by
 constructor
 ·intro hb hlt
  rcases Nat.lt_or_ge (Ad l (A8 l f)).1 (f+n)with h1|h1
  ·have h2:=Ji (p:=fun x:Ex=>decide (f<x.1+x.2)) hlt
   simp only[decide_eq_true_eq]at h2
   have hg:=h.getD hlt
   refine absurd ⟨_,QZ hlt,?_,?_⟩ (hb (max f (Ad l (A8 l f)).1) (by omega) (by omega))
   ·omega
   ·unfold A8 at hg h1⊢;omega
  ·exact h1
 ·rintro h1 b Aj AX ⟨x,hx,h3,h4⟩
  obtain⟨j,hj,rfl⟩:=List.getElem_of_mem hx
  have hg:Ad l j=l[j]:=DE hj
  rcases Nat.lt_trichotomy j (A8 l f)with h5|h5|h5
  ·have h6:=EE (p:=fun x:Ex=>decide (f<x.1+x.2)) h5
   rw[hg]at h6;simp at h6;omega
  ·subst h5
   have:=h1 hj;rw[hg]at this;omega
  ·have h6:=h.ends h5 hj
   have h7:=h1 (by omega)
   rw[hg]at h6;omega
theorem Xa{hi lo:Nat}{l:List Ex}{n:Nat}(h:Canon hi lo l)(hn:1≤n)(hl:EY l n<l.length):
  n≤(Ad l (EY l n)).2∧∀k,(∀b,k≤b→b<k+n→hasB l b)→(Ad l (EY l n)).1≤k:=by
 have h1:=Ji (p:=fun x:Ex=>decide (n≤x.2)) hl
 refine⟨by unfold EY;simpa using h1,fun k hk=>?_⟩
 obtain⟨x,hx,h2,h3⟩:=h.one hn hk
 obtain⟨j,hj,rfl⟩:=List.getElem_of_mem hx
 have hg:Ad l j=l[j]:=DE hj
 rcases Nat.lt_trichotomy j (EY l n)with h5|h5|h5
 ·have h6:=EE (p:=fun x:Ex=>decide (n≤x.2)) h5
  rw[hg]at h6;simp at h6;omega
 ·subst h5;rw[hg];exact h2
 ·have h6:=h.ends h5 hj
  rw[hg]at h6;unfold EY at h6⊢;omega
theorem aj{hi lo:Nat}{l:List Ex}{n:Nat}(h:Canon hi lo l)(hn:1≤n)(hl:l.length≤EY l n)(k:Nat):¬∀b,k≤b→b<k+n→hasB l b:=by
 intro hk
 obtain⟨x,hx,h2,h3⟩:=h.one hn hk
 obtain⟨j,hj,rfl⟩:=List.getElem_of_mem hx
 have hg:Ad l j=l[j]:=DE hj
 have h6:=EE (p:=fun x:Ex=>decide (n≤x.2)) (show j<EY l n by omega)
 rw[hg]at h6;simp at h6;omega
def GC(l:List Ex)(i f:Nat):Bool:=decide (0<i)&&decide ((Ad l (i-1)).1+(Ad l (i-1)).2=f)
def CJ(l:List Ex)(i e:Nat):Bool:=decide (i<l.length)&&decide ((Ad l i).1=e)
def CZ(l:List Ex)(i f n:Nat):List Ex:=
 match GC l i f,CJ l i (f+n)with
 |false,false=>l.take i++[(f,n)]++l.drop i
 |true,false=>l.take (i-1)++[((Ad l (i-1)).1,(Ad l (i-1)).2+n)]++l.drop i
 |false,true=>l.take i++[(f,n+(Ad l i).2)]++l.drop (i+1)
 |true,true=>l.take (i-1)++[((Ad l (i-1)).1,(Ad l (i-1)).2+n+(Ad l i).2)]++l.drop (i+1)
theorem I0{hi lo:Nat}{A B:List Ex}{f n:Nat}(hA:Canon hi lo A)(hB:Canon hi lo B)(h1:∀y∈A,y.1+y.2+1≤f)(h2:B≠[]→f+n+1≤(B.headD (0,0)).1)(h3:lo≤f)(h4:f+n≤hi)(hn:1≤n):Canon hi lo (A++[(f,n)]++B):=by
 rw[List.append_assoc]
 refine CV.2 ⟨hA,h1,h3,hn,h4,?_⟩
 cases B with
 |nil=>trivial
 |cons z B=>exact⟨h2 (by simp),hB.2⟩
theorem Canon.tail{hi lo:Nat}{A B:List Ex}(h:Canon hi lo (A++B)):Canon hi lo B:=by
 cases B with
 |nil=>trivial
 |cons z B=>obtain⟨_,_,c3,c4,c5,c6⟩:=CV.1 h;exact⟨c3,c4,c5,c6⟩
theorem PT{l:List Ex}{i:Nat}(h:l.drop i≠[]):i<l.length∧(l.drop i).headD (0,0)=Ad l i:=by
 have hi:i<l.length:=by
  rcases Nat.lt_or_ge i l.length with h1|h1
  ·exact h1
  ·exact absurd (List.drop_eq_nil_of_le h1) h
 refine⟨hi,?_⟩
 rw[List.drop_eq_getElem_cons hi,DE hi];rfl
theorem Rw{l:List Ex}{i:Nat}{y:Ex}(h:y∈l.take i):∃k,k<i∧k<l.length∧y=Ad l k:=by
 obtain⟨k,hk,rfl⟩:=List.getElem_of_mem h
 have Ep:k<i∧k<l.length:=by rw[List.length_take]at hk;omega
 refine⟨k,Ep.1,Ep.2,?_⟩
 rw[DE Ep.2];simp
theorem Iy{hi lo:Nat}{l:List Ex}{f n:Nat}(h:Canon hi lo l)(hn:1≤n)(hlo:lo≤f)(Lx:f+n≤hi)(hb:∀b,f≤b→b<f+n→¬hasB l b):
  Canon hi lo (CZ l (A8 l f) f n)∧(∀b,hasB (CZ l (A8 l f) f n) b↔hasB l b∨(f≤b∧b<f+n))∧Ax (CZ l (A8 l f) f n)=Ax l+n:=by
 have K0:=(Iw h hn).1 hb
 have OB:∀k,k<A8 l f→(Ad l k).1+(Ad l k).2≤f:=fun k hk=>by
  have:=EE (p:=fun x:Ex=>decide (f<x.1+x.2)) hk
  simpa using this
 have hle:A8 l f≤l.length:=List.findIdx_le_length
 generalize A8 l f=i at*
 have Vc:∀k,Canon hi lo (l.take k):=fun k=>Canon.left (B:=l.drop k) (by rw[List.take_append_drop];exact h)
 have Vd:∀k,Canon hi lo (l.drop k):=fun k=>Canon.tail (A:=l.take k) (by rw[List.take_append_drop];exact h)
 have eT:∀k,l.take k++l.drop k=l:=fun k=>List.take_append_drop k l
 have fL:∀b,hasB l b↔hasB (l.take i) b∨hasB (l.drop i) b:=fun b=>by rw[←Av,eT]
 have dW:Ax l=Ax (l.take i)+Ax (l.drop i):=by rw[←Al,eT]
 have Lc:∀(hL:GC l i f=true),0<i∧(Ad l (i-1)).1+(Ad l (i-1)).2=f∧l.take i=l.take (i-1)++[Ad l (i-1)]:=fun hL=>by
  simp[GC]at hL
  refine⟨hL.1,hL.2,?_⟩
  obtain⟨j,rfl⟩:∃j,i=j+1:=⟨i-1,by omega⟩
  rw[Nat.add_sub_cancel,List.take_add_one,List.getElem?_eq_getElem (by omega),DE (by omega)];rfl
 have Ln:∀(hL:GC l i f=false),∀y∈l.take i,y.1+y.2+1≤f:=fun hL y hy=>by
  obtain⟨k,hk,cQ,rfl⟩:=Rw hy
  have h1:=OB k hk
  rcases Nat.lt_or_ge k (i-1)with h2|h2
  ·have:=h.ends h2 (by omega);have:=OB (i-1) (by omega);have:=(h.getD (show i-1<l.length by omega)).2.1;omega
  ·obtain rfl:k=i-1:=by omega
   simp[GC]at hL
   have:=hL (by omega);omega
 have Rc:∀(hR:CJ l i (f+n)=true),i<l.length∧(Ad l i).1=f+n∧l.drop i=Ad l i::l.drop (i+1):=fun hR=>by
  simp[CJ]at hR
  refine⟨hR.1,hR.2,?_⟩
  rw[List.drop_eq_getElem_cons hR.1,←DE hR.1]
 have Rn:∀(hR:CJ l i (f+n)=false),l.drop i≠[]→f+n+1≤((l.drop i).headD (0,0)).1:=fun hR hd=>by
  obtain⟨h1,h2⟩:=PT hd
  rw[h2]
  have h3:=K0 h1
  simp[CJ,h1]at hR
  omega
 have hd:∀(iT:i<l.length),l.drop (i+1)≠[]→(Ad l i).1+(Ad l i).2+1≤((l.drop (i+1)).headD (0,0)).1:=fun iT hne=>by
  obtain⟨h1,h2⟩:=PT hne
  rw[h2];exact h.ends (Nat.lt_succ_self i) h1
 have aA:∀(h0:0<i),∀y∈l.take (i-1),y.1+y.2+1≤(Ad l (i-1)).1:=fun h0 y hy=>by
  obtain⟨k,hk,cQ,rfl⟩:=Rw hy
  exact h.ends hk (by omega)
 unfold CZ
 cases hL:GC l i f<;>cases hR:CJ l i (f+n)<;>dsimp only
 ·refine⟨I0 (Vc i) (Vd i) (Ln hL) (Rn hR) hlo Lx hn,fun b=>?_,?_⟩
  ·rw[Av,Av,BV,fL b];have:=Gi b;grind
  ·rw[Al,Al,CS,GW,dW];simp only;omega
 ·obtain⟨r1,r2,r3⟩:=Rc hR
  have g:=h.getD r1
  have hx:(Ad l i).1+(Ad l i).2=f+(n+(Ad l i).2):=by omega
  refine⟨I0 (Vc i) (Vd (i+1)) (Ln hL) (fun hne=>by have:=hd r1 hne;omega) hlo (by omega) (by omega),fun b=>?_,?_⟩
  ·rw[Av,Av,BV,fL b,r3,BV]
   have:=Gi b
   have:(f≤b∧b<f+(n+(Ad l i).2))↔((Ad l i).1≤b∧b<(Ad l i).1+(Ad l i).2)∨(f≤b∧b<f+n):=by omega
   grind
  ·rw[Al,Al,CS,GW,dW,r3,CS];simp only;omega
 ·obtain⟨l1,l2,l3⟩:=Lc hL
  have g:=h.getD (show i-1<l.length by omega)
  refine⟨I0 (Vc (i-1)) (Vd i) (aA l1) (fun hne=>by have:=Rn hR hne;omega) g.1 (by omega) (by omega),fun b=>?_,?_⟩
  ·rw[Av,Av,BV,fL b,l3,Av,BV]
   have:=Gi b
   have:((Ad l (i-1)).1≤b∧b<(Ad l (i-1)).1+((Ad l (i-1)).2+n))↔((Ad l (i-1)).1≤b∧b<(Ad l (i-1)).1+(Ad l (i-1)).2)∨(f≤b∧b<f+n):=by omega
   grind
  ·rw[Al,Al,CS,GW,dW,l3,Al,CS,GW];simp only;omega
 ·obtain⟨l1,l2,l3⟩:=Lc hL
  obtain⟨r1,r2,r3⟩:=Rc hR
  have g:=h.getD (show i-1<l.length by omega)
  have g2:=h.getD r1
  refine⟨I0 (Vc (i-1)) (Vd (i+1)) (aA l1) (fun hne=>by have:=hd r1 hne;omega) g.1 (by omega) (by omega),fun b=>?_,?_⟩
  ·rw[Av,Av,BV,fL b,l3,r3,Av,BV,BV]
   have:=Gi b
   have:((Ad l (i-1)).1≤b∧b<(Ad l (i-1)).1+((Ad l (i-1)).2+n+(Ad l i).2))↔(((Ad l (i-1)).1≤b∧b<(Ad l (i-1)).1+(Ad l (i-1)).2)∨((Ad l i).1≤b∧b<(Ad l i).1+(Ad l i).2))∨(f≤b∧b<f+n):=by omega
   grind
  ·rw[Al,Al,CS,GW,dW,l3,r3,Al,CS,CS,GW];simp only;omega
structure Sp where
 first:Nat
 blocks:Nat
 fr:List Ex
def Sp.ok(s:Sp):Prop:=s.first≤1000000∧s.blocks≤1000000∧Canon (s.first+s.blocks) s.first s.fr
theorem Sp.ok.len{s:Sp}(h:s.ok):s.fr.length≤1000000:=by have:=h.2.2.length;have:=h.2.1;omega
def Xd(x:Ex):List Value:=[.int .i64 x.1,.int .i64 x.2]
def AF(l:List Ex):List Value:=l.flatMap Xd
theorem Ai(A B:List Ex):AF (A++B)=AF A++AF B:=by simp[AF]
theorem AW(l:List Ex):(AF l).length=l.length*2:=by
 induction l with
 |nil=>rfl
 |cons x l ih=>simp only[AF,List.flatMap_cons,List.length_append]at*;rw[ih];simp[Xd];omega
theorem BF{l:List Ex}:∀u∈AF l,u.oneCell'=true:=by
 intro u hu
 obtain⟨e,_,he⟩:=List.mem_flatMap.1 hu
 simp[Xd]at he
 rcases he with rfl|rfl<;>rfl
theorem XY(l:List Ex):∀(i:Nat),i<l.length→(AF l)[i*2]?=some (.int .i64 (Ad l i).1)∧(AF l)[i*2+1]?=some (.int .i64 (Ad l i).2):=by
 induction l with
 |nil=>intro i hi;simp at hi
 |cons x l ih=>
  intro i hi
  cases i with
  |zero=>exact⟨rfl,rfl⟩
  |succ i=>
   have h:=ih i (by simpa using hi)
   have e1:(i+1)*2=i*2+2:=by omega
   rw[e1]
   exact⟨h.1,h.2⟩
theorem DT(l:List Ex):∀i:Nat,AF (l.take i)=(AF l).take (i*2):=by
 induction l with
 |nil=>intro i;simp[AF]
 |cons x l ih=>
  intro i
  cases i with
  |zero=>rfl
  |succ i=>
   have e1:(i+1)*2=i*2+2:=by omega
   rw[e1]
   show Xd x++AF (l.take i)=(Xd x++AF l).take (i*2+2)
   rw[ih i];rfl
theorem UQ(l:List Ex):∀i:Nat,AF (l.drop i)=(AF l).drop (i*2):=by
 induction l with
 |nil=>intro i;simp[AF]
 |cons x l ih=>
  intro i
  cases i with
  |zero=>rfl
  |succ i=>
   have e1:(i+1)*2=i*2+2:=by omega
   rw[e1]
   show AF (l.drop i)=(Xd x++AF l).drop (i*2+2)
   rw[ih i];rfl
theorem CP:∃i,Tryz.prog.info? 80=some i∧i.zero=some (.agg #[.int .i64 0,.int .i64 0])∧i.size=2∧i.bytes=16:=info_parts (by kernel_rfl)
theorem DJ:(Tryz.prog.info? 80).map (·.size)=some 2:=by kernel_rfl
theorem UT(w:World):(Go.sizeOf 80).run Tryz.prog w=.ok 2 w:=by
 obtain⟨i,hi,_,hs,_⟩:=CP
 simp[Go.sizeOf,typeInfo,hi,hs]
theorem Sa(w:World):(zeroValue 80).run Tryz.prog w=.ok (.agg #[.int .i64 0,.int .i64 0]) w:=by
 obtain⟨i,hi,hz,_⟩:=CP
 simp[zeroValue,typeInfo,hi,hz]
structure CB (w:World) (g cap n:Nat) (l:List Ex) (cur:List Value):Prop where
 row:Row w g 80 cur
 size:cur.length=cap*2
 le:n≤cap
 max:cap≤9223372036854775807
 cells:cur.take (n*2)=AF l
 len:l.length=n
theorem Fu{w:World}{v:Value}{n:Nat}{l:List Ex}(h:w.ownsRow 0 80 2 v n (AF l)):(v=.slice none 0 0∧n=0∧l=[])∨∃g cap cur,v=.slice (some ⟨g,0,none⟩) n cap∧CB w g cap n l cur:=by
 obtain⟨h1,h2⟩:=h
 rw[AW]at h1
 rcases h2 with⟨rfl,rfl⟩|⟨g,cap,cur,rfl,_,hh,hcap,hm,hs,ht⟩
 ·exact .inl ⟨rfl,rfl,List.eq_nil_of_length_eq_zero (by omega)⟩
 ·exact .inr ⟨g,cap,cur.toList,rfl,hh,by simpa using hs,hcap,hm,ht,by omega⟩
section
variable {w : World} {g cap n : Nat} {l : List Ex} {cur : List Value}
theorem CB.own(h:CB w g cap n l cur):w.ownsRow 0 80 2 (.slice (some ⟨g,0,none⟩) n cap) n (AF l):=
 ⟨by rw[AW,h.len],.inr ⟨g,cap,cur.toArray,rfl,Nat.zero_le _,h.row,h.le,h.max,by simpa using h.size,by simpa using h.cells⟩⟩
theorem CB.get(h:CB w g cap n l cur){k:Nat}(hk:k<n*2):cur[k]?=(AF l)[k]?:=by
 rw[←h.cells,List.getElem?_take,if_pos hk]
theorem CB.at_(h:CB w g cap n l cur){i:Nat}(hi:i<n):w.cell? ⟨g,i*2,none⟩=some (.int .i64 (Ad l i).1)∧w.cell? ⟨g,i*2+1,none⟩=some (.int .i64 (Ad l i).2):=by
 have h1:=XY l i (by rw[h.len];exact hi)
 rw[h.row.cell,h.row.cell,h.get (by omega),h.get (by omega)]
 exact h1
theorem CB.shape(h:CB w g cap n l cur):w.shape? g=some (80,cap*2):=by
 have:=h.row;unfold Row at this
 simp[World.shape?,this,h.size]
theorem CB.src(h:CB w g cap n l cur)(i:Nat):∀j v,(AF (l.drop i))[j]?=some v→cur[i*2+j]?=some v:=by
 intro j v hj
 rw[UQ,List.getElem?_drop]at hj
 have hlt:i*2+j<n*2:=by
  rcases Nat.lt_or_ge (i*2+j) (AF l).length with h1|h1
  ·rw[AW,h.len]at h1;exact h1
  ·rw[List.getElem?_eq_none h1]at hj;cases hj
 rw[h.get hlt];exact hj
end
def Eb(w:World)(v:Value)(l:List Ex)(e:Ending)(w':World):Prop:=
 ∃v',e=.returned v'∧w'.ownsRow 0 80 2 v' l.length (AF l)∧AK (fun k=>v.ownBlock=some k) w w'∧∀k,v'.ownBlock=some k→v.ownBlock=some k∨w.heap.size≤k
theorem CB.mQ{w w':World}{v:Value}{g cap n:Nat}{l:List Ex}{cur:List Value}(h:CB w' g cap n l cur)(hf:AK (fun k=>v.ownBlock=some k) w w')(hg:v.ownBlock=some g∨w.heap.size≤g):Eb w v l (.returned (.slice (some ⟨g,0,none⟩) n cap)) w':=by
 have e:=h.len;subst e
 exact⟨_,rfl,h.own,hf,fun k hk=>by injection hk with hk;subst hk;exact hg⟩
theorem Mw(w:World)(a b:Addr)(la ca lb cb:Nat)(hne:a.block≠b.block)(tA tB:TypeId)(kA kB:Nat)(hsa:w.shape? a.block=some (tA,kA))(Lv:w.shape? b.block=some (tB,kB))(hkB:kB≠0)
  (uK:w.frozen? a=false) (hfe:w.frozen? {block:=a.block,off:=kA}=false):(callFunc 124 #[.slice (some a) la ca,.slice (some b) lb cb]).run Tryz.prog w=.ok (.value (.bool false)) w:=by
 rw[run_callFunc_extern Tryz.func124 (by kernel_rfl) (by kernel_rfl) (by kernel_rfl) (e:=Extern.SlicesOverlaps.overlaps #[81,81] #[4]) (by kernel_rfl),
  Lib.run_overlaps_apart w 81 4 80 Tryz.underlying81 2 UT a b la ca lb cb hne tA tB kA kB hsa Lv hkB uK hfe]
 rfl
theorem QK(w:World){g cap n gv cv m i:Nat}{l M:List Ex}{cur UW:List Value}(h:CB w g cap n l cur)(hv:CB w gv cv m M UW)(hne:gv≠g)(hi:i<n)(hm:0<m)(hroom:n+m≤cap)(IC:n+m≤4000000):
  Calls Tryz.prog 123 #[.slice (some ⟨g,0,none⟩) n cap,.int .i64 i,.slice (some ⟨gv,0,none⟩) m cv] w (Eb w (.slice (some ⟨g,0,none⟩) n cap) (l.take i++M++l.drop i)):=by
 obtain⟨i0,CA,_,hz,_⟩:=CP
 obtain⟨R,hR⟩:∃R,R=l.take i++M++l.drop i:=⟨_,rfl⟩
 rw[←hR]
 obtain⟨tot,GK⟩:∃t:Nat,t=n+m:=⟨_,rfl⟩
 obtain⟨im,UA⟩:∃t:Nat,t=i+m:=⟨_,rfl⟩
 have hcap:=h.max
 have hlen:=h.len
 have Hr:=hv.len
 have hsz:=h.size
 have PC:(n:Int)+(m:Int)=(tot:Int):=by omega
 have NR:(i:Int)+(m:Int)=(im:Int):=by omega
 have Lu:IntKind.i64.wrap (tot:Int)=(tot:Int):=IntWalk.i64_in _ (by omega)
 have EV:IntKind.i64.wrap (im:Int)=(im:Int):=IntWalk.i64_in _ (by omega)
 have EW:¬((m:Int)=0):=by omega
 have CE:¬((i:Int)=(n:Int)):=by omega
 have Ds:decide ((tot:Int)>(cap:Int))=false:=by simp;omega
 have EP:=fun w' k=>BO (P:=Tryz.prog) w' 81 80 i0 Tryz.underlying81 CA hz (some ⟨g,0,none⟩) n cap i (by omega) k (i:Int) rfl
 have EB:=fun w' k=>B7 (P:=Tryz.prog) w' 81 80 i0 Tryz.underlying81 CA (some ⟨g,0,none⟩) n cap tot (by omega) k (tot:Int) rfl
 have NF:=fun w' k=>BO (P:=Tryz.prog) w' 81 80 i0 Tryz.underlying81 CA hz (some ⟨g,0,none⟩) tot cap im (by omega) k (im:Int) rfl
 have SE:=fun w' k=>BO (P:=Tryz.prog) w' 81 80 i0 Tryz.underlying81 CA hz (some ⟨g,0,none⟩) tot cap i (by omega) k (i:Int) rfl
 have wK:=BN (g:=g) (off:=0) (i:=im) (cap:=cap) (sz:=2) (by omega)
 have T0:=BN (g:=g) (off:=0) (i:=i) (cap:=cap) (sz:=2) (by omega)
 rw[Nat.zero_add]at wK T0
 rw[wK]at NF
 rw[T0]at SE EP
 have JF:∀lb cb,(callFunc 124 #[.slice (some ⟨gv,0,none⟩) m cv,.slice (some ⟨g,im*2,none⟩) lb cb]).run Tryz.prog w=.ok (.value (.bool false)) w:=fun lb cb=>
  Mw w ⟨gv,0,none⟩ ⟨g,im*2,none⟩ m cv lb cb hne _ _ _ _ hv.shape h.shape (by omega) (hv.row.free 0) (hv.row.free _)
 have Gx:(AF (l.drop i)).length=Nat.min (tot-i) (tot-im)*2:=by rw[AW,List.length_drop,hlen,GK,UA];simp only[Nat.min_def];split<;>omega
 have N8:∀j v,(AF (l.drop i))[j]?=some v→w.drew.cell? ((⟨g,i*2,none⟩:Addr).add j)=some v:=fun j v hj=>by
  rw[Addr.add_lit];exact(h.row.cell _).trans (h.src i j v hj)
 have xY:im*2+(AF (l.drop i)).length≤cur.length:=by rw[AW,List.length_drop,hlen,hsz,UA];omega
 have C1:=Lib.hid Gx
 have C2:=Lib.hid N8
 have C3:=Lib.hid xY
 clear Gx N8 xY
 have UF:(AF M).length=Nat.min m (tot-i)*2:=by rw[AW,Hr,GK];simp only[Nat.min_def];split<;>omega
 have rK:∀j v,(AF M)[j]?=some v→w.cell? ((⟨gv,0,none⟩:Addr).add j)=some v:=fun j v hj=>by
  rw[Addr.add_lit,Nat.zero_add,hv.row.cell];have:=hv.src 0 j v (by simpa using hj);simpa using this
 have XP:i*2+(AF M).length≤(splice cur (im*2) (AF (l.drop i))).length:=by rw[AR _ _ _ C3.out,AW,Hr,hsz];omega
 have iu:((splice (splice cur (im*2) (AF (l.drop i))) (i*2) (AF M)).take (tot*2))=AF R:=by
  rw[I9 cur (AF M) (AF (l.drop i)) (i*2) (im*2) (tot*2) (by rw[AW,Hr];omega) (by rw[AW,List.length_drop,hlen];omega) (by rw[hsz];omega),hR,Ai,Ai,DT,←h.cells,List.take_take,Nat.min_eq_left (by omega)]
 have hc8:(splice (splice cur (im*2) (AF (l.drop i))) (i*2) (AF M)).length=cap*2:=by rw[AR _ _ _ XP,AR _ _ _ C3.out,hsz]
 have rJ:R.length=tot:=by rw[hR,List.length_append,List.length_append,List.length_take,List.length_drop,hlen,Hr];omega
 have C4:=Lib.hid UF
 have C5:=Lib.hid rK
 have C6:=Lib.hid XP
 have C7:=Lib.hid iu
 have C8:=Lib.hid hc8
 have C9:=Lib.hid rJ
 have HCT:Hid (tot≤cap):=by unfold Hid;omega
 clear UF rK XP iu hc8 rJ hR
 have H:=Lib.hid h
 have HV:=Lib.hid hv
 have HT:=Lib.hid GK
 have HI:=Lib.hid UA
 have HL:=Lib.hid hlen
 have HLV:=Lib.hid Hr
 have HS:=Lib.hid hsz
 clear h hv GK UA hlen Hr hsz wK T0 hz CA
 go_enter Tryz.func123,Tryz.ntmps123
 go_wp2_with (simp only[JF])
 go_region_law (refine Ci rfl _ _ 81 81 rfl 80 Tryz.underlying81 DJ (by decide) (some ⟨g,im*2,none⟩) (some ⟨g,i*2,none⟩) (tot-im) (cap-im) (tot-i) (cap-i) (by simp[Act.eval,Act.put]) (by simp[Act.eval,Act.put]) g (im*2) cur 80 H.out.row (AF (l.drop i)) C1.out (fun _=>⟨rfl,_,rfl,C2.out⟩) C3.out BF ?_;intro w2 Ap DZ)
 have Zu:=DZ.out.row (w:=w.drew) HV.out.row hne
 have HV2:=Lib.hid Zu
 clear Zu
 have c5:∀j v,(AF M)[j]?=some v→w2.cell? ((⟨gv,0,none⟩:Addr).add j)=some v:=fun j v hj=>by
  have h5:=C5.out j v hj
  rw[Addr.add_lit]at h5⊢
  rw[HV2.out.cell,←HV.out.row.cell];exact h5
 have tQ:=Lib.hid c5
 clear c5
 go_wp2_with (with_reducible refine BX 82 ?_)
 unfold Hid
 refine BU rfl _ _ 81 81 rfl 80 Tryz.underlying81 DJ (by decide) (some ⟨g,i*2,none⟩) (some ⟨gv,0,none⟩) (tot-i) (cap-i) m cv rfl rfl g (i*2) _ 80 Ap.out (AF M) C4.out (fun _=>⟨rfl,_,rfl,tQ.out⟩) C6.out BF ?_
 intro w3 Cm KL
 go_wp2
 go_ret
 have own:CB w3 g cap tot R _:=⟨Cm.out,C8.out,HCT.out,hcap,C7.out,C9.out⟩
 exact own.mQ ((AK.drew (AK.refl _ w)).trans (DZ.out.trans KL.out fun b hb=>.inl hb) fun b hb=>.inl (by rw[hb];rfl)) (.inl rfl)
theorem R9(w:World){g cap n gv cv m i:Nat}{l M:List Ex}{cur UW:List Value}(h:CB w g cap n l cur)(hv:CB w gv cv m M UW)(hi:i<n)(hm:0<m)(hroom:cap<n+m)(IC:n+m≤4000000):
  Calls Tryz.prog 123 #[.slice (some ⟨g,0,none⟩) n cap,.int .i64 i,.slice (some ⟨gv,0,none⟩) m cv] w (Eb w (.slice (some ⟨g,0,none⟩) n cap) (l.take i++M++l.drop i)):=by
 obtain⟨i0,CA,Cy,hz,Qv⟩:=CP
 obtain⟨R,hR⟩:∃R,R=l.take i++M++l.drop i:=⟨_,rfl⟩
 rw[←hR]
 obtain⟨tot,GK⟩:∃t:Nat,t=n+m:=⟨_,rfl⟩
 obtain⟨im,UA⟩:∃t:Nat,t=i+m:=⟨_,rfl⟩
 obtain⟨q,hq⟩:∃t:Nat,t=tot-i:=⟨_,rfl⟩
 have hcap:=h.max
 have hnc:=h.le
 have hlen:=h.len
 have Hr:=hv.len
 have hsz:=h.size
 have PC:(n:Int)+(m:Int)=(tot:Int):=by omega
 have NR:(i:Int)+(m:Int)=(im:Int):=by omega
 have GL:(tot:Int)-(i:Int)=(q:Int):=by omega
 have Lu:IntKind.i64.wrap (tot:Int)=(tot:Int):=IntWalk.i64_in _ (by omega)
 have EV:IntKind.i64.wrap (im:Int)=(im:Int):=IntWalk.i64_in _ (by omega)
 have cM:IntKind.i64.wrap (q:Int)=(q:Int):=IntWalk.i64_in _ (by omega)
 have EW:¬((m:Int)=0):=by omega
 have CE:¬((i:Int)=(n:Int)):=by omega
 have Ds:decide ((tot:Int)>(cap:Int))=true:=by simp;omega
 have EP:=fun w' k=>BO (P:=Tryz.prog) w' 81 80 i0 Tryz.underlying81 CA hz (some ⟨g,0,none⟩) n cap i (by omega) k (i:Int) rfl
 have EB:=fun w' k=>B7 (P:=Tryz.prog) w' 81 80 i0 Tryz.underlying81 CA (some ⟨g,0,none⟩) n cap i (by omega) k (i:Int) rfl
 have NF:=fun b C w' k=>BO (P:=Tryz.prog) w' 81 80 i0 Tryz.underlying81 CA hz (some ⟨b,0,none⟩) tot C im (by omega) k (im:Int) rfl
 have SE:=fun b C w' k=>BO (P:=Tryz.prog) w' 81 80 i0 Tryz.underlying81 CA hz (some ⟨b,0,none⟩) tot C i (by omega) k (i:Int) rfl
 have T0:=BN (g:=g) (off:=0) (i:=i) (cap:=cap) (sz:=2) (by omega)
 rw[Nat.zero_add]at T0
 rw[T0]at EP
 have Ht:∀j v,(AF (l.take i))[j]?=some v→w.cell? ((⟨g,0,none⟩:Addr).add j)=some v:=fun j v hj=>by
  rw[Addr.add_lit,Nat.zero_add,h.row.cell]
  have h1:=h.src 0 j v (by
   rw[List.drop_zero]
   rw[DT,List.getElem?_take]at hj
   split at hj
   ·exact hj
   ·cases hj)
  simpa using h1
 have Gx:(AF (l.drop i)).length=Nat.min (n-i) (tot-im)*2:=by rw[AW,List.length_drop,hlen,GK,UA];simp only[Nat.min_def];split<;>omega
 have N8:∀j v,(AF (l.drop i))[j]?=some v→w.cell? ((⟨g,i*2,none⟩:Addr).add j)=some v:=fun j v hj=>by
  rw[Addr.add_lit];exact(h.row.cell _).trans (h.src i j v hj)
 have UF:(AF M).length=Nat.min m (tot-i)*2:=by rw[AW,Hr,GK];simp only[Nat.min_def];split<;>omega
 have rK:∀j v,(AF M)[j]?=some v→w.cell? ((⟨gv,0,none⟩:Addr).add j)=some v:=fun j v hj=>by
  rw[Addr.add_lit,Nat.zero_add,hv.row.cell];have:=hv.src 0 j v (by simpa using hj);simpa using this
 have XP:∀C (c0:List Value),tot≤C→c0.length=C*2→i*2+(AF M).length≤c0.length∧im*2+(AF (l.drop i)).length≤(splice c0 (i*2) (AF M)).length:=fun C c0 h1 h2=>by
  have h3:i*2+(AF M).length≤c0.length:=by rw[AW,Hr,h2];omega
  exact⟨h3,by rw[AR _ _ _ h3,AW,List.length_drop,hlen,h2];omega⟩
 have iu:∀C (c0:List Value),tot≤C→C≤maxLen→c0.length=C*2→c0.take (i*2)=AF (l.take i)→∀b (W:World),Row W b 80 (splice (splice c0 (i*2) (AF M)) (im*2) (AF (l.drop i)))→CB W b C tot R (splice (splice c0 (i*2) (AF M)) (im*2) (AF (l.drop i))):=fun C c0 h1 hm h2 h3 b W hr=>by
  refine⟨hr,?_,h1,by unfold maxLen at hm;omega,?_,?_⟩
  ·rw[AR _ _ _ (XP C c0 h1 h2).2,AR _ _ _ (XP C c0 h1 h2).1,h2]
  ·rw[Ei c0 (AF M) (AF (l.drop i)) (i*2) (im*2) (tot*2) (by rw[AW,Hr];omega) (by rw[AW,List.length_drop,hlen];omega) (by rw[h2];omega),h3,hR,Ai,Ai]
  ·rw[hR,List.length_append,List.length_append,List.length_take,List.length_drop,hlen,Hr];omega
 have Zx:(AF (l.take i)).length=i*2:=by rw[AW,List.length_take,hlen];omega
 have C0:=Lib.hid Ht
 have C1:=Lib.hid Gx
 have C2:=Lib.hid N8
 have C4:=Lib.hid UF
 have C5:=Lib.hid rK
 have C6:=Lib.hid XP
 have C7:=Lib.hid iu
 have CT:=Lib.hid Zx
 have CI:Hid (i<im∧im<tot∧i+q=tot∧0<q):=by unfold Hid;omega
 have H:=Lib.hid h
 have HV:=Lib.hid hv
 have Vt:=Lib.hid CA
 have oQ:=h.row.lt
 have hvl:=hv.row.lt
 clear Ht Gx N8 UF rK XP iu Zx hR h hv GK UA hlen Hr hsz T0 hq
 go_enter Tryz.func123,Tryz.ntmps123
 go_wp2_with (with_reducible refine BX 40 ?_)
 unfold Hid
 refine DH rfl _ _ 81 3 rfl 80 i0 _ .i64 .i64 Tryz.underlying81 Tryz.underlying3 Vt.out Cy hz (by decide) Qv rfl (some ⟨g,0,none⟩) i cap rfl (AF (l.take i)) CT.out (fun e=>by cases e) (fun ad e=>by injection e with e;subst e;exact C0.out) q (q:Int) rfl rfl CI.out.2.2.2 (by have:=CI.out;omega) (by unfold maxLen;have:=CI.out;omega) (by have:=CI.out;omega) ?_
 rw[CI.out.2.2.1]
 intro w2 C c0 rV mK Ht hct Ap ew AX
 have LW:=BN (g:=w.heap.size) (off:=0) (i:=im) (cap:=C) (sz:=2) (by have:=CI.out;omega)
 have cN:=BN (g:=w.heap.size) (off:=0) (i:=i) (cap:=C) (sz:=2) (by have:=CI.out;omega)
 rw[Nat.zero_add]at LW cN
 have wX:=NF w.heap.size C
 have wW:=SE w.heap.size C
 rw[LW]at wX
 rw[cN]at wW
 have D0:=Lib.hid (rV)
 have D1:=Lib.hid mK
 have D2:=Lib.hid Ht
 have D3:=Lib.hid hct
 have D4:=Lib.hid Ap
 have D6:=Lib.hid AX
 have c5:∀j v,(AF M)[j]?=some v→w2.cell? ((⟨gv,0,none⟩:Addr).add j)=some v:=fun j v hj=>by
  rw[AX.cell (by rw[Addr.add_lit];exact hvl)];exact C5.out j v hj
 have tQ:=Lib.hid c5
 have c2:∀j v,(AF (l.drop i))[j]?=some v→w2.cell? ((⟨g,i*2,none⟩:Addr).add j)=some v:=fun j v hj=>by
  rw[AX.cell (by rw[Addr.add_lit];exact oQ)];exact C2.out j v hj
 have zZ:=Lib.hid c2
 clear rV mK Ht hct Ap AX c5 c2 LW cN NF SE ew
 go_wp2_with (with_reducible refine BX 45 ?_)
 unfold Hid
 refine BU rfl _ _ 81 81 rfl 80 Tryz.underlying81 DJ (by decide) (some ⟨w.heap.size,i*2,none⟩) (some ⟨gv,0,none⟩) (tot-i) (C-i) m cv rfl rfl w.heap.size (i*2) _ 80 D4.out (AF M) C4.out (fun _=>⟨rfl,_,rfl,tQ.out⟩) (C6.out C c0 D0.out D2.out).1 BF ?_
 intro w3 Cm KL
 have c2:∀j v,(AF (l.drop i))[j]?=some v→w3.drew.cell? ((⟨g,i*2,none⟩:Addr).add j)=some v:=fun j v hj=>by
  have h5:=zZ.out j v hj
  rw[Addr.add_lit]at h5⊢
  exact(World.cell?_of_block (KL.out.block g (by have:=D6.out.size;omega) (by omega))).trans h5
 have nt:=Lib.hid c2
 clear c2
 go_wp2
 go_region_law (refine Ci rfl _ _ 81 81 rfl 80 Tryz.underlying81 DJ (by decide) (some ⟨w.heap.size,im*2,none⟩) (some ⟨g,i*2,none⟩) (tot-im) (C-im) (n-i) (cap-i) (by simp[Act.eval,Act.put]) (by simp[Act.eval,Act.put]) w.heap.size (im*2) _ 80 Cm.out (AF (l.drop i)) C1.out (fun _=>⟨rfl,_,rfl,nt.out⟩) (C6.out C c0 D0.out D2.out).2 BF ?_;intro w4 FZ L0)
 go_wp2
 go_ret
 have own:=C7.out C c0 D0.out D1.out D2.out D3.out _ _ FZ.out
 exact own.mQ ((AK.AJ D6.out _).trans ((KL.out.drew).trans L0.out fun b hb=>.inl hb) fun b hb=>.inr (by omega)) (.inr (Nat.le_refl _))
theorem AS{w:World}{v:Value}{n:Nat}{l:List Ex}(h:w.ownsRow 0 80 2 v n (AF l)):∃A c,v=.slice A n c∧n≤c∧c≤9223372036854775807∧l.length=n:=by
 rcases Fu h with⟨rfl,rfl,rfl⟩|⟨g,cap,cur,rfl,h1⟩
 ·exact⟨none,0,rfl,Nat.le_refl _,by omega,rfl⟩
 ·exact⟨_,_,rfl,h1.le,h1.max,h1.len⟩
theorem Gc{w:World}{A:Option Addr}{m c:Nat}{M:List Ex}(h:w.ownsRow 0 80 2 (.slice A m c) m (AF M))(hm:0<m):∃ad,A=some ad∧∀j v,(AF M)[j]?=some v→w.cell? (ad.add j)=some v:=by
 rcases Fu h with⟨_,h0,_⟩|⟨g,cap,cur,e,h1⟩
 ·omega
 ·injection e with e1 e2 e3
  subst e1
  refine⟨_,rfl,fun j v hj=>?_⟩
  rw[Addr.add_lit,Nat.zero_add,h1.row.cell]
  have:=h1.src 0 j v (by simpa using hj);simpa using this
theorem aZ{w w':World}{v v':Value}{n:Nat}{l:List Ex}(h:w'.ownsRow 0 80 2 v' n (AF l))(hf:AK (fun k=>v.ownBlock=some k) w w')(hg:v'.ownBlock=v.ownBlock∨v'.ownBlock=some w.heap.size):Eb w v l (.returned v') w':=by
 obtain⟨A,c,rfl,_,_,hl⟩:=AS h
 subst hl
 refine⟨_,rfl,h,hf,fun k hk=>?_⟩
 rcases hg with hg|hg
 ·exact .inl (hg▸hk)
 ·rw[hg]at hk;injection hk with hk;exact .inr (by omega)
theorem Tu(w:World){v u:Value}{n m:Nat}{l M:List Ex}(h:w.ownsRow 0 80 2 v n (AF l))(hv:w.ownsRow 0 80 2 u m (AF M))(hm:0<m)(IC:n+m≤4000000):
  Calls Tryz.prog 123 #[v,.int .i64 n,u] w (Eb w v (l++M)):=by
 obtain⟨i0,CA,Cy,hz,Qv⟩:=CP
 obtain⟨R,hR⟩:∃R,R=l++M:=⟨_,rfl⟩
 rw[←hR]
 have hx:w.ownsRow 0 80 2 v n (AF l):=h
 obtain⟨A,c,rfl,hnc,DP,hl⟩:=AS h
 obtain⟨B,d,rfl,hmd,lq,Lw⟩:=AS hv
 obtain⟨ad,rfl,Bv⟩:=Gc hv hm
 have EW:¬((m:Int)=0):=by omega
 have EP:=fun w' k=>BO (P:=Tryz.prog) w' 81 80 i0 Tryz.underlying81 CA hz A n c n (Nat.le_refl _) k (n:Int) rfl
 have ED:(AF M).length=m*2:=by rw[AW,Lw]
 have HX:=Lib.hid hx
 have HS:=Lib.hid Bv
 have HF:=Lib.hid ED
 have HR:=Lib.hid hR
 have Vt:=Lib.hid CA
 clear h hv hx Bv hR ED hl Lw CA
 go_enter Tryz.func123,Tryz.ntmps123
 go_wp2_with (with_reducible refine BX 25 ?_)
 unfold Hid
 refine wpList_append_own_at w rfl _ _ 81 rfl 0 80 i0 _ 2 16 Tryz.underlying81 Vt.out Cy hz Qv rfl (by decide) _ n (AF l) rfl HX.out ad m d (AF M) rfl HF.out HS.out BF (by unfold maxLen;omega) (by omega) (Nat.zero_le _) ?_
 intro v' w' ho KI _ Bp
 have HO:=Lib.hid ho
 have HG:=Lib.hid KI
 have HA:=Lib.hid Bp
 obtain⟨A',c',rfl,_,_⟩:∃A' c',v'=.slice A' (n+m) c'∧n+m≤c'∧c'≤9223372036854775807:=by
  rw[←Ai]at ho
  obtain⟨A',c',h1,h2,h3,_⟩:=AS ho
  exact⟨A',c',h1,h2,h3⟩
 clear ho KI Bp
 go_wp2
 go_ret
 have ho:=HO.out
 rw[←Ai,←HR.out]at ho
 exact aZ ho ((AK.refl _ w).grown HG.out fun k hk=>.inl hk) HA.out
theorem Tv(w:World){v u:Value}{n m i:Nat}{l M:List Ex}(h:w.ownsRow 0 80 2 v n (AF l))(hv:w.ownsRow 0 80 2 u m (AF M))(hne:∀k,v.ownBlock=some k→u.ownBlock≠some k)(hi:i≤n)(hm:0<m)(IC:n+m≤4000000):
  Calls Tryz.prog 123 #[v,.int .i64 i,u] w (Eb w v (l.take i++M++l.drop i)):=by
 have hl:l.length=n:=by obtain⟨_,_,_,_,_,h1⟩:=AS h;exact h1
 by_cases e:i=n
 ·subst e
  have:=Tu w h hv hm IC
  rw[List.take_of_length_le (by omega),List.drop_of_length_le (by omega),List.append_nil]
  exact this
 ·rcases Fu h with⟨_,h0,_⟩|⟨g,cap,cur,rfl,h1⟩
  ·omega
  ·rcases Fu hv with⟨_,h0,_⟩|⟨gv,cv,UW,rfl,h2⟩
   ·omega
   ·have lO:gv≠g:=fun e=>hne g rfl (by rw[e];rfl)
    rcases Nat.lt_or_ge cap (n+m)with h3|h3
    ·exact R9 w h1 h2 (by omega) hm h3 IC
    ·exact QK w h1 h2 lO (by omega) hm h3 IC
theorem P5(w:World){v u:Value}{n m i:Nat}{l M:List Ex}(h:w.ownsRow 0 80 2 v n (AF l))(hv:w.ownsRow 0 80 2 u m (AF M))(hne:∀k,v.ownBlock=some k→u.ownBlock≠some k)(hi:i≤n)(hm:0<m)(IC:n+m≤4000000):
  Calls Tryz.prog 110 #[v,.int .i64 i,.int .i64 i,u] w (Eb w v (l.take i++M++l.drop i)):=by
 obtain⟨i0,CA,Cy,hz,Qv⟩:=CP
 have lY:=Tv w h hv hne hi hm IC
 obtain⟨R,hR⟩:∃R,R=l.take i++M++l.drop i:=⟨_,rfl⟩
 rw[←hR]at lY⊢
 obtain⟨A,c,rfl,hnc,DP,hl⟩:=AS h
 obtain⟨B,d,rfl,hmd,lq,Lw⟩:=AS hv
 have EP:=fun w' k k'=>Fq (P:=Tryz.prog) w' 81 80 i0 Tryz.underlying81 CA hz A n c i i (Nat.le_refl _) (by omega) k k' (i:Int) (i:Int) rfl rfl
 have zK:=Lib.hid lY
 clear h hv hR hl Lw CA lY
 go_enter Tryz.func110,Tryz.ntmps110
 go_wp2_with fail
 refine zK.out.mono ?_
 rintro e w2 ⟨v',rfl,ho,hf,hk⟩
 obtain⟨A',c',rfl,_,_,_⟩:=AS ho
 have HG:Hid (Eb w (.slice A n c) R (.returned (.slice A' R.length c')) w2):=⟨_,rfl,ho,hf,hk⟩
 clear ho hf hk
 go_wp2
 go_ret
 exact HG.out
theorem Kp(w:World){g cap n m d i:Nat}{l M:List Ex}{cur:List Value}{B:Option Addr}(h:CB w g cap n l cur)(hv:w.ownsRow 0 80 2 (.slice B m d) m (AF M))(hi:i<n)(hroom:i+m≤cap):
  Calls Tryz.prog 110 #[.slice (some ⟨g,0,none⟩) n cap,.int .i64 i,.int .i64 n,.slice B m d] w (Eb w (.slice (some ⟨g,0,none⟩) n cap) (l.take i++M)):=by
 obtain⟨i0,CA,Cy,hz,Qv⟩:=CP
 obtain⟨R,hR⟩:∃R,R=l.take i++M:=⟨_,rfl⟩
 rw[←hR]
 obtain⟨tot,GK⟩:∃t:Nat,t=i+m:=⟨_,rfl⟩
 have hcap:=h.max
 have hnc:=h.le
 have hlen:=h.len
 have hsz:=h.size
 have Lw:M.length=m:=by obtain⟨_,_,_,_,_,h1⟩:=AS hv;exact h1
 have ED:(AF M).length=m*2:=by rw[AW,Lw]
 have EW:¬((i:Int)=(n:Int)):=by omega
 have EP:=fun w' k k'=>Fq (P:=Tryz.prog) w' 81 80 i0 Tryz.underlying81 CA hz (some ⟨g,0,none⟩) n cap i n (by omega) (by omega) k k' (i:Int) (n:Int) rfl rfl
 have EB:=fun w' k=>B7 (P:=Tryz.prog) w' 81 80 i0 Tryz.underlying81 CA (some ⟨g,0,none⟩) n cap i (by omega) k (i:Int) rfl
 have hfit:i*2+(AF M).length≤cur.length:=by rw[ED,hsz];omega
 have BG:∀(W:World) (c1:List Value),Row W g 80 c1→c1.length=(splice cur (i*2) (AF M)).length→c1.take (tot*2)=(splice cur (i*2) (AF M)).take (tot*2)→CB W g cap tot R c1:=fun W c1 h1 h2 h3=>by
  refine⟨h1,by rw[h2,AR _ _ _ hfit,hsz],by omega,hcap,?_,by rw[hR,List.length_append,List.length_take,hlen,Lw];omega⟩
  rw[h3,hR,Ai,DT,←h.cells,List.take_take,Nat.min_eq_left (by omega)]
  unfold splice
  rw[←List.append_assoc,List.take_append_of_le_length (by rw[List.length_append,List.length_take,ED];omega)]
  exact List.take_of_length_le (by rw[List.length_append,List.length_take,ED];omega)
 have HO:=Lib.hid BG
 have LJ:Hid (0<m→∃ad,B=some ad∧∀j v,(AF M)[j]?=some v→w.cell? (ad.add j)=some v):=Gc hv
 have jZ:=Lib.hid ED
 have Xu:=Lib.hid hfit
 have H:=Lib.hid h
 have Vt:=Lib.hid CA
 have HT:=Lib.hid GK
 have gJ:Hid ((splice cur (i*2) (AF M)).length=cap*2):=(AR _ _ _ hfit).trans hsz
 by_cases hlt:tot<n
 ·have CE:decide ((tot:Int)<(n:Int))=true:=by simp;omega
  have Ds:decide (tot<n)=true:=by simp;omega
  have NF:=fun w' k=>BO (P:=Tryz.prog) w' 81 80 i0 Tryz.underlying81 CA hz (some ⟨g,0,none⟩) n cap tot (by omega) k (tot:Int) rfl
  have LW:=BN (g:=g) (off:=0) (i:=tot) (cap:=cap) (sz:=2) (by omega)
  rw[Nat.zero_add]at LW
  rw[LW]at NF
  clear BG hsz hlen Lw ED hR CA h hv hfit LW GK
  go_enter Tryz.func110,Tryz.ntmps110
  go_wp2_with (with_reducible refine BX 34 ?_)
  unfold Hid
  refine Dh rfl _ _ 81 rfl 80 i0 Tryz.underlying81 Vt.out hz g i cap rfl cur H.out.row B m d rfl (AF M) jZ.out LJ.out BF hroom Xu.out ?_
  rw[←HT.out]
  intro w2 Ap DZ
  go_wp2_with (with_reducible refine Oj ?_)
  unfold Hid
  refine Fk rfl _ 81 rfl 80 _ (sz:=2) Tryz.underlying81 Sa rfl (by decide) (some ⟨g,tot*2,none⟩) (n-tot) (cap-tot) rfl g (tot*2) _ 80 Ap.out (fun _=>rfl) (by have:=gJ.out;omega) ?_
  intro w3 c3 Cm hl3 LW KL
  have Uk:=Lib.hid (HO.out w3 c3 Cm hl3 LW)
  have HF:=Lib.hid (DZ.out.trans KL fun b hb=>.inl hb)
  clear Cm hl3 LW KL Ap DZ
  go_wp2
  go_ret
  exact Uk.out.mQ (HF.out.mono fun b hb=>by rw[hb];rfl) (.inl rfl)
 ·have CE:decide ((tot:Int)<(n:Int))=false:=by simp;omega
  have Ds:decide (tot<n)=false:=by simp;omega
  clear BG hsz hlen Lw ED hR CA h hv hfit GK
  go_enter Tryz.func110,Tryz.ntmps110
  go_wp2_with (with_reducible refine BX 34 ?_)
  unfold Hid
  refine Dh rfl _ _ 81 rfl 80 i0 Tryz.underlying81 Vt.out hz g i cap rfl cur H.out.row B m d rfl (AF M) jZ.out LJ.out BF hroom Xu.out ?_
  rw[←HT.out]
  intro w2 Ap DZ
  go_wp2
  go_ret
  exact(HO.out w2 _ Ap.out rfl rfl).mQ (DZ.out.mono fun b hb=>by rw[hb];rfl) (.inl rfl)
theorem Kq(w:World){g cap n m d i:Nat}{l M:List Ex}{cur:List Value}{B:Option Addr}(h:CB w g cap n l cur)(hv:w.ownsRow 0 80 2 (.slice B m d) m (AF M))(hi:i<n)(hroom:cap<i+m)(IC:n+m≤4000000):
  Calls Tryz.prog 110 #[.slice (some ⟨g,0,none⟩) n cap,.int .i64 i,.int .i64 n,.slice B m d] w (Eb w (.slice (some ⟨g,0,none⟩) n cap) (l.take i++M)):=by
 obtain⟨i0,CA,Cy,hz,Qv⟩:=CP
 obtain⟨R,hR⟩:∃R,R=l.take i++M:=⟨_,rfl⟩
 rw[←hR]
 obtain⟨tot,GK⟩:∃t:Nat,t=i+m:=⟨_,rfl⟩
 have hcap:=h.max
 have hnc:=h.le
 have Lw:M.length=m:=by obtain⟨_,_,_,_,_,h1⟩:=AS hv;exact h1
 have ED:(AF M).length=m*2:=by rw[AW,Lw]
 have EW:¬((i:Int)=(n:Int)):=by omega
 have CE:decide ((tot:Int)<(n:Int))=false:=by simp;omega
 have Ds:decide (tot<n)=false:=by simp;omega
 have EP:=fun w' k k'=>Fq (P:=Tryz.prog) w' 81 80 i0 Tryz.underlying81 CA hz (some ⟨g,0,none⟩) n cap i n (by omega) (by omega) k k' (i:Int) (n:Int) rfl rfl
 have EB:=fun w' k=>B7 (P:=Tryz.prog) w' 81 80 i0 Tryz.underlying81 CA (some ⟨g,0,none⟩) n cap i (by omega) k (i:Int) rfl
 obtain⟨ad,rfl,Bv⟩:=Gc hv (by omega)
 have aA:CB w g cap i (l.take i) cur:=⟨h.row,h.size,by omega,hcap,by rw[DT,←h.cells,List.take_take,Nat.min_eq_left (by omega)],by rw[List.length_take,h.len];omega⟩
 have HP:=Lib.hid aA.own
 have LJ:=Lib.hid Bv
 have jZ:=Lib.hid ED
 have Vt:=Lib.hid CA
 have HT:=Lib.hid GK
 have HR:=Lib.hid hR
 clear Lw ED hR CA h hv GK aA Bv
 go_enter Tryz.func110,Tryz.ntmps110
 go_wp2_with (with_reducible refine BX 34 ?_)
 unfold Hid
 refine wpList_append_own_at w rfl _ _ 81 rfl 0 80 i0 _ 2 16 Tryz.underlying81 Vt.out Cy hz Qv rfl (by decide) _ i (AF (l.take i)) rfl HP.out ad m d (AF M) rfl jZ.out LJ.out BF (by unfold maxLen;omega) (by omega) (Nat.zero_le _) ?_
 rw[←HT.out]
 intro v' w' ho KI _ Bp
 have HO:=Lib.hid ho
 have HG:=Lib.hid KI
 have HA:=Lib.hid Bp
 obtain⟨A',c',rfl,_,_⟩:∃A' c',v'=.slice A' tot c'∧tot≤c'∧c'≤9223372036854775807:=by
  rw[←Ai]at ho
  obtain⟨A',c',h1,h2,h3,_⟩:=AS ho
  exact⟨A',c',h1,h2,h3⟩
 clear ho KI Bp
 go_wp2
 go_ret
 have ho:=HO.out
 rw[←Ai,←HR.out]at ho
 exact aZ ho ((AK.refl _ w).grown HG.out fun k hk=>.inl hk) HA.out
theorem Rf(w:World){g cap n m d i j:Nat}{l M:List Ex}{cur:List Value}{B:Option Addr}(h:CB w g cap n l cur)(hv:w.ownsRow 0 80 2 (.slice B m d) m (AF M))(Fa:i<j)(hj:j<n)(hm:i+m≤j)(IC:n+m≤4000000):
  Calls Tryz.prog 110 #[.slice (some ⟨g,0,none⟩) n cap,.int .i64 i,.int .i64 j,.slice B m d] w (Eb w (.slice (some ⟨g,0,none⟩) n cap) (l.take i++M++l.drop j)):=by
 obtain⟨i0,CA,Cy,hz,Qv⟩:=CP
 obtain⟨R,hR⟩:∃R,R=l.take i++M++l.drop j:=⟨_,rfl⟩
 rw[←hR]
 obtain⟨r,hr⟩:∃t:Nat,t=n-j:=⟨_,rfl⟩
 obtain⟨im,UA⟩:∃t:Nat,t=i+m:=⟨_,rfl⟩
 obtain⟨tot,GK⟩:∃t:Nat,t=im+r:=⟨_,rfl⟩
 have hcap:=h.max
 have hnc:=h.le
 have hlen:=h.len
 have hsz:=h.size
 have Lw:M.length=m:=by obtain⟨_,_,_,_,_,h1⟩:=AS hv;exact h1
 have ED:(AF M).length=m*2:=by rw[AW,Lw]
 have VR:(AF (l.drop j)).length=r*2:=by rw[AW,List.length_drop,hlen,hr]
 have PC:(i:Int)+(m:Int)=(im:Int):=by omega
 have NR:(im:Int)+(r:Int)=(tot:Int):=by omega
 have Lu:IntKind.i64.wrap (im:Int)=(im:Int):=IntWalk.i64_in _ (by omega)
 have EV:IntKind.i64.wrap (tot:Int)=(tot:Int):=IntWalk.i64_in _ (by omega)
 have EW:¬((i:Int)=(j:Int)):=by omega
 have CE:¬((j:Int)=(n:Int)):=by omega
 have EP:=fun w' k k'=>Fq (P:=Tryz.prog) w' 81 80 i0 Tryz.underlying81 CA hz (some ⟨g,0,none⟩) n cap i j (by omega) (by omega) k k' (i:Int) (j:Int) rfl rfl
 have EB:=fun w' k=>B7 (P:=Tryz.prog) w' 81 80 i0 Tryz.underlying81 CA (some ⟨g,0,none⟩) n cap i (by omega) k (i:Int) rfl
 have NF:=fun w' k=>BO (P:=Tryz.prog) w' 81 80 i0 Tryz.underlying81 CA hz (some ⟨g,0,none⟩) n cap j (by omega) k (j:Int) rfl
 have LW:=BN (g:=g) (off:=0) (i:=j) (cap:=cap) (sz:=2) (by omega)
 rw[Nat.zero_add]at LW
 rw[LW,←hr]at NF
 have LX:∀k v,(AF (l.drop j))[k]?=some v→cur[j*2+k]?=some v:=h.src j
 have SE:=fun w' k=>B7 (P:=Tryz.prog) w' 81 80 i0 Tryz.underlying81 CA (some ⟨g,0,none⟩) n cap tot (by omega) k (tot:Int) rfl
 have Qw:=fun w' k=>BO (P:=Tryz.prog) w' 81 80 i0 Tryz.underlying81 CA hz (some ⟨g,0,none⟩) tot cap i (by omega) k (i:Int) rfl
 have lB:=BN (g:=g) (off:=0) (i:=i) (cap:=cap) (sz:=2) (by omega)
 have Sz:=fun w' k=>BO (P:=Tryz.prog) w' 81 80 i0 Tryz.underlying81 CA hz (some ⟨g,0,none⟩) tot cap im (by omega) k (im:Int) rfl
 have lA:=BN (g:=g) (off:=0) (i:=im) (cap:=cap) (sz:=2) (by omega)
 rw[Nat.zero_add]at lB lA
 rw[lB]at Qw
 rw[lA]at Sz
 have UF:(AF M).length=Nat.min m (tot-i)*2:=by rw[ED];simp only[Nat.min_def];split<;>omega
 have Gx:(AF (l.drop j)).length=Nat.min r (tot-im)*2:=by rw[VR];simp only[Nat.min_def];split<;>omega
 have Zx:cur.take (i*2)=AF (l.take i):=by rw[DT,←h.cells,List.take_take,Nat.min_eq_left (by omega)]
 have jB:R.length=tot:=by rw[hR,List.length_append,List.length_append,List.length_take,List.length_drop,hlen,Lw];omega
 have IZ:i*2+(AF M).length≤cur.length:=by rw[ED,hsz];omega
 have DZ:im*2+(AF (l.drop j)).length≤cur.length:=by rw[VR,hsz];omega
 have Ds:decide ((tot:Int)>(cap:Int))=false:=by simp;omega
 have qy:decide (cap<tot)=false:=by simp;omega
 have oR:decide ((cap:Int)<(tot:Int))=false:=by simp;omega
 have oS:decide ((im:Int)≤(j:Int))=true:=by simp;omega
 have UC:decide (im≤j)=true:=by simp;omega
 have SD:=fun w' k=>BO (P:=Tryz.prog) w' 81 80 i0 Tryz.underlying81 CA hz (some ⟨g,0,none⟩) n cap tot (by omega) k (tot:Int) rfl
 have BG:∀(W:World) (c1:List Value),Row W g 80 c1→c1.length=(splice (splice cur (i*2) (AF M)) (im*2) (AF (l.drop j))).length→c1.take (tot*2)=(splice (splice cur (i*2) (AF M)) (im*2) (AF (l.drop j))).take (tot*2)→CB W g cap tot R c1:=fun W c1 h1 h2 h3=>by
  refine⟨h1,by rw[h2,AR _ _ _ (by rw[AR _ _ _ IZ];exact DZ),AR _ _ _ IZ,hsz],by omega,hcap,?_,jB⟩
  rw[h3,Ei cur (AF M) (AF (l.drop j)) (i*2) (im*2) (tot*2) (by rw[ED];omega) (by rw[VR];omega) (by rw[hsz];omega),Zx,hR,Ai,Ai]
 have iH:∀k v,(AF (l.drop j))[k]?=some v→(splice cur (i*2) (AF M))[j*2+k]?=some v:=fun k v hk=>by
  rw[BL _ _ _ IZ (by rw[ED];omega)];exact LX k v hk
 have HO:=Lib.hid BG
 have LJ:Hid (0<m→∃ad,B=some ad∧∀j v,(AF M)[j]?=some v→w.cell? (ad.add j)=some v):=Gc hv
 have sM:=Lib.hid iH
 have C1:=Lib.hid Gx
 have C4:=Lib.hid UF
 have F1:=Lib.hid IZ
 have F2:Hid (im*2+(AF (l.drop j)).length≤(splice cur (i*2) (AF M)).length):=by unfold Hid;rw[AR _ _ _ IZ];exact DZ
 have FS1:Hid ((splice (splice cur (i*2) (AF M)) (im*2) (AF (l.drop j))).length=cap*2):=by unfold Hid;rw[AR _ _ _ F2.out,AR _ _ _ IZ,hsz]
 have FL:=Lib.hid ED
 have H:=Lib.hid h
 have HT:Hid (tot≤n∧n≤cap):=by unfold Hid;omega
 clear BG iH Gx UF IZ DZ ED VR hR Lw hlen hsz Zx jB CA h hv hr UA GK LW lB lA LX
 go_enter Tryz.func110,Tryz.ntmps110
 go_wp2
 go_region
 go_wp2_with (with_reducible refine BX 97 ?_)
 unfold Hid
 refine BU rfl _ _ 81 81 rfl 80 Tryz.underlying81 DJ (by decide) (some ⟨g,i*2,none⟩) B (tot-i) (cap-i) m d rfl rfl g (i*2) _ 80 H.out.row (AF M) C4.out (fun h0=>⟨rfl,LJ.out (by have:=FL.out;omega)⟩) F1.out BF ?_
 intro w2 Ap DZ
 have c2:∀k v,(AF (l.drop j))[k]?=some v→w2.drew.cell? ((⟨g,j*2,none⟩:Addr).add k)=some v:=fun k v hk=>by
  rw[Addr.add_lit];exact(Ap.out.cell _).trans (sM.out k v hk)
 have C2:=Lib.hid c2
 clear c2
 go_wp2
 go_region_law (refine Ci rfl _ _ 81 81 rfl 80 Tryz.underlying81 DJ (by decide) (some ⟨g,im*2,none⟩) (some ⟨g,j*2,none⟩) (tot-im) (cap-im) r (cap-j) (by simp[Act.eval,Act.put]) (by simp[Act.eval,Act.put]) g (im*2) _ 80 Ap.out (AF (l.drop j)) C1.out (fun _=>⟨rfl,_,rfl,C2.out⟩) F2.out BF ?_;intro w3 Cm KL)
 go_wp2_with (with_reducible refine Oj ?_)
 unfold Hid
 refine Fk rfl _ 81 rfl 80 _ (sz:=2) Tryz.underlying81 Sa rfl (by decide) (Mi (some ⟨g,0,none⟩) tot cap 2) (n-tot) (cap-tot) rfl g (tot*2) _ 80 Cm.out (fun h0=>by rw[BN (by have:=HT.out;omega),Nat.zero_add]) (by have:=FS1.out;have:=HT.out;omega) ?_
 intro w4 c4 FZ hl4 cN L0
 have Uk:=Lib.hid (HO.out w4 c4 FZ hl4 cN)
 have HF:=Lib.hid (((AK.drew (AK.refl (fun b=>b=g) w)).trans (DZ.out.drew) fun b hb=>.inl hb).trans (KL.out.trans L0 fun b hb=>.inl hb) fun b hb=>.inl hb)
 clear FZ hl4 cN L0 Cm KL Ap DZ
 go_wp2
 go_ret
 exact Uk.out.mQ (HF.out.mono fun b hb=>by rw[hb];rfl) (.inl rfl)
theorem P4(w:World){g cap n m d i j gv:Nat}{l M:List Ex}{cur UW:List Value}(h:CB w g cap n l cur)(Zu:CB w gv d m M UW)(hne:g≠gv)(Fa:i<j)(hj:j<n)(hm:j<i+m)(hroom:i+m+(n-j)≤cap)(IC:n+m≤4000000):
  Calls Tryz.prog 110 #[.slice (some ⟨g,0,none⟩) n cap,.int .i64 i,.int .i64 j,.slice (some ⟨gv,0,none⟩) m d] w (Eb w (.slice (some ⟨g,0,none⟩) n cap) (l.take i++M++l.drop j)):=by
 have hv:=Zu.own
 obtain⟨i0,CA,Cy,hz,Qv⟩:=CP
 obtain⟨R,hR⟩:∃R,R=l.take i++M++l.drop j:=⟨_,rfl⟩
 rw[←hR]
 obtain⟨r,hr⟩:∃t:Nat,t=n-j:=⟨_,rfl⟩
 obtain⟨im,UA⟩:∃t:Nat,t=i+m:=⟨_,rfl⟩
 obtain⟨tot,GK⟩:∃t:Nat,t=im+r:=⟨_,rfl⟩
 have hcap:=h.max
 have hnc:=h.le
 have hlen:=h.len
 have hsz:=h.size
 have Lw:M.length=m:=by obtain⟨_,_,_,_,_,h1⟩:=AS hv;exact h1
 have ED:(AF M).length=m*2:=by rw[AW,Lw]
 have VR:(AF (l.drop j)).length=r*2:=by rw[AW,List.length_drop,hlen,hr]
 have PC:(i:Int)+(m:Int)=(im:Int):=by omega
 have NR:(im:Int)+(r:Int)=(tot:Int):=by omega
 have Lu:IntKind.i64.wrap (im:Int)=(im:Int):=IntWalk.i64_in _ (by omega)
 have EV:IntKind.i64.wrap (tot:Int)=(tot:Int):=IntWalk.i64_in _ (by omega)
 have EW:¬((i:Int)=(j:Int)):=by omega
 have CE:¬((j:Int)=(n:Int)):=by omega
 have EP:=fun w' k k'=>Fq (P:=Tryz.prog) w' 81 80 i0 Tryz.underlying81 CA hz (some ⟨g,0,none⟩) n cap i j (by omega) (by omega) k k' (i:Int) (j:Int) rfl rfl
 have EB:=fun w' k=>B7 (P:=Tryz.prog) w' 81 80 i0 Tryz.underlying81 CA (some ⟨g,0,none⟩) n cap i (by omega) k (i:Int) rfl
 have NF:=fun w' k=>BO (P:=Tryz.prog) w' 81 80 i0 Tryz.underlying81 CA hz (some ⟨g,0,none⟩) n cap j (by omega) k (j:Int) rfl
 have LW:=BN (g:=g) (off:=0) (i:=j) (cap:=cap) (sz:=2) (by omega)
 rw[Nat.zero_add]at LW
 rw[LW,←hr]at NF
 have LX:∀k v,(AF (l.drop j))[k]?=some v→cur[j*2+k]?=some v:=h.src j
 have SE:=fun w' k=>B7 (P:=Tryz.prog) w' 81 80 i0 Tryz.underlying81 CA (some ⟨g,0,none⟩) n cap tot (by omega) k (tot:Int) rfl
 have Qw:=fun w' k=>BO (P:=Tryz.prog) w' 81 80 i0 Tryz.underlying81 CA hz (some ⟨g,0,none⟩) tot cap i (by omega) k (i:Int) rfl
 have lB:=BN (g:=g) (off:=0) (i:=i) (cap:=cap) (sz:=2) (by omega)
 have Sz:=fun w' k=>BO (P:=Tryz.prog) w' 81 80 i0 Tryz.underlying81 CA hz (some ⟨g,0,none⟩) tot cap im (by omega) k (im:Int) rfl
 have lA:=BN (g:=g) (off:=0) (i:=im) (cap:=cap) (sz:=2) (by omega)
 rw[Nat.zero_add]at lB lA
 rw[lB]at Qw
 rw[lA]at Sz
 have UF:(AF M).length=Nat.min m (tot-i)*2:=by rw[ED];simp only[Nat.min_def];split<;>omega
 have Gx:(AF (l.drop j)).length=Nat.min r (tot-im)*2:=by rw[VR];simp only[Nat.min_def];split<;>omega
 have Zx:cur.take (i*2)=AF (l.take i):=by rw[DT,←h.cells,List.take_take,Nat.min_eq_left (by omega)]
 have jB:R.length=tot:=by rw[hR,List.length_append,List.length_append,List.length_take,List.length_drop,hlen,Lw];omega
 have IZ:i*2+(AF M).length≤cur.length:=by rw[ED,hsz];omega
 have DZ:im*2+(AF (l.drop j)).length≤cur.length:=by rw[VR,hsz];omega
 have Ds:decide ((tot:Int)>(cap:Int))=false:=by simp;omega
 have qy:decide (cap<tot)=false:=by simp;omega
 have oR:decide ((cap:Int)<(tot:Int))=false:=by simp;omega
 have oS:decide ((im:Int)≤(j:Int))=false:=by simp;omega
 have UC:decide (im≤j)=false:=by simp;omega
 have JF:∀(W:World),W=w.drew→∀lb cb,(callFunc 124 #[.slice (some ⟨g,im*2,none⟩) lb cb,.slice (some ⟨gv,0,none⟩) m d]).run Tryz.prog W=.ok (.value (.bool false)) W:=fun W e lb cb=>by
  subst e
  exact Mw w.drew ⟨g,im*2,none⟩ ⟨gv,0,none⟩ lb cb m d hne _ _ _ _ (show w.shape? g= _ from h.shape) (show w.shape? gv= _ from Zu.shape) (by have:=Zu.le;omega) (h.row.free _) (h.row.free _)
 have JF:=JF _ rfl
 have KL:i*2+(AF M).length≤(splice cur (im*2) (AF (l.drop j))).length:=by rw[AR _ _ _ DZ];exact IZ
 have BG:∀(W:World),Row W g 80 (splice (splice cur (im*2) (AF (l.drop j))) (i*2) (AF M))→CB W g cap tot R (splice (splice cur (im*2) (AF (l.drop j))) (i*2) (AF M)):=fun W h1=>by
  refine⟨h1,by rw[AR _ _ _ KL,AR _ _ _ DZ,hsz],by omega,hcap,?_,jB⟩
  rw[I9 cur (AF M) (AF (l.drop j)) (i*2) (im*2) (tot*2) (by rw[ED];omega) (by rw[VR];omega) (by rw[hsz];omega),Zx,hR,Ai,Ai]
 obtain⟨ad,had,Bv⟩:=Gc hv (by omega)
 injection had with had;subst had
 have HO:=Lib.hid BG
 have LJ:=Lib.hid Bv
 have sN:=Lib.hid LX
 have C1:=Lib.hid Gx
 have C4:=Lib.hid UF
 have F2:=Lib.hid DZ
 have F3:=Lib.hid KL
 have H:=Lib.hid h
 have hvl:=Zu.row.lt
 have cn:=Lib.hid hne
 clear BG Bv Gx UF IZ DZ KL ED VR hR Lw hlen hsz Zx jB CA h hv Zu hr UA GK LW lB lA hne
 have c2:∀k v,(AF (l.drop j))[k]?=some v→w.drew.drew.cell? ((⟨g,j*2,none⟩:Addr).add k)=some v:=fun k v hk=>by
  rw[Addr.add_lit];exact(H.out.row.cell _).trans (sN.out k v hk)
 have C2:=Lib.hid c2
 clear c2 LX
 go_enter Tryz.func110,Tryz.ntmps110
 go_wp2
 go_region
 go_wp2_with (simp only[JF])
 go_region_law (refine Ci rfl _ _ 81 81 rfl 80 Tryz.underlying81 DJ (by decide) (some ⟨g,im*2,none⟩) (some ⟨g,j*2,none⟩) (tot-im) (cap-im) r (cap-j) (by simp[Act.eval,Act.put]) (by simp[Act.eval,Act.put]) g (im*2) _ 80 H.out.row (AF (l.drop j)) C1.out (fun _=>⟨rfl,_,rfl,C2.out⟩) F2.out BF ?_;intro w2 Ap DZ)
 have c5:∀k v,(AF M)[k]?=some v→w2.cell? ((⟨gv,0,none⟩:Addr).add k)=some v:=fun k v hk=>by
  have h5:=LJ.out k v hk
  rw[Addr.add_lit]at h5⊢
  exact(World.cell?_of_block (w:=w.drew.drew) (DZ.out.block gv hvl (fun e=>cn.out e.symm))).trans h5
 have C5:=Lib.hid c5
 clear c5
 go_wp2_with (with_reducible refine BX 135 ?_)
 unfold Hid
 refine BU rfl _ _ 81 81 rfl 80 Tryz.underlying81 DJ (by decide) (some ⟨g,i*2,none⟩) (some ⟨gv,0,none⟩) (tot-i) (cap-i) m d rfl rfl g (i*2) _ 80 Ap.out (AF M) C4.out (fun h0=>⟨rfl,_,rfl,C5.out⟩) F3.out BF ?_
 intro w3 Cm KL
 have Uk:=Lib.hid (HO.out w3 Cm.out)
 have HF:=Lib.hid (((AK.drew (AK.drew (AK.refl (fun b=>b=g) w))).trans DZ.out fun b hb=>.inl hb).trans KL.out fun b hb=>.inl hb)
 clear Cm KL Ap DZ
 go_wp2
 go_ret
 exact Uk.out.mQ (HF.out.mono fun b hb=>by rw[hb];rfl) (.inl rfl)
theorem P8(w:World){g cap n m d i j:Nat}{l M:List Ex}{cur:List Value}{B:Option Addr}(h:CB w g cap n l cur)(hv:w.ownsRow 0 80 2 (.slice B m d) m (AF M))(Fa:i<j)(hj:j<n)(hroom:cap<i+m+(n-j))(IC:n+m≤4000000):
  Calls Tryz.prog 110 #[.slice (some ⟨g,0,none⟩) n cap,.int .i64 i,.int .i64 j,.slice B m d] w (Eb w (.slice (some ⟨g,0,none⟩) n cap) (l.take i++M++l.drop j)):=by
 obtain⟨i0,CA,Cy,hz,Qv⟩:=CP
 obtain⟨R,hR⟩:∃R,R=l.take i++M++l.drop j:=⟨_,rfl⟩
 rw[←hR]
 obtain⟨r,hr⟩:∃t:Nat,t=n-j:=⟨_,rfl⟩
 obtain⟨im,UA⟩:∃t:Nat,t=i+m:=⟨_,rfl⟩
 obtain⟨tot,GK⟩:∃t:Nat,t=im+r:=⟨_,rfl⟩
 have hcap:=h.max
 have hnc:=h.le
 have hlen:=h.len
 have hsz:=h.size
 have Lw:M.length=m:=by obtain⟨_,_,_,_,_,h1⟩:=AS hv;exact h1
 have ED:(AF M).length=m*2:=by rw[AW,Lw]
 have VR:(AF (l.drop j)).length=r*2:=by rw[AW,List.length_drop,hlen,hr]
 have PC:(i:Int)+(m:Int)=(im:Int):=by omega
 have NR:(im:Int)+(r:Int)=(tot:Int):=by omega
 have Lu:IntKind.i64.wrap (im:Int)=(im:Int):=IntWalk.i64_in _ (by omega)
 have EV:IntKind.i64.wrap (tot:Int)=(tot:Int):=IntWalk.i64_in _ (by omega)
 have EW:¬((i:Int)=(j:Int)):=by omega
 have CE:¬((j:Int)=(n:Int)):=by omega
 have EP:=fun w' k k'=>Fq (P:=Tryz.prog) w' 81 80 i0 Tryz.underlying81 CA hz (some ⟨g,0,none⟩) n cap i j (by omega) (by omega) k k' (i:Int) (j:Int) rfl rfl
 have EB:=fun w' k=>B7 (P:=Tryz.prog) w' 81 80 i0 Tryz.underlying81 CA (some ⟨g,0,none⟩) n cap i (by omega) k (i:Int) rfl
 have NF:=fun w' k=>BO (P:=Tryz.prog) w' 81 80 i0 Tryz.underlying81 CA hz (some ⟨g,0,none⟩) n cap j (by omega) k (j:Int) rfl
 have LW:=BN (g:=g) (off:=0) (i:=j) (cap:=cap) (sz:=2) (by omega)
 rw[Nat.zero_add]at LW
 rw[LW,←hr]at NF
 have LX:∀k v,(AF (l.drop j))[k]?=some v→cur[j*2+k]?=some v:=h.src j
 obtain⟨q,hq⟩:∃t:Nat,t=tot-i:=⟨_,rfl⟩
 have GL:(tot:Int)-(i:Int)=(q:Int):=by omega
 have cM:IntKind.i64.wrap (q:Int)=(q:Int):=IntWalk.i64_in _ (by omega)
 have Ds:decide ((tot:Int)>(cap:Int))=true:=by simp;omega
 have qy:decide (cap<tot)=true:=by simp;omega
 have oR:decide ((cap:Int)<(tot:Int))=true:=by simp;omega
 have Qw:=fun b C w' k=>BO (P:=Tryz.prog) w' 81 80 i0 Tryz.underlying81 CA hz (some ⟨b,0,none⟩) tot C i (by omega) k (i:Int) rfl
 have Sz:=fun b C w' k=>BO (P:=Tryz.prog) w' 81 80 i0 Tryz.underlying81 CA hz (some ⟨b,0,none⟩) tot C im (by omega) k (im:Int) rfl
 have UF:(AF M).length=Nat.min m (tot-i)*2:=by rw[ED];simp only[Nat.min_def];split<;>omega
 have Gx:(AF (l.drop j)).length=Nat.min r (tot-im)*2:=by rw[VR];simp only[Nat.min_def];split<;>omega
 have Zx:cur.take (i*2)=AF (l.take i):=by rw[DT,←h.cells,List.take_take,Nat.min_eq_left (by omega)]
 have Zw:(AF (l.take i)).length=i*2:=by rw[AW,List.length_take,hlen];omega
 have jB:R.length=tot:=by rw[hR,List.length_append,List.length_append,List.length_take,List.length_drop,hlen,Lw];omega
 have Ht:∀k v,(AF (l.take i))[k]?=some v→w.cell? ((⟨g,0,none⟩:Addr).add k)=some v:=fun k v hk=>by
  rw[Addr.add_lit,Nat.zero_add,h.row.cell]
  rw[←Zx,List.getElem?_take]at hk
  split at hk
  ·exact hk
  ·cases hk
 have N8:∀k v,(AF (l.drop j))[k]?=some v→w.cell? ((⟨g,j*2,none⟩:Addr).add k)=some v:=fun k v hk=>by
  rw[Addr.add_lit];exact(h.row.cell _).trans (LX k v hk)
 have XP:∀C (c0:List Value),tot≤C→c0.length=C*2→i*2+(AF M).length≤c0.length∧im*2+(AF (l.drop j)).length≤(splice c0 (i*2) (AF M)).length:=fun C c0 h1 h2=>by
  have h3:i*2+(AF M).length≤c0.length:=by rw[ED,h2];omega
  exact⟨h3,by rw[AR _ _ _ h3,VR,h2];omega⟩
 have iu:∀C (c0:List Value),tot≤C→C≤maxLen→c0.length=C*2→c0.take (i*2)=AF (l.take i)→∀b (W:World),Row W b 80 (splice (splice c0 (i*2) (AF M)) (im*2) (AF (l.drop j)))→CB W b C tot R (splice (splice c0 (i*2) (AF M)) (im*2) (AF (l.drop j))):=fun C c0 h1 hm h2 h3 b W hrw=>by
  refine⟨hrw,?_,h1,by unfold maxLen at hm;omega,?_,jB⟩
  ·rw[AR _ _ _ (XP C c0 h1 h2).2,AR _ _ _ (XP C c0 h1 h2).1,h2]
  ·rw[Ei c0 (AF M) (AF (l.drop j)) (i*2) (im*2) (tot*2) (by rw[ED];omega) (by rw[VR];omega) (by rw[h2];omega),h3,hR,Ai,Ai]
 obtain⟨ad,rfl,Bv⟩:=Gc hv (by omega)
 have mC:ad.block<w.heap.size:=by
  have lQ:0<(AF M).length:=by rw[ED];omega
  have h1:=Bv 0 _ (List.getElem?_eq_getElem lQ)
  have h2:=block_lt_of_cell h1
  simpa [Addr.add]using h2
 have C0:=Lib.hid Ht
 have C1:=Lib.hid Gx
 have C2:=Lib.hid N8
 have C4:=Lib.hid UF
 have C5:=Lib.hid Bv
 have C6:=Lib.hid XP
 have C7:=Lib.hid iu
 have CT:=Lib.hid Zw
 have CI:Hid (i<im∧im<tot∧i+q=tot∧0<q∧tot≤4000000∧cap<tot):=by unfold Hid;omega
 have Vt:=Lib.hid CA
 have oQ:=h.row.lt
 have had:=fun(ad:Addr) k=>show (ad.add k).block=ad.block by unfold Addr.add;split<;>rfl
 have vD:=Lib.hid had
 clear Ht Gx N8 UF XP iu Zx Zw hR jB h hv GK UA hlen hsz LW hq Bv LX ED VR Lw hr had
 go_enter Tryz.func110,Tryz.ntmps110
 go_wp2
 go_region
 go_wp2_with (with_reducible refine BX 67 ?_)
 unfold Hid
 refine DH rfl _ _ 81 3 rfl 80 i0 _ .i64 .i64 Tryz.underlying81 Tryz.underlying3 Vt.out Cy hz (by decide) Qv rfl (some ⟨g,0,none⟩) i cap rfl (AF (l.take i)) CT.out (fun e=>by cases e) (fun ad e=>by injection e with e;subst e;exact C0.out) q (q:Int) rfl rfl CI.out.2.2.2.1 (by have:=CI.out;omega) (by unfold maxLen;have:=CI.out;omega) (by have:=CI.out;omega) ?_
 rw[CI.out.2.2.1]
 intro w2 C c0 rV mK Ht hct Ap ew AX
 have LW:=BN (g:=w.heap.size) (off:=0) (i:=im) (cap:=C) (sz:=2) (by have:=CI.out;omega)
 have cN:=BN (g:=w.heap.size) (off:=0) (i:=i) (cap:=C) (sz:=2) (by have:=CI.out;omega)
 rw[Nat.zero_add]at LW cN
 have wU:=Sz w.heap.size C
 have wV:=Qw w.heap.size C
 rw[LW]at wU
 rw[cN]at wV
 have D0:=Lib.hid (rV)
 have D1:=Lib.hid mK
 have D2:=Lib.hid Ht
 have D3:=Lib.hid hct
 have D4:=Lib.hid Ap
 have D6:=Lib.hid (show Below w.heap.size w w2 from ⟨AX.os,AX.tape,AX.output,AX.size,AX.block⟩)
 have c5:∀j v,(AF M)[j]?=some v→w2.cell? (ad.add j)=some v:=fun j v hj=>by
  rw[D6.out.cell (by rw[vD.out];exact mC)];exact C5.out j v hj
 have tQ:=Lib.hid c5
 have c2:∀k v,(AF (l.drop j))[k]?=some v→w2.cell? ((⟨g,j*2,none⟩:Addr).add k)=some v:=fun j v hj=>by
  rw[D6.out.cell (by rw[Addr.add_lit];exact oQ)];exact C2.out j v hj
 have zZ:=Lib.hid c2
 clear rV mK Ht hct Ap AX c5 c2 LW cN Sz Qw ew
 go_wp2_with (with_reducible refine BX 72 ?_)
 unfold Hid
 refine BU rfl _ _ 81 81 rfl 80 Tryz.underlying81 DJ (by decide) (some ⟨w.heap.size,i*2,none⟩) (some ad) (tot-i) (C-i) m d rfl rfl w.heap.size (i*2) _ 80 D4.out (AF M) C4.out (fun _=>⟨rfl,_,rfl,tQ.out⟩) (C6.out C c0 D0.out D2.out).1 BF ?_
 intro w3 Cm KL
 have c2:∀k v,(AF (l.drop j))[k]?=some v→w3.drew.cell? ((⟨g,j*2,none⟩:Addr).add k)=some v:=fun k v hk=>by
  have h5:=zZ.out k v hk
  rw[Addr.add_lit]at h5⊢
  exact(World.cell?_of_block (KL.out.block g (by have:=D6.out.size;omega) (by omega))).trans h5
 have nt:=Lib.hid c2
 clear c2
 go_wp2
 go_region_law (refine Ci rfl _ _ 81 81 rfl 80 Tryz.underlying81 DJ (by decide) (some ⟨w.heap.size,im*2,none⟩) (some ⟨g,j*2,none⟩) (tot-im) (C-im) r (cap-j) (by simp[Act.eval,Act.put]) (by simp[Act.eval,Act.put]) w.heap.size (im*2) _ 80 Cm.out (AF (l.drop j)) C1.out (fun _=>⟨rfl,_,rfl,nt.out⟩) (C6.out C c0 D0.out D2.out).2 BF ?_;intro w4 FZ L0)
 go_wp2
 go_ret
 have own:=C7.out C c0 D0.out D1.out D2.out D3.out _ _ FZ.out
 exact own.mQ ((AK.AJ D6.out _).trans ((KL.out.drew).trans L0.out fun b hb=>.inl hb) fun b hb=>.inr (by omega)) (.inr (Nat.le_refl _))
theorem BD(w:World){v u:Value}{n m i j:Nat}{l M:List Ex}(h:w.ownsRow 0 80 2 v n (AF l))(hv:w.ownsRow 0 80 2 u m (AF M))(hne:∀k,v.ownBlock=some k→u.ownBlock≠some k)(Fa:i≤j)(hj:j≤n)(hm:i=j→0<m)(IC:n+m≤4000000):
  Calls Tryz.prog 110 #[v,.int .i64 i,.int .i64 j,u] w (Eb w v (l.take i++M++l.drop j)):=by
 by_cases e:i=j
 ·subst e
  exact P5 w h hv hne hj (hm rfl) IC
 have hl:l.length=n:=by obtain⟨_,_,_,_,_,h1⟩:=AS h;exact h1
 rcases Fu h with⟨_,h0,_⟩|⟨g,cap,cur,rfl,h1⟩
 ·omega
 obtain⟨B,d,rfl,hmd,lq,Lw⟩:=AS hv
 by_cases e2:j=n
 ·subst e2
  rw[List.drop_of_length_le (by omega),List.append_nil]
  rcases Nat.lt_or_ge cap (i+m)with h3|h3
  ·exact Kq w h1 hv (by omega) h3 IC
  ·exact Kp w h1 hv (by omega) h3
 ·rcases Nat.lt_or_ge cap (i+m+(n-j))with h3|h3
  ·exact P8 w h1 hv (by omega) (by omega) h3 IC
  ·rcases Nat.lt_or_ge j (i+m)with h4|h4
   ·rcases Fu hv with⟨_,h0,_⟩|⟨gv,cv,UW,e3,h2⟩
    ·omega
    ·injection e3 with e3 e4 e5
     subst e3 e5
     exact P4 w h1 h2 (fun e=>hne g rfl (by rw[e];rfl)) (by omega) (by omega) h4 h3 IC
   ·exact Rf w h1 hv (by omega) (by omega) h4 IC
def Fp(s:Sp)(v:Value):List Value:=[.int .i64 s.first,.int .i64 s.blocks,v]
def EZ(w:World)(G:Nat→Prop)(p:Nat)(s:Sp):Prop:=
 s.ok∧∃v,Row w p 83 (Fp s v)∧w.ownsRow 0 80 2 v s.fr.length (AF s.fr)∧∀k,G k↔k=p∨v.ownBlock=some k
theorem Mu{w:World}{v:Value}{n:Nat}{l:List Ex}(h:w.ownsRow 0 80 2 v n (AF l)){k:Nat}(hk:v.ownBlock=some k):∃cs,Row w k 80 cs:=by
 rcases Fu h with⟨rfl,_⟩|⟨g,cap,cur,rfl,h1⟩
 ·cases hk
 ·injection hk with hk;subst hk;exact⟨_,h1.row⟩
theorem Mv{w w':World}{F:Nat→Prop}{v:Value}{n:Nat}{l:List Ex}(h:w.ownsRow 0 80 2 v n (AF l))(hf:AK F w w')(hn:∀k,v.ownBlock=some k→¬F k):w'.ownsRow 0 80 2 v n (AF l):=by
 obtain⟨h1,h2⟩:=h
 refine⟨h1,?_⟩
 rcases h2 with h2|⟨g,cap,cur,rfl,hg,hh,r⟩
 ·exact .inl h2
 ·exact .inr ⟨g,cap,cur,rfl,hg,hf.row (g:=g) (cs:=cur.toList) (by unfold Row;simpa using hh) (hn g rfl),r⟩
theorem Ao{w w':World}{v:Value}{n:Nat}{l:List Ex}(h:w.ownsRow 0 80 2 v n (AF l))(hb:Below w.heap.size w w'):w'.ownsRow 0 80 2 v n (AF l):=
 Mv h (AK.AJ hb fun _=>False) fun _ _ hf=>hf
theorem EA{w:World}{A:Option Addr}{n c:Nat}{l:List Ex}(h:w.ownsRow 0 80 2 (.slice A n c) n (AF l)){i:Nat}(hi:i<n):
  ∃g,A=some ⟨g,0,none⟩∧g<w.heap.size∧w.cell? ⟨g,i*2,none⟩=some (.int .i64 (Ad l i).1)∧w.cell? ⟨g,i*2+1,none⟩=some (.int .i64 (Ad l i).2):=by
 rcases Fu h with⟨_,h0,_⟩|⟨g,cap,cur,e,h1⟩
 ·omega
 ·injection e with e1 e2 e3
  exact⟨g,e1,h1.row.lt,(h1.at_ hi).1,(h1.at_ hi).2⟩
section
variable {w w' : World} {G : Nat → Prop} {p : Nat} {s : Sp}
theorem EZ.lt(h:EZ w G p s){k:Nat}(hk:G k):k<w.heap.size:=by
 obtain⟨_,v,hr,ho,hG⟩:=h
 rcases(hG k).1 hk with rfl|hk
 ·exact hr.lt
 ·exact(ho.lt k hk).2
theorem EZ.I3(h:EZ w G p s):G p:=by obtain⟨_,v,hr,ho,hG⟩:=h;exact(hG p).2 (.inl rfl)
theorem EZ.CU{F:Nat→Prop}(h:EZ w G p s)(hf:AK F w w')(hn:∀k,G k→¬F k):EZ w' G p s:=by
 obtain⟨h0,v,hr,ho,hG⟩:=h
 exact⟨h0,v,hf.row hr (hn p ((hG p).2 (.inl rfl))),Mv ho hf fun k hk=>hn k ((hG k).2 (.inr hk)),hG⟩
theorem EZ.below(h:EZ w G p s)(hb:Below w.heap.size w w'):EZ w' G p s:=h.CU (AK.AJ hb fun _=>False) fun _ _ hf=>hf
theorem EZ.types(h:EZ w G p s){k:Nat}{t:TypeId}{cs:List Value}(hr:Row w k t cs)(h1:t≠83)(h2:t≠80):¬G k:=by
 obtain⟨_,v,hrp,ho,hG⟩:=h
 have typed:∀{g:Nat} {a b:TypeId} {xs ys:List Value},Row w g a xs→Row w g b ys→a=b:=fun {g a b xs ys} h k=>by
  unfold Row at h k;rw[h]at k;injection k with k;injection k
 intro hk
 rcases(hG k).1 hk with rfl|hk
 ·exact h1 (typed hr hrp)
 ·obtain⟨ds,hd⟩:=Mu ho hk
  exact h2 (typed hr hd)
end
theorem EF(f n:Nat)(w:World)(h:f+n≤4000000):Calls Tryz.prog 96 #[.agg #[.int .i64 f,.int .i64 n]] w fun e w'=>e=.returned (.int .i64 ((f+n:Nat):Int))∧Below w.heap.size w w':=by
 obtain⟨u,hu⟩:∃u,f+n=u:=⟨_,rfl⟩
 rw[hu]
 have K5:(f:Int)+(n:Int)=(u:Int):=by omega
 have hw:IntKind.i64.wrap (u:Int)=(u:Int):=IntWalk.i64_in _ (by omega)
 have HB:=Lib.hid ((Below.refl w.heap.size w).alloc (Nat.le_refl _) (.cells #[.int .i64 f,.int .i64 n] 80))
 go_enter Tryz.func96,Tryz.ntmps96
 go_wp2
 go_ret
 exact⟨rfl,HB.out⟩
theorem O5(a b:Nat)(f n:Int)(w:World)(h:a+b≤4000000)(hf:Ff f):Calls Tryz.prog 90 #[.agg #[.int .i64 a,.int .i64 b],.int .i64 f,.int .i64 n] w fun e w'=>e=.returned (.bool (decide ((a:Int)≤f)&&decide (n≤((a+b:Nat):Int)-f)))∧Below w.heap.size w w':=by
 have bf:=hf.bounds
 have HB:=Lib.hid ((Below.refl w.heap.size w).alloc (Nat.le_refl _) (.cells #[.int .i64 a,.int .i64 b] 80))
 by_cases h1:(a:Int)≤f
 ·have g1:decide ((a:Int)≤f)=true:=by simpa using h1
  have g2:decide (f≥(a:Int))=true:=by simpa using h1
  have he:=EF a b (w.alloc (.cells #[.int .i64 a,.int .i64 b] 80)) h
  obtain⟨u,hu⟩:∃u,a+b=u:=⟨_,rfl⟩
  rw[hu]at he⊢
  have hw:IntKind.i64.wrap ((u:Int)-f)=(u:Int)-f:=IntWalk.i64_in _ (by omega)
  have HE:=Lib.hid he
  rw[g1]
  clear he h1
  go_enter Tryz.func90,Tryz.ntmps90
  go_wp2_with fail
  refine HE.out.mono ?_
  rintro e w2 ⟨rfl,hb⟩
  have Cd:=Lib.hid (HB.out.trans (hb.mono (by simp)))
  clear hb
  go_wp2
  go_ret
  exact⟨by simp,Cd.out⟩
 ·have g1:decide ((a:Int)≤f)=false:=by simpa using h1
  have g2:decide (f≥(a:Int))=false:=by simpa using h1
  rw[g1]
  clear h1
  go_enter Tryz.func90,Tryz.ntmps90
  go_wp2
  go_ret
  exact⟨by simp,HB.out⟩
def BP(f n:Nat):Sp:=⟨f,n,if n=0 then []else [(f,n)]⟩
theorem KD{f n:Nat}(hf:f≤1000000)(hn:n≤1000000):(BP f n).ok:=by
 refine⟨hf,hn,?_⟩
 unfold BP
 by_cases h:n=0
 ·simp[h,Canon]
 ·simp[h,Canon];omega
theorem WQ(f n:Nat)(w:World)(hf:f≤1000000)(hn:n≤1000000):Calls Tryz.prog 32 #[.int .i64 f,.int .i64 n] w fun e w'=>∃p G,e=.returned (.pointer (some ⟨p,0,none⟩))∧EZ w' G p (BP f n)∧(∀k,G k→w.heap.size≤k)∧Below w.heap.size w w':=by
 have g1:decide ((f:Int)<0)=false:=by simp
 have g2:decide ((f:Int)>1000000)=false:=by simp;omega
 have g3:decide ((n:Int)<0)=false:=by simp
 have g4:decide ((n:Int)>1000000)=false:=by simp;omega
 have FY:=Lib.hid (KD hf hn)
 by_cases h:n=0
 ·subst h
  have hb:=(Below.refl w.heap.size w).alloc (Nat.le_refl _) (.cells #[.int .i64 f,.int .i64 0,.slice none 0 0] 83)
  have hr:Row (w.alloc (.cells #[.int .i64 f,.int .i64 0,.slice none 0 0] 83)) w.heap.size 83 (Fp (BP f 0) (.slice none 0 0)):=heap_alloc_new _ _
  have HX:Hid (∃p G,Ending.returned (.pointer (some ⟨w.heap.size,0,none⟩))=Ending.returned (.pointer (some ⟨p,0,none⟩))∧EZ (w.alloc (.cells #[.int .i64 f,.int .i64 0,.slice none 0 0] 83)) G p (BP f 0)∧(∀k,G k→w.heap.size≤k)∧Below w.heap.size w (w.alloc (.cells #[.int .i64 f,.int .i64 0,.slice none 0 0] 83))):=
   ⟨_,fun k=>k=w.heap.size,rfl,⟨FY.out,_,hr,World.ownsRow_nil _ _ _ _,fun k=>⟨.inl,fun h=>h.elim id fun e=>by cases e⟩⟩,fun k hk=>by omega,hb⟩
  clear hb hr
  go_enter Tryz.func32,Tryz.ntmps32
  go_wp2
  go_ret
  exact HX.out
 ·have g5:decide ((n:Int)>0)=true:=by simp;omega
  have g6:decide (0<n)=true:=by simp;omega
  have hx:∀W,W=(w.alloc (.cells #[.int .i64 f,.int .i64 n,.slice (some ⟨w.heap.size+1,0,none⟩) 1 1] 83)).alloc (.cells #[.int .i64 f,.int .i64 n] 80)→
    (∃p G,Ending.returned (.pointer (some ⟨w.heap.size,0,none⟩))=Ending.returned (.pointer (some ⟨p,0,none⟩))∧EZ W G p (BP f n)∧(∀k,G k→w.heap.size≤k)∧Below w.heap.size w W):=by
   rintro W rfl
   have hb:=((Below.refl w.heap.size w).alloc (Nat.le_refl _) (.cells #[.int .i64 f,.int .i64 n,.slice (some ⟨w.heap.size+1,0,none⟩) 1 1] 83)).alloc (by simp) (.cells #[.int .i64 f,.int .i64 n] 80)
   have Cz:Row (w.alloc (.cells #[.int .i64 f,.int .i64 n,.slice (some ⟨w.heap.size+1,0,none⟩) 1 1] 83)) w.heap.size 83 [.int .i64 f,.int .i64 n,.slice (some ⟨w.heap.size+1,0,none⟩) 1 1]:=heap_alloc_new _ _
   have hr:=Cz.alloc (.cells #[.int .i64 f,.int .i64 n] 80)
   have he:Row ((w.alloc (.cells #[.int .i64 f,.int .i64 n,.slice (some ⟨w.heap.size+1,0,none⟩) 1 1] 83)).alloc (.cells #[.int .i64 f,.int .i64 n] 80)) (w.heap.size+1) 80 [.int .i64 f,.int .i64 n]:=by
    have:=heap_alloc_new (w.alloc (.cells #[.int .i64 f,.int .i64 n,.slice (some ⟨w.heap.size+1,0,none⟩) 1 1] 83)) (.cells #[.int .i64 f,.int .i64 n] 80)
    rw[World.size_alloc]at this
    exact this
   have YB:(BP f n).fr=[(f,n)]:=by unfold BP;simp[h]
   refine⟨_,fun k=>k=w.heap.size∨k=w.heap.size+1,rfl,⟨FY.out,.slice (some ⟨w.heap.size+1,0,none⟩) 1 1,hr,?_,fun k=>?_⟩,fun k hk=>by omega,hb⟩
   ·rw[YB]
    exact(CB.own (cap:=1) ⟨he,rfl,Nat.le_refl _,by omega,rfl,rfl⟩)
   ·simp only[Value.ownBlock]
    constructor
    ·rintro(h|h)
     ·exact .inl h
     ·exact .inr (by rw[h])
    ·rintro(h|h)
     ·exact .inl h
     ·injection h with h;exact .inr h.symm
  have HX:=Lib.hid hx
  clear hx h hf hn
  go_enter Tryz.func32,Tryz.ntmps32
  go_wp2
  go_ret
  exact HX.out _ rfl
theorem WG{l:List Ex}{k:Nat}(hk:k<l.length):Ax (l.take (k+1))=Ax (l.take k)+(Ad l k).2:=by
 rw[List.take_add_one,List.getElem?_eq_getElem hk,DE hk,Al]
 simp[Ax]
theorem dX{l:List Ex}(k:Nat):Ax (l.take k)≤Ax l:=by
 conv=>rhs;rw[←List.take_append_drop k l,Al]
 omega
theorem aa(p:Nat)(s:Sp)(G:Nat→Prop)(w:World)(h:EZ w G p s):Calls Tryz.prog 17 #[.pointer (some ⟨p,0,none⟩)] w fun e w'=>e=.returned (.int .i64 (Ax s.fr:Nat))∧Below w.heap.size w w':=by
 obtain⟨h0,v,hr,ho,hG⟩:=h
 obtain⟨A,c,rfl,hnc,DP,_⟩:=AS ho
 have c2:w.cell? ⟨p,2,none⟩=some (.slice A s.fr.length c):=hr.cell 2
 have Dy:=hr.lt
 obtain⟨n,hn⟩:∃n,s.fr.length=n:=⟨_,rfl⟩
 have hlen:=h0.len
 have Ky:Ax s.fr≤4000000:=by have:=h0.2.2.sum;have:=h0.2.1;omega
 generalize hl:s.fr=l at*
 have HN:=Lib.hid hn
 rw[hn]at c2 hlen
 have HO:Hid (w.ownsRow 0 80 2 (.slice A n c) n (AF l)):=by rw[←hn];exact ho
 have HS:=Lib.hid Ky
 have yY:Hid (Ax (l.take n)=Ax l):=by unfold Hid;rw[List.take_of_length_le (by omega)]
 clear h0 hr ho hG hn Ky
 go_enter Tryz.func17,Tryz.ntmps17
 go_wp2
 go_loopw [3,13] (fun sv iv wr=>∃k:Nat,k≤n∧iv=.int .i64 k∧sv=.int .i64 (Ax (l.take k):Nat)∧Below w.heap.size w wr) (fun _ iv _=>n-(intOf iv).toNat)
 case atStart=>exact⟨0,by omega,rfl,rfl,Below.refl _ _⟩
 case round=>
  obtain⟨k,hk,rfl,rfl,EX⟩:=hrel
  have TF:=Lib.hid EX
  by_cases hlt:k<n
  ·obtain⟨g,rfl,hg,Ht,Gx⟩:=EA (Ao HO.out EX) hlt
   obtain⟨a,ha⟩:∃a,(Ad l k).1=a:=⟨_,rfl⟩
   obtain⟨b,hb⟩:∃b,(Ad l k).2=b:=⟨_,rfl⟩
   have hst:=WG (l:=l) (k:=k) (by have:=HN.out;omega)
   have hle:=dX (l:=l) (k+1)
   rw[ha]at Ht
   rw[hb]at Gx hst
   obtain⟨t,ht⟩:∃t,Ax (l.take k)=t:=⟨_,rfl⟩
   obtain⟨u,hu⟩:∃u,Ax (l.take (k+1))=u:=⟨_,rfl⟩
   rw[ht]
   rw[ht,hu]at hst
   rw[hu]at hle
   have K5:(t:Int)+(b:Int)=(u:Int):=by omega
   have Lu:IntKind.i64.wrap (u:Int)=(u:Int):=IntWalk.i64_in _ (by have:=HS.out;omega)
   have HU:=Lib.hid hu
   clear hst hle ha hb ht hu EX
   go_wp2
   have Cd:=Lib.hid (TF.out.alloc (by have:=TF.out.size;omega) (.cells #[.int .i64 a,.int .i64 b] 80))
   go_roundw
   case rel=>exact⟨k+1,by omega,by go_num,by rw[HU.out],Cd.out⟩
   case measure=>simp[intOf];omega
  ·obtain rfl:k=n:=by omega
   rw[yY.out]
   clear EX
   go_wp2
   go_ret
   exact⟨rfl,TF.out⟩
theorem Wl(b1 b2 p n c i:Nat)(A:Option Addr)(l:List Ex)(at_:Int)(W:World)(h1:W.cell? ⟨b1,0,none⟩=some (.pointer (some ⟨p,0,none⟩)))(h2:W.cell? ⟨b2,0,none⟩=some (.int .i64 at_))(h3:W.cell? ⟨p,2,none⟩=some (.slice A n c))
  (ho:W.ownsRow 0 80 2 (.slice A n c) n (AF l)) (hi:i<n) (hs:(Ad l i).1+(Ad l i).2≤4000000):
  Calls Tryz.prog 109 #[.int .i64 i,.pointer (some ⟨b1,0,none⟩),.pointer (some ⟨b2,0,none⟩)] W fun e w'=>e=.returned (.bool (decide (at_<((Ad l i).1+(Ad l i).2:Nat))))∧Below W.heap.size W w':=by
 obtain⟨g,rfl,hg,Ht,Gx⟩:=EA ho hi
 generalize(Ad l i).1=a at*
 generalize(Ad l i).2=b at*
 have l1:=block_lt_of_cell h1
 have l2:=block_lt_of_cell h2
 have l3:=block_lt_of_cell h3
 obtain⟨u,hu⟩:∃u,a+b=u:=⟨_,rfl⟩
 have HE:Hid (∀w,Calls Tryz.prog 96 #[.agg #[.int .i64 a,.int .i64 b]] w fun e w'=>e=.returned (.int .i64 (u:Nat))∧Below w.heap.size w w'):=fun w=>by have:=EF a b w hs;rwa [hu]at this
 rw[hu]
 have i0:(0:Int)≤(i:Int):=by omega
 have i1:(i:Int)<(n:Int):=by omega
 clear hu hs ho
 go_enter Tryz.func109,Tryz.ntmps109
 go_wp2
 go_region_held3 (fun w'=>w'.cell? ⟨b1,0,none⟩=some (.pointer (some ⟨p,0,none⟩))∧w'.cell? ⟨b2,0,none⟩=some (.int .i64 at_)∧w'.cell? ⟨p,2,none⟩=some (.slice (some ⟨g,0,none⟩) n c)∧w'.cell? ⟨g,i*2,none⟩=some (.int .i64 a)∧w'.cell? ⟨g,i*2+1,none⟩=some (.int .i64 b))
  (first|go_keep|(go_split_ands;refine⟨?_,?_,?_,?_,?_⟩<;>(first|assumption|(rw[A9.cell (by first|(simp;done)|(simp;omega))];assumption)))) ((go_at_call 96;refine(HE.out _).mono ?_;rintro e w2 ⟨rfl,A9⟩))
 have HB:Hid (Below W.heap.size W w2):=(AG (Below.refl W.heap.size W) 1).trans A9
 clear A9
 go_wp2
 go_ret
 refine⟨?_,HB.out⟩
 first|rfl|(simp only[gt_iff_lt])
theorem V8(b1:Nat)(a b:Nat)(n:Int)(W:World)(h1:W.cell? ⟨b1,0,none⟩=some (.int .i64 n)):
  Calls Tryz.prog 102 #[.agg #[.int .i64 a,.int .i64 b],.pointer (some ⟨b1,0,none⟩)] W fun e w'=>e=.returned (.bool (decide (n≤(b:Int))))∧Below W.heap.size W w':=by
 have l1:=block_lt_of_cell h1
 have h2:(W.alloc (.cells #[.int .i64 a,.int .i64 b] 80)).cell? ⟨b1,0,none⟩=some (.int .i64 n):=Lib.cell?_alloc_some _ h1
 have HB:=Lib.hid ((Below.refl W.heap.size W).alloc (Nat.le_refl _) (.cells #[.int .i64 a,.int .i64 b] 80))
 go_enter Tryz.func102,Tryz.ntmps102
 go_wp2
 go_ret
 refine⟨?_,HB.out⟩
 first|rfl|(simp only[ge_iff_le])
theorem Te(n:Nat)(q:Nat→Bool)(fs:Array Value)(w:World)(hn:n≤2000000)(iP:∀i j,i≤j→j<n→q i=true→q j=true)
  (hp:∀W k,k<n→Below w.heap.size w W→Calls Tryz.prog 109 (#[.int .i64 (k:Nat)]++fs) W fun e w'=>e=.returned (.bool (q k))∧Below w.heap.size w w'):
  Calls Tryz.prog 108 #[.int .i64 n,.func (.func 109) #[] fs] w fun e w'=>∃i:Nat,e=.returned (.int .i64 i)∧i≤n∧(∀k,k<i→q k=false)∧(i<n→q i=true)∧Below w.heap.size w w':=by
 have HP:=Lib.hid hp
 have HM:=Lib.hid iP
 clear hp iP
 go_enter Tryz.func108,Tryz.ntmps108
 go_wp2
 go_loopw [5,6] (fun iv jv wr=>∃i j:Nat,i≤j∧j≤n∧iv=.int .i64 i∧jv=.int .i64 j∧Below w.heap.size w wr∧Hid (∀k,k<i→q k=false)∧Hid (j<n→q j=true)) (fun iv jv _=>(intOf jv).toNat-(intOf iv).toNat)
 case atStart=>exact⟨0,n,by omega,Nat.le_refl _,rfl,rfl,Below.refl _ _,fun k hk=>absurd hk (by omega),fun h=>absurd h (by omega)⟩
 case round=>
  obtain⟨i,j,Fa,hj,rfl,rfl,EX,HI,HJ⟩:=hrel
  have TF:=Lib.hid EX
  by_cases hlt:i<j
  ·obtain⟨ij,Ky⟩:∃ij:Nat,ij=i+j:=⟨_,rfl⟩
   obtain⟨h,hh⟩:∃h:Nat,h=ij/2:=⟨_,rfl⟩
   have Lx:i≤h:=by omega
   have xP:h<j:=by omega
   have K5:(i:Int)+(j:Int)=(ij:Int):=by omega
   have Lu:IntKind.i64.wrap (ij:Int)=(ij:Int):=IntWalk.i64_in _ (by omega)
   have hdiv:(ij:Int)/2=(h:Int):=by omega
   clear EX Ky hh
   go_wp2_with fail
   refine(HP.out wr h (by omega) TF.out).mono ?_
   rintro e w2 ⟨rfl,AX⟩
   have Cd:=Lib.hid AX
   clear AX
   cases hq:q h with
   |true=>
    have HQ:Hid (∀k,k<h→k<i→q k=false):=fun k _ hk=>HI.out k hk
    have jR:Hid (h<n→q h=true):=fun _=>hq
    clear hq
    go_wp2
    go_roundw
    case rel=>exact⟨i,h,Lx,by omega,rfl,rfl,Cd.out,HI.out,jR.out⟩
    case measure=>simp[intOf];omega
   |false=>
    have HQ:Hid (∀k,k<h+1→q k=false):=fun k hk=>by
     rcases Nat.lt_or_ge k h with h1|h1
     ·cases FK:q k with
      |false=>rfl
      |true=>have:=HM.out k h (by omega) (by omega) FK;rw[hq]at this;cases this
     ·obtain rfl:k=h:=by omega
      exact hq
    clear hq
    go_wp2
    go_roundw
    case rel=>exact⟨h+1,j,by omega,hj,by go_num,rfl,Cd.out,HQ.out,HJ.out⟩
    case measure=>simp[intOf];omega
  ·obtain rfl:i=j:=by omega
   clear EX
   go_wp2
   go_ret
   exact⟨i,rfl,hj,HI.out,HJ.out,TF.out⟩
def DC(l:List Ex)(a:Int):Nat:=l.findIdx fun x=>decide (a<((x.1+x.2:Nat):Int))
theorem Ov(l:List Ex)(a:Nat):DC l (a:Int)=A8 l a:=by
 unfold DC A8
 congr 1;funext x
 rw[Bool.eq_iff_iff];simp only[decide_eq_true_eq];omega
theorem Ml(p:Nat)(s:Sp)(G:Nat→Prop)(a:Int)(w:World)(h:EZ w G p s):Calls Tryz.prog 89 #[.pointer (some ⟨p,0,none⟩),.int .i64 a] w fun e w'=>e=.returned (.int .i64 (DC s.fr a:Nat))∧Below w.heap.size w w':=by
 obtain⟨h0,v,hr,ho,hG⟩:=h
 obtain⟨A,c,rfl,hnc,DP,_⟩:=AS ho
 have hlen:=h0.len
 have hcan:=h0.2.2
 have Lx:s.first+s.blocks≤4000000:=by have:=h0.1;have:=h0.2.1;omega
 generalize s.first+s.blocks=hi at*
 generalize s.first=lo at*
 generalize hl:s.fr=l at*
 obtain⟨n,hn⟩:∃n,l.length=n:=⟨_,rfl⟩
 rw[hn]at ho hlen hnc
 have hB:=((Below.refl w.heap.size w).alloc (Nat.le_refl _) (.cells #[.pointer (some ⟨p,0,none⟩)] 43)).alloc (by simp) (.cells #[.int .i64 a] 3)
 have k1:((w.alloc (.cells #[.pointer (some ⟨p,0,none⟩)] 43)).alloc (.cells #[.int .i64 a] 3)).cell? ⟨w.heap.size,0,none⟩=some (.pointer (some ⟨p,0,none⟩)):=by
  have h1:Row (w.alloc (.cells #[.pointer (some ⟨p,0,none⟩)] 43)) w.heap.size 43 [.pointer (some ⟨p,0,none⟩)]:=heap_alloc_new _ _
  exact(h1.alloc _).cell 0
 have k2:((w.alloc (.cells #[.pointer (some ⟨p,0,none⟩)] 43)).alloc (.cells #[.int .i64 a] 3)).cell? ⟨w.heap.size+1,0,none⟩=some (.int .i64 a):=by
  have h1:Row ((w.alloc (.cells #[.pointer (some ⟨p,0,none⟩)] 43)).alloc (.cells #[.int .i64 a] 3)) (w.heap.size+1) 3 [.int .i64 a]:=by
   have:=heap_alloc_new (w.alloc (.cells #[.pointer (some ⟨p,0,none⟩)] 43)) (.cells #[.int .i64 a] 3)
   rw[World.size_alloc]at this
   exact this
  exact h1.cell 0
 have k3:((w.alloc (.cells #[.pointer (some ⟨p,0,none⟩)] 43)).alloc (.cells #[.int .i64 a] 3)).cell? ⟨p,2,none⟩=some (.slice A n c):=((hr.alloc _).alloc _).cell 2|>.trans (by rw[←hn,←hl];rfl)
 have k4:=Ao ho hB
 generalize hW:(w.alloc (.cells #[.pointer (some ⟨p,0,none⟩)] 43)).alloc (.cells #[.int .i64 a] 3)=W at*
 have hq:∀W' k,k<n→Below W.heap.size W W'→Calls Tryz.prog 109 (#[.int .i64 (k:Nat)]++#[.pointer (some ⟨w.heap.size,0,none⟩),.pointer (some ⟨w.heap.size+1,0,none⟩)]) W' fun e w'=>e=.returned (.bool (decide (a<((Ad l k).1+(Ad l k).2:Nat))))∧Below W.heap.size W w':=fun W' k hk hb=>by
  refine(Wl w.heap.size (w.heap.size+1) p n c k A l a W' ?_ ?_ ?_ (Ao k4 hb) hk ?_).mono fun e w' h=>⟨h.1,hb.trans (h.2.mono hb.size)⟩
  ·exact(hb.cell (block_lt_of_cell k1)).trans k1
  ·exact(hb.cell (block_lt_of_cell k2)).trans k2
  ·exact(hb.cell (block_lt_of_cell k3)).trans k3
  ·have:=hcan.getD (show k<l.length by omega);omega
 have qM:=Te n (fun k=>decide (a<((Ad l k).1+(Ad l k).2:Nat))) #[.pointer (some ⟨w.heap.size,0,none⟩),.pointer (some ⟨w.heap.size+1,0,none⟩)] W (by omega) (fun i j Fa hj XK=>by
   simp only[decide_eq_true_eq]at XK⊢
   rcases Nat.lt_or_ge i j with h1|h1
   ·have:=hcan.ends h1 (by omega);omega
   ·obtain rfl:i=j:=by omega
    exact XK) hq
 have hres:Calls Tryz.prog 108 #[.int .i64 n,.func (.func 109) #[] #[.pointer (some ⟨w.heap.size,0,none⟩),.pointer (some ⟨w.heap.size+1,0,none⟩)]] W fun e w'=>e=.returned (.int .i64 (DC l a:Nat))∧Below w.heap.size w w':=qM.mono fun e w' h=>by
  obtain⟨i,rfl,h1,h2,h3,h4⟩:=h
  have:DC l a=i:=Dn (by omega) h2 (fun h=>h3 (by omega))
  rw[this]
  exact⟨rfl,hB.trans (h4.mono hB.size)⟩
 have HR:=Lib.hid hres
 have K1:=Lib.hid k1
 generalize DC l a=z at*
 subst hW
 clear hres qM hq hcan h0 hr ho k4 hB hn k1 hl hG
 go_enter Tryz.func89,Tryz.ntmps89
 go_wp2_with fail
 refine HR.out.mono ?_
 rintro e w2 ⟨rfl,hb⟩
 have HB:=Lib.hid hb
 clear hb
 go_wp2
 go_ret
 exact⟨rfl,HB.out⟩
theorem Tw(b1:Nat)(m:Int)(A:Option Addr)(n c:Nat)(l:List Ex)(w:World)(h1:w.cell? ⟨b1,0,none⟩=some (.int .i64 m))(ho:w.ownsRow 0 80 2 (.slice A n c) n (AF l))(hl:l.length=n)(hn:n≤2000000):
  Calls Tryz.prog 101 #[.slice A n c,.func (.func 102) #[] #[.pointer (some ⟨b1,0,none⟩)]] w fun e w'=>
   (∃i:Nat,i<n∧(∀k,k<i→decide (m≤((Ad l k).2:Int))=false)∧decide (m≤((Ad l i).2:Int))=true∧e=.returned (.int .i64 i)∧Below w.heap.size w w')∨((∀k,k<n→decide (m≤((Ad l k).2:Int))=false)∧e=.returned (.int .i64 (-1))∧Below w.heap.size w w'):=by
 have HO:=Lib.hid ho
 have H1:=Lib.hid h1
 have Aj:=block_lt_of_cell h1
 clear ho h1
 go_enter Tryz.func101,Tryz.ntmps101
 go_wp2
 go_loopw [5,8] (fun _ iv wr=>∃k:Nat,k≤n∧iv=.int .i64 k∧Below w.heap.size w wr∧Hid (∀j,j<k→decide (m≤((Ad l j).2:Int))=false)) (fun _ iv _=>n-(intOf iv).toNat)
 case atStart=>exact⟨0,by omega,rfl,Below.refl _ _,fun j hj=>absurd hj (by omega)⟩
 case round=>
  obtain⟨k,hk,rfl,EX,HK⟩:=hrel
  have TF:=Lib.hid EX
  by_cases hlt:k<n
  ·obtain⟨g,rfl,hg,Ht,Gx⟩:=EA (Ao HO.out EX) hlt
   have K2:=V8 b1 (Ad l k).1 (Ad l k).2 m wr ((EX.cell Aj).trans H1.out)
   have HX:Hid (Ad l k=((Ad l k).1,(Ad l k).2)):=rfl
   generalize(Ad l k).1=a at*
   cases hq:decide (m≤((Ad l k).2:Int))with
   |true=>
    rw[hq]at K2
    have HC:=Lib.hid K2
    have HQ:=Lib.hid hq
    generalize(Ad l k).2=b at Gx HC
    clear EX K2 hq
    go_wp2_with fail
    refine HC.out.mono ?_
    rintro e w2 ⟨rfl,AX⟩
    have Cd:=Lib.hid (TF.out.trans (AX.mono TF.out.size))
    clear AX
    go_wp2
    go_ret
    exact .inl ⟨k,hlt,HK.out,HQ.out,rfl,Cd.out⟩
   |false=>
    rw[hq]at K2
    have HC:=Lib.hid K2
    have HQ:Hid (∀j,j<k+1→decide (m≤((Ad l j).2:Int))=false):=fun j hj=>by
     rcases Nat.lt_or_ge j k with h1|h1
     ·exact HK.out j h1
     ·obtain rfl:j=k:=by omega
      exact hq
    generalize(Ad l k).2=b at Gx HC
    clear EX K2 hq
    go_wp2_with fail
    refine HC.out.mono ?_
    rintro e w2 ⟨rfl,AX⟩
    have Cd:=Lib.hid (TF.out.trans (AX.mono TF.out.size))
    clear AX
    go_wp2
    go_roundw
    case rel=>exact⟨k+1,by omega,by go_num,Cd.out,HQ.out⟩
    case measure=>simp[intOf];omega
  ·obtain rfl:k=n:=by omega
   clear EX
   go_wp2
   go_ret
   exact .inr ⟨HK.out,rfl,TF.out⟩
theorem D7{w:World}{B B':Nat}{v:Value}{n:Nat}{xs:List Value}(h:w.ownsRow B 80 2 v n xs)(hb:B'≤B):w.ownsRow B' 80 2 v n xs:=by
 obtain⟨h1,h2⟩:=h
 refine⟨h1,?_⟩
 rcases h2 with h2|⟨g,cap,cur,rfl,hg,r⟩
 ·exact .inl h2
 ·exact .inr ⟨g,cap,cur,rfl,by omega,r⟩
def jK(w:World)(G:Nat→Prop)(p:Nat)(s:Sp)(v:Value):Prop:=
 s.ok∧Row w p 83 (Fp s v)∧w.ownsRow 0 80 2 v s.fr.length (AF s.fr)∧∀k,G k↔k=p∨v.ownBlock=some k
theorem jK.apart{w:World}{G:Nat→Prop}{p:Nat}{s:Sp}{v:Value}(h:jK w G p s v):v.ownBlock≠some p:=by
 intro e
 obtain⟨cs,hc⟩:=Mu h.2.2.1 e
 have hr:=h.2.1
 unfold Row at hr hc;rw[hr]at hc;injection hc with hc;injection hc with _ hc;exact absurd hc (by decide)
theorem Ba{w w5 w6:World}{G:Nat→Prop}{p:Nat}{s:Sp}{v:Value}{R:List Ex}{e:Ending}(h:jK w G p s v)(hb:Below w.heap.size w w5)(hg:Eb w5 v R e w6):Row w6 p 83 (Fp s v):=by
 obtain⟨v',_,_,hf,_⟩:=hg
 exact hf.row (h.2.1.below hb h.2.1.lt) h.apart
theorem Cv{w w5 w6:World}{G:Nat→Prop}{p:Nat}{s:Sp}{v v':Value}{R:List Ex}(h:jK w G p s v)(hb:Below w.heap.size w w5)(hg:Eb w5 v R (.returned v') w6)(hok:({s with fr:=R}:Sp).ok):
  ∃G',EZ (w6.setCell ⟨p,2,none⟩ v') G' p {s with fr:=R}∧AK G w (w6.setCell ⟨p,2,none⟩ v')∧∀k,G' k→G k∨w.heap.size≤k:=by
 have FJ:=Ba h hb hg
 obtain⟨v2,e,ho,hf,hk⟩:=hg
 injection e with e;subst e
 have hne:v'.ownBlock≠some p:=by
  intro e
  obtain⟨cs,hc⟩:=Mu ho e
  unfold Row at FJ hc;rw[FJ]at hc;injection hc with hc;injection hc with _ hc;exact absurd hc (by decide)
 have KF:AK (fun k=>k=p) w6 (w6.setCell ⟨p,2,none⟩ v'):=(AK.refl (fun k=>k=p) w6).set (p:=⟨p,2,none⟩) (.inl rfl) v'
 refine⟨fun k=>k=p∨v'.ownBlock=some k,⟨hok,v',FJ.set 2 v',Mv ho KF fun k Ep e=>hne (by rw[Ep,e]),fun k=>Iff.rfl⟩,?_,fun k Ep=>?_⟩
 ·refine((AK.AJ hb G).trans hf fun k Ep=>.inl ((h.2.2.2 k).2 (.inr Ep))).trans KF fun k Ep=>.inl ((h.2.2.2 k).2 (.inl Ep))
 ·rcases Ep with rfl|Ep
  ·exact .inl ((h.2.2.2 k).2 (.inl rfl))
  ·rcases hk k Ep with h1|h1
   ·exact .inl ((h.2.2.2 k).2 (.inr h1))
   ·exact .inr (Nat.le_trans hb.size h1)
theorem fu{w w':World}{x y a b:Value}(h:Below (w.heap.size+2) ((w.alloc (.cells #[x,y] 80)).alloc (.cells #[a,b] 80)) w'):
  w'.cell? ⟨w.heap.size,0,none⟩=some x∧w'.cell? ⟨w.heap.size,1,none⟩=some y∧w'.cell? ⟨w.heap.size+1,0,none⟩=some a∧w'.cell? ⟨w.heap.size+1,1,none⟩=some b:=by
 have r1:Row (w.alloc (.cells #[x,y] 80)) w.heap.size 80 [x,y]:=heap_alloc_new _ _
 have r2:Row ((w.alloc (.cells #[x,y] 80)).alloc (.cells #[a,b] 80)) (w.heap.size+1) 80 [a,b]:=by
  have:=heap_alloc_new (w.alloc (.cells #[x,y] 80)) (.cells #[a,b] 80)
  rw[World.size_alloc]at this
  exact this
 have zw:=(r1.alloc (.cells #[a,b] 80)).below h (by omega)
 have zv:=r2.below h (by omega)
 exact⟨zw.cell 0,zw.cell 1,zv.cell 0,zv.cell 1⟩
theorem ZX{w:World}{t:TypeId}{a b k:Nat}(hk:w.heap.size=k):∀j v,(AF [(a,b)])[j]?=some v→(w.alloc (.cells #[.int .i64 a,.int .i64 b] t)).cell? ((⟨k,0,none⟩:Addr).add j)=some v:=by
 subst hk
 intro j v hj
 have r1:Row (w.alloc (.cells #[.int .i64 a,.int .i64 b] t)) w.heap.size t [.int .i64 a,.int .i64 b]:=heap_alloc_new _ _
 rw[Addr.add_lit,Nat.zero_add,r1.cell];exact hj
theorem Ge{w w':World}{B:Nat}{v:Value}{n:Nat}{xs:List Value}(h:w.ownsRow B 80 2 v n xs)(hb:Below w.heap.size w w'):w'.ownsRow B 80 2 v n xs:=by
 obtain⟨h1,h2⟩:=h
 refine⟨h1,?_⟩
 rcases h2 with h2|⟨g,cap,cur,rfl,hg,hh,r⟩
 ·exact .inl h2
 ·exact .inr ⟨g,cap,cur,rfl,hg,(hb.block g (Array.getElem?_eq_some_iff.1 hh).1).trans hh,r⟩
section
variable {w w1 w2 : World} {x y a b u : Value} {m : Nat} {l : List Value}
abbrev S6 (w:World) (x y a b u:Value) (m:Nat) (l:List Value) (w1:World):Prop:=
 Below (w.heap.size+2) ((w.alloc (.cells #[x,y] 80)).alloc (.cells #[a,b] 80)) w1∧w1.ownsRow (w.heap.size+2) 80 2 u m l∧w.heap.size+2≤w1.heap.size∧w1.cell? ⟨w.heap.size,0,none⟩=some x∧w1.cell? ⟨w.heap.size,1,none⟩=some y∧w1.cell? ⟨w.heap.size+1,0,none⟩=some a∧w1.cell? ⟨w.heap.size+1,1,none⟩=some b
theorem gy(h:Below (w.heap.size+2) ((w.alloc (.cells #[x,y] 80)).alloc (.cells #[a,b] 80)) w1)(ho:w1.ownsRow (w.heap.size+2) 80 2 u m l)(hs:w.heap.size+2≤w1.heap.size):S6 w x y a b u m l w1:=by
 obtain⟨k0,k1,k2,k3⟩:=fu h
 exact⟨h,ho,hs,k0,k1,k2,k3⟩
theorem LU{w3 w4:World}(h:Below (w.heap.size+2) ((w.alloc (.cells #[x,y] 80)).alloc (.cells #[a,b] 80)) w3)(hb:Below w3.heap.size w3 w4):
  Below w3.heap.size w3 w4∧w4.cell? ⟨w.heap.size,0,none⟩=some x∧w4.cell? ⟨w.heap.size,1,none⟩=some y∧w4.cell? ⟨w.heap.size+1,0,none⟩=some a∧w4.cell? ⟨w.heap.size+1,1,none⟩=some b:=by
 obtain⟨k0,k1,k2,k3⟩:=fu (h.trans (hb.mono (by have:=h.size;simp at this;omega)))
 exact⟨hb,k0,k1,k2,k3⟩
theorem Px(h:Below (w.heap.size+2) ((w.alloc (.cells #[x,y] 80)).alloc (.cells #[a,b] 80)) w1)(ho:w1.ownsRow (w.heap.size+2) 80 2 u m l)(hs:w.heap.size+2≤w1.heap.size)(hb:Below w1.heap.size w1 w2):S6 w x y a b u m l w2:=
 gy (h.trans (hb.mono hs)) (Ge ho hb) (Nat.le_trans hs hb.size)
theorem RZ(h:Below (w.heap.size+2) ((w.alloc (.cells #[x,y] 80)).alloc (.cells #[a,b] 80)) w1)(ho:w1.ownsRow (w.heap.size+2) 80 2 u m l)(hs:w.heap.size+2≤w1.heap.size)(o:Obj):S6 w x y a b u m l (w1.alloc o):=
 Px h ho hs ((Below.refl _ _).alloc (Nat.le_refl _) o)
theorem Yz(h:Below (w.heap.size+2) ((w.alloc (.cells #[x,y] 80)).alloc (.cells #[a,b] 80)) w1)(ho:w1.ownsRow (w.heap.size+2) 80 2 u m l)(hs:w.heap.size+2≤w1.heap.size)(hk:w2.ownsRow (w.heap.size+2) 80 2 u m l)(hg:w1.grownBy w2 u.ownBlock):S6 w x y a b u m l w2:=
 gy (h.grown hg hs fun k hk=>(ho.lt k hk).1) hk (Nat.le_trans hs hg.size)
end
theorem VX(p:Nat)(s:Sp)(G:Nat→Prop)(i f n':Nat)(w:World)(h:EZ w G p s)(hi:i<s.fr.length)(h1:(Ad s.fr i).1≤f)(h2:f+n'≤(Ad s.fr i).1+(Ad s.fr i).2)(hn:1≤n'):
  Calls Tryz.prog 91 #[.pointer (some ⟨p,0,none⟩),.int .i64 i,.agg #[.int .i64 f,.int .i64 n']] w fun e w'=>∃G',e=.returned (.tuple #[])∧EZ w' G' p {s with fr:=Hj s.fr i f n'}∧AK G w w'∧∀k,G' k→G k∨w.heap.size≤k:=by
 obtain⟨hok,v,hr,ho,hG⟩:=h
 obtain⟨i0,CA,Cy,hz,Qv⟩:=CP
 obtain⟨A,c,rfl,hnc,DP,_⟩:=AS ho
 have Fv:=Sc hok.2.2 hi h1 h2 hn
 have NN:=hok.2.2.getD hi
 have Lx:s.first+s.blocks≤4000000:=by have:=hok.1;have:=hok.2.1;omega
 have hlen:=hok.len
 have c2:w.cell? ⟨p,2,none⟩=some (.slice A s.fr.length c):=hr.cell 2
 have Dy:=hr.lt
 obtain⟨g,rfl,hg,Ht,Gx⟩:=EA ho hi
 obtain⟨A,hA⟩:∃A:Option Addr,A=some ⟨g,0,none⟩:=⟨_,rfl⟩
 obtain⟨N,hN⟩:∃N,N=s.fr.length:=⟨_,rfl⟩
 have H0:jK w G p s (.slice (some ⟨g,0,none⟩) N c):=by subst hN;exact⟨hok,hr,ho,hG⟩
 obtain⟨R,hR⟩:∃R,R=Hj s.fr i f n':=⟨_,rfl⟩
 have nS:Hid (({s with fr:=Hj s.fr i f n'}:Sp).ok):=⟨hok.1,hok.2.1,Fv.1⟩
 unfold Hj at hR
 rw[←hN]at c2 hi hlen
 obtain⟨a,ha⟩:∃a,(Ad s.fr i).1=a:=⟨_,rfl⟩
 obtain⟨b,hb⟩:∃b,(Ad s.fr i).2=b:=⟨_,rfl⟩
 have hx:Ad s.fr i=(a,b):=Prod.ext ha hb
 rw[hx]at hR
 rw[ha,hb]at h2 NN
 rw[ha]at h1 Ht
 rw[hb]at Gx
 have hcut:Hj s.fr i f n'=R:=by unfold Hj;rw[hx,hR]
 rw[hcut]at nS⊢
 have FY:=nS
 have HA:=Lib.hid hA
 subst hA
 have H:=Lib.hid H0
 have HN:Hid (i<N∧N≤1000000∧s.fr.length=N):=⟨hi,hlen,hN.symm⟩
 have Vt:=Lib.hid CA
 obtain⟨u1,qA⟩:∃u,f+n'=u:=⟨_,rfl⟩
 obtain⟨u2,N4⟩:∃u,a+b=u:=⟨_,rfl⟩
 have cD:Hid (∀W,Calls Tryz.prog 96 #[.agg #[.int .i64 f,.int .i64 n']] W fun e w'=>e=.returned (.int .i64 (u1:Nat))∧Below W.heap.size W w'):=fun W=>by have:=EF f n' W (by omega);rwa [qA]at this
 have L9:Hid (∀W,Calls Tryz.prog 96 #[.agg #[.int .i64 a,.int .i64 b]] W fun e w'=>e=.returned (.int .i64 (u2:Nat))∧Below W.heap.size W w'):=fun W=>by have:=EF a b W (by omega);rwa [N4]at this
 have AB3:u1≤u2:=by omega
 have AB2:u2≤4000000:=by omega
 have O8:f≤4000000:=by omega
 have vp:(0:Int)≤(i:Int):=by omega
 have vo:(i:Int)<(N:Int):=by omega
 have hiw:IntKind.i64.wrap ((i:Int)+1)=(i:Int)+1:=IntWalk.i64_in _ (by omega)
 have gK:=Lib.hid hR
 have HU:=Lib.hid qA
 have OX:=Lib.hid N4
 clear Fv NN hok hr ho hG H0 hN ha hb hx hcut nS hR CA qA N4 Lx
 by_cases hl:a<f
 ·obtain⟨q,hq⟩:∃q,f-a=q:=⟨_,rfl⟩
  have GL:(f:Int)-(a:Int)=(q:Int):=by omega
  have hqw:IntKind.i64.wrap (q:Int)=(q:Int):=IntWalk.i64_in _ (by omega)
  have gl:decide ((a:Int)<(f:Int))=true:=by simp;omega
  have gl2:decide (a<f)=true:=by simp;omega
  have HQ:=Lib.hid hq
  have HL:Hid (a<f):=hl
  clear hq
  go_enter Tryz.func91,Tryz.ntmps91
  go_wp2_with (with_reducible refine BX 30 ?_)
  unfold Hid
  refine wpList_append_own_at _ rfl _ _ 81 rfl (w.heap.size+2) 80 i0 _ 2 16 Tryz.underlying81 Vt.out Cy hz Qv rfl (by decide) _ 0 [] rfl (World.ownsRow_nil _ _ _ _) ⟨w.heap.size+2,0,none⟩ 1 1 (AF [(a,q)]) rfl rfl (ZX (by simp)) BF (by decide) (by decide) (by simp) ?_
  intro v1 w3 uE EW _ _
  rw[List.nil_append]at uE
  have Bq:Hid (Below (w.heap.size+2) ((w.alloc (.cells #[.int .i64 f,.int .i64 n'] 80)).alloc (.cells #[.int .i64 a,.int .i64 b] 80)) w3):=((Below.refl _ _).alloc (by simp) _).grown EW (by simp) fun k hk=>by cases hk
  have jN:=Lib.hid uE
  obtain⟨B1,d1,rfl⟩:∃B1 d1,v1=.slice B1 1 d1:=by
   obtain⟨B1,d1,h1,_⟩:=AS (D7 uE (Nat.zero_le _));exact⟨B1,d1,h1⟩
  clear uE EW
  go_wp2
  have Q6:Hid (Below w.heap.size w w3):=(((Below.refl w.heap.size w).alloc (Nat.le_refl _) _).alloc (by simp) _).trans (Bq.out.mono (by omega))
  by_cases Z5:u1<u2
  ·skip
   have gr:decide ((u1:Int)<(u2:Int))=true:=by simp;omega
   have yD:decide (u1<u2)=true:=by simp;omega
   obtain⟨t,ht⟩:∃t,u2-u1=t:=⟨_,rfl⟩
   have qE:(u2:Int)-(u1:Int)=(t:Int):=by omega
   have htw:IntKind.i64.wrap (t:Int)=(t:Int):=IntWalk.i64_in _ (by omega)
   have HT:=Lib.hid ht
   clear ht
   have HR:Hid (s.fr.take i++([(a,q)]++[(u1,t)])++s.fr.drop (i+1)=R):=by
    unfold Hid;rw[gK.out];unfold IU;dsimp only;rw[if_pos HL.out,if_pos (by rw[HU.out];have:=OX.out;omega)];rw[HQ.out];rw[HU.out,OX.out,HT.out]
   have NF:w.heap.size+2≤w3.heap.size:=by have:=Bq.out.size;simp at this;omega
   go_region_held3 (fun w'=>Below w3.heap.size w3 w'∧w'.cell? ⟨w.heap.size,0,none⟩=some (.int .i64 f)∧w'.cell? ⟨w.heap.size,1,none⟩=some (.int .i64 n')∧w'.cell? ⟨w.heap.size+1,0,none⟩=some (.int .i64 a)∧w'.cell? ⟨w.heap.size+1,1,none⟩=some (.int .i64 b))
    (first
     |(exact LU Bq.out (AG (Below.refl _ _) 1))
     |(exact LU Bq.out hacc))
    ((go_split_ands;go_at_call 96;(first|(with_reducible refine(cD.out _).mono ?_)|(with_reducible refine(L9.out _).mono ?_));rintro e w4 ⟨rfl,A9⟩;have hacc:Below w3.heap.size w3 w4:=Below.trans (by assumption) (Below.mono A9 (Below.size (by assumption)))))
   have Nx:=Lib.hid hacc
   clear hacc
   have p9:w4.ownsRow (w.heap.size+2) 80 2 (.slice B1 1 d1) 1 (AF [(a,q)]):=Ge jN.out Nx.out
   have Dz:Below (w.heap.size+2) ((w.alloc (.cells #[.int .i64 f,.int .i64 n'] 80)).alloc (.cells #[.int .i64 a,.int .i64 b] 80)) w4:=Bq.out.trans (Nx.out.mono NF)
   obtain⟨m0,m1,m2,m3⟩:=fu Dz
   have SE:w.heap.size+2≤w4.heap.size:=by have:=Dz.size;simp at this;omega
   have Vv:=Lib.hid Dz
   have yW:=Lib.hid p9
   clear Dz p9
   go_wp2
   go_region_held3 (fun w'=>Below (w.heap.size+2) ((w.alloc (.cells #[.int .i64 f,.int .i64 n'] 80)).alloc (.cells #[.int .i64 a,.int .i64 b] 80)) w'∧w'.ownsRow (w.heap.size+2) 80 2 (.slice B1 1 d1) 1 (AF [(a,q)])∧w.heap.size+2≤w'.heap.size∧w'.cell? ⟨w.heap.size,0,none⟩=some (.int .i64 f)∧w'.cell? ⟨w.heap.size,1,none⟩=some (.int .i64 n')∧w'.cell? ⟨w.heap.size+1,0,none⟩=some (.int .i64 a)∧w'.cell? ⟨w.heap.size+1,1,none⟩=some (.int .i64 b))
    (first
     |(exact⟨AG Vv.out 1,yW.out,SE,m0,m1,m2,m3⟩)
     |(exact hacc)
     |(go_split_ands;exact RZ (by assumption) (by assumption) (by assumption) _)
     |(exact NS))
    (first
     |(go_split_ands;go_at_call 96;(first|(with_reducible refine(cD.out _).mono ?_)|(with_reducible refine(L9.out _).mono ?_));rintro e w5 ⟨rfl,A9⟩;have hacc:=Px (by assumption) (by assumption) (by assumption) A9)
     |(go_split_ands;refine GY rfl _ _ 81 rfl (w.heap.size+2) 80 i0 _ 2 16 Tryz.underlying81 Vt.out Cy hz Qv rfl (by decide) (.slice B1 1 d1) 1 (AF [(a,q)]) (by first|rfl|simp) (by assumption) _ 1 1 (AF [(u1,t)]) (by first|rfl|simp) rfl (ZX (by first|rfl|simp)) BF (by decide) (by decide) (by assumption) ?_;intro v5 w5 XE qv lV;have NS:=Yz (by assumption) (by assumption) (by assumption) lV qv))
   generalize xB:1+1=m5 at XE
   have xA:m5≤2:=by omega
   rw[←Ai]at XE
   obtain⟨B5,d5,rfl⟩:∃B5 d5,v5=.slice B5 m5 d5:=by
    obtain⟨B5,d5,h1,_⟩:=AS (D7 XE.out (Nat.zero_le _));exact⟨B5,d5,h1⟩
   have nA:Hid (w5.ownsRow 0 80 2 (.slice B5 m5 d5) m5 (AF ([(a,q)]++[(u1,t)]))):=D7 XE.out (Nat.zero_le _)
   have Jv:Hid (∀k,(Value.slice B5 m5 d5).ownBlock=some k→w.heap.size≤k):=fun k hk=>by have:=(XE.out.lt k hk).1;omega
   have BW:Hid (Below w.heap.size w w5):=(((Below.refl w.heap.size w).alloc (Nat.le_refl _) _).alloc (by simp) _).trans (NS.1.mono (by omega))
   clear xB XE NS qv lV hacc m0 m1 m2 m3 SE
   have NJ:=Ao H.out.2.2.1 BW.out
   have Jb:Row w5 p 83 (Fp s (.slice (some ⟨g,0,none⟩) N c)):=H.out.2.1.below BW.out Dy
   have BB:=BD w5 (i:=i) (j:=i+1) NJ nA.out (fun k hk e=>by have h1:=(H.out.2.2.1.lt k hk).2;have h2:=Jv.out k e;omega) (by omega) (by have:=HN.out;omega) (by omega) (by have:=HN.out;omega)
   have hR:s.fr.take i++([(a,q)]++[(u1,t)])++s.fr.drop (i+1)=R:=HR.out
   rw[hR]at BB
   have Ib:((i+1:Nat):Int)=(i:Int)+1:=by omega
   rw[Ib]at BB
   have B0:=Lib.hid BB
   have c5:w5.cell? ⟨p,2,none⟩=some (.slice (some ⟨g,0,none⟩) N c):=Jb.cell 2
   have HC:Hid (∀v' w6,Eb w5 (.slice (some ⟨g,0,none⟩) N c) R (.returned v') w6→∃G',EZ (w6.setCell ⟨p,2,none⟩ v') G' p {s with fr:=R}∧AK G w (w6.setCell ⟨p,2,none⟩ v')∧∀k,G' k→G k∨w.heap.size≤k):=fun v' w6 hg=>Cv H.out BW.out hg FY.out
   have IG:Hid (∀v' w6,Eb w5 (.slice (some ⟨g,0,none⟩) N c) R (.returned v') w6→w6.cell? ⟨p,2,none⟩=some (.slice (some ⟨g,0,none⟩) N c)∧w6.frozen? ⟨p,2,none⟩=false):=fun v' w6 hg=>by have:=Ba H.out BW.out hg;exact⟨this.cell 2,this.free 2⟩
   have lJ:p<w5.heap.size:=Jb.lt
   clear BB NJ Jb hR Ib
   go_wp2_with fail
   refine B0.out.mono ?_
   rintro e w6 hg
   obtain⟨v',rfl,EW,CE,Ds⟩:=id hg
   have HX:=Lib.hid (HC.out v' w6 hg)
   obtain⟨c6,f6⟩:=IG.out v' w6 hg
   obtain⟨A',c',rfl,_,_,_⟩:=AS EW
   clear hg EW CE Ds
   go_wp2
   go_end0
   obtain⟨G',h1,h2,h3⟩:=HX.out
   exact⟨G',rfl,h1,h2,h3⟩
  ·skip
   have gr:decide ((u1:Int)<(u2:Int))=false:=by simp;omega
   have yD:decide (u1<u2)=false:=by simp;omega
   have HR:Hid (s.fr.take i++([(a,q)]++[])++s.fr.drop (i+1)=R):=by
    unfold Hid;rw[gK.out];unfold IU;dsimp only;rw[if_pos HL.out,if_neg (by rw[HU.out];have:=OX.out;omega)];rw[HQ.out]
   have NF:w.heap.size+2≤w3.heap.size:=by have:=Bq.out.size;simp at this;omega
   go_region_held3 (fun w'=>Below w3.heap.size w3 w'∧w'.cell? ⟨w.heap.size,0,none⟩=some (.int .i64 f)∧w'.cell? ⟨w.heap.size,1,none⟩=some (.int .i64 n')∧w'.cell? ⟨w.heap.size+1,0,none⟩=some (.int .i64 a)∧w'.cell? ⟨w.heap.size+1,1,none⟩=some (.int .i64 b))
    (first
     |(exact LU Bq.out (AG (Below.refl _ _) 1))
     |(exact LU Bq.out hacc))
    ((go_split_ands;go_at_call 96;(first|(with_reducible refine(cD.out _).mono ?_)|(with_reducible refine(L9.out _).mono ?_));rintro e w4 ⟨rfl,A9⟩;have hacc:Below w3.heap.size w3 w4:=Below.trans (by assumption) (Below.mono A9 (Below.size (by assumption)))))
   have Nx:=Lib.hid hacc
   clear hacc
   have nA:Hid (w4.ownsRow 0 80 2 (.slice B1 1 d1) 1 (AF ([(a,q)]++[]))):=by unfold Hid;rw[List.append_nil];exact D7 (Ge jN.out Nx.out) (Nat.zero_le _)
   have Jv:Hid (∀k,(Value.slice B1 1 d1).ownBlock=some k→w.heap.size≤k):=fun k hk=>by have:=(jN.out.lt k hk).1;omega
   have BW:Hid (Below w.heap.size w w4):=Q6.out.trans (Nx.out.mono (by omega))
   generalize w4=w5 at*
   have NJ:=Ao H.out.2.2.1 BW.out
   have Jb:Row w5 p 83 (Fp s (.slice (some ⟨g,0,none⟩) N c)):=H.out.2.1.below BW.out Dy
   have BB:=BD w5 (i:=i) (j:=i+1) NJ nA.out (fun k hk e=>by have h1:=(H.out.2.2.1.lt k hk).2;have h2:=Jv.out k e;omega) (by omega) (by have:=HN.out;omega) (by omega) (by have:=HN.out;omega)
   have hR:s.fr.take i++([(a,q)]++[])++s.fr.drop (i+1)=R:=HR.out
   rw[hR]at BB
   have Ib:((i+1:Nat):Int)=(i:Int)+1:=by omega
   rw[Ib]at BB
   have B0:=Lib.hid BB
   have c5:w5.cell? ⟨p,2,none⟩=some (.slice (some ⟨g,0,none⟩) N c):=Jb.cell 2
   have HC:Hid (∀v' w6,Eb w5 (.slice (some ⟨g,0,none⟩) N c) R (.returned v') w6→∃G',EZ (w6.setCell ⟨p,2,none⟩ v') G' p {s with fr:=R}∧AK G w (w6.setCell ⟨p,2,none⟩ v')∧∀k,G' k→G k∨w.heap.size≤k):=fun v' w6 hg=>Cv H.out BW.out hg FY.out
   have IG:Hid (∀v' w6,Eb w5 (.slice (some ⟨g,0,none⟩) N c) R (.returned v') w6→w6.cell? ⟨p,2,none⟩=some (.slice (some ⟨g,0,none⟩) N c)∧w6.frozen? ⟨p,2,none⟩=false):=fun v' w6 hg=>by have:=Ba H.out BW.out hg;exact⟨this.cell 2,this.free 2⟩
   have lJ:p<w5.heap.size:=Jb.lt
   clear BB NJ Jb hR Ib
   go_wp2_with fail
   refine B0.out.mono ?_
   rintro e w6 hg
   obtain⟨v',rfl,EW,CE,Ds⟩:=id hg
   have HX:=Lib.hid (HC.out v' w6 hg)
   obtain⟨c6,f6⟩:=IG.out v' w6 hg
   obtain⟨A',c',rfl,_,_,_⟩:=AS EW
   clear hg EW CE Ds
   go_wp2
   go_end0
   obtain⟨G',h1,h2,h3⟩:=HX.out
   exact⟨G',rfl,h1,h2,h3⟩
 ·have gl:decide ((a:Int)<(f:Int))=false:=by simp;omega
  have gl2:decide (a<f)=false:=by simp;omega
  have HL:Hid (¬a<f):=hl
  have Bq:Hid (Below (w.heap.size+2) ((w.alloc (.cells #[.int .i64 f,.int .i64 n'] 80)).alloc (.cells #[.int .i64 a,.int .i64 b] 80)) ((w.alloc (.cells #[.int .i64 f,.int .i64 n'] 80)).alloc (.cells #[.int .i64 a,.int .i64 b] 80))):=Below.refl _ _
  have jN:Hid (((w.alloc (.cells #[.int .i64 f,.int .i64 n'] 80)).alloc (.cells #[.int .i64 a,.int .i64 b] 80)).ownsRow (w.heap.size+2) 80 2 (.slice none 0 0) 0 (AF [])):=World.ownsRow_nil _ _ _ _
  go_enter Tryz.func91,Tryz.ntmps91
  go_wp2
  generalize Q0:(w.alloc (.cells #[.int .i64 f,.int .i64 n'] 80)).alloc (.cells #[.int .i64 a,.int .i64 b] 80)=w3 at jN⊢
  have Bq:Hid (Below (w.heap.size+2) ((w.alloc (.cells #[.int .i64 f,.int .i64 n'] 80)).alloc (.cells #[.int .i64 a,.int .i64 b] 80)) w3):=Q0▸Bq.out
  clear Q0
  have Q6:Hid (Below w.heap.size w w3):=(((Below.refl w.heap.size w).alloc (Nat.le_refl _) _).alloc (by simp) _).trans (Bq.out.mono (by omega))
  by_cases Z5:u1<u2
  ·skip
   have gr:decide ((u1:Int)<(u2:Int))=true:=by simp;omega
   have yD:decide (u1<u2)=true:=by simp;omega
   obtain⟨t,ht⟩:∃t,u2-u1=t:=⟨_,rfl⟩
   have qE:(u2:Int)-(u1:Int)=(t:Int):=by omega
   have htw:IntKind.i64.wrap (t:Int)=(t:Int):=IntWalk.i64_in _ (by omega)
   have HT:=Lib.hid ht
   clear ht
   have HR:Hid (s.fr.take i++([]++[(u1,t)])++s.fr.drop (i+1)=R):=by
    unfold Hid;rw[gK.out];unfold IU;dsimp only;rw[if_neg HL.out,if_pos (by rw[HU.out];have:=OX.out;omega)];rw[HU.out,OX.out,HT.out]
   have NF:w.heap.size+2≤w3.heap.size:=by have:=Bq.out.size;simp at this;omega
   go_region_held3 (fun w'=>Below w3.heap.size w3 w'∧w'.cell? ⟨w.heap.size,0,none⟩=some (.int .i64 f)∧w'.cell? ⟨w.heap.size,1,none⟩=some (.int .i64 n')∧w'.cell? ⟨w.heap.size+1,0,none⟩=some (.int .i64 a)∧w'.cell? ⟨w.heap.size+1,1,none⟩=some (.int .i64 b))
    (first
     |(exact LU Bq.out (AG (Below.refl _ _) 1))
     |(exact LU Bq.out hacc))
    ((go_split_ands;go_at_call 96;(first|(with_reducible refine(cD.out _).mono ?_)|(with_reducible refine(L9.out _).mono ?_));rintro e w4 ⟨rfl,A9⟩;have hacc:Below w3.heap.size w3 w4:=Below.trans (by assumption) (Below.mono A9 (Below.size (by assumption)))))
   have Nx:=Lib.hid hacc
   clear hacc
   have p9:w4.ownsRow (w.heap.size+2) 80 2 (.slice none 0 0) 0 (AF []):=Ge jN.out Nx.out
   have Dz:Below (w.heap.size+2) ((w.alloc (.cells #[.int .i64 f,.int .i64 n'] 80)).alloc (.cells #[.int .i64 a,.int .i64 b] 80)) w4:=Bq.out.trans (Nx.out.mono NF)
   obtain⟨m0,m1,m2,m3⟩:=fu Dz
   have SE:w.heap.size+2≤w4.heap.size:=by have:=Dz.size;simp at this;omega
   have Vv:=Lib.hid Dz
   have yW:=Lib.hid p9
   clear Dz p9
   go_wp2
   go_region_held3 (fun w'=>Below (w.heap.size+2) ((w.alloc (.cells #[.int .i64 f,.int .i64 n'] 80)).alloc (.cells #[.int .i64 a,.int .i64 b] 80)) w'∧w'.ownsRow (w.heap.size+2) 80 2 (.slice none 0 0) 0 (AF [])∧w.heap.size+2≤w'.heap.size∧w'.cell? ⟨w.heap.size,0,none⟩=some (.int .i64 f)∧w'.cell? ⟨w.heap.size,1,none⟩=some (.int .i64 n')∧w'.cell? ⟨w.heap.size+1,0,none⟩=some (.int .i64 a)∧w'.cell? ⟨w.heap.size+1,1,none⟩=some (.int .i64 b))
    (first
     |(exact⟨AG Vv.out 1,yW.out,SE,m0,m1,m2,m3⟩)
     |(exact hacc)
     |(go_split_ands;exact RZ (by assumption) (by assumption) (by assumption) _)
     |(exact NS))
    (first
     |(go_split_ands;go_at_call 96;(first|(with_reducible refine(cD.out _).mono ?_)|(with_reducible refine(L9.out _).mono ?_));rintro e w5 ⟨rfl,A9⟩;have hacc:=Px (by assumption) (by assumption) (by assumption) A9)
     |(go_split_ands;refine GY rfl _ _ 81 rfl (w.heap.size+2) 80 i0 _ 2 16 Tryz.underlying81 Vt.out Cy hz Qv rfl (by decide) (.slice none 0 0) 0 (AF []) (by first|rfl|simp) (by assumption) _ 1 1 (AF [(u1,t)]) (by first|rfl|simp) rfl (ZX (by first|rfl|simp)) BF (by decide) (by decide) (by assumption) ?_;intro v5 w5 XE qv lV;have NS:=Yz (by assumption) (by assumption) (by assumption) lV qv))
   generalize xB:0+1=m5 at XE
   have xA:m5≤2:=by omega
   rw[←Ai]at XE
   obtain⟨B5,d5,rfl⟩:∃B5 d5,v5=.slice B5 m5 d5:=by
    obtain⟨B5,d5,h1,_⟩:=AS (D7 XE.out (Nat.zero_le _));exact⟨B5,d5,h1⟩
   have nA:Hid (w5.ownsRow 0 80 2 (.slice B5 m5 d5) m5 (AF ([]++[(u1,t)]))):=D7 XE.out (Nat.zero_le _)
   have Jv:Hid (∀k,(Value.slice B5 m5 d5).ownBlock=some k→w.heap.size≤k):=fun k hk=>by have:=(XE.out.lt k hk).1;omega
   have BW:Hid (Below w.heap.size w w5):=(((Below.refl w.heap.size w).alloc (Nat.le_refl _) _).alloc (by simp) _).trans (NS.1.mono (by omega))
   clear xB XE NS qv lV hacc m0 m1 m2 m3 SE
   have NJ:=Ao H.out.2.2.1 BW.out
   have Jb:Row w5 p 83 (Fp s (.slice (some ⟨g,0,none⟩) N c)):=H.out.2.1.below BW.out Dy
   have BB:=BD w5 (i:=i) (j:=i+1) NJ nA.out (fun k hk e=>by have h1:=(H.out.2.2.1.lt k hk).2;have h2:=Jv.out k e;omega) (by omega) (by have:=HN.out;omega) (by omega) (by have:=HN.out;omega)
   have hR:s.fr.take i++([]++[(u1,t)])++s.fr.drop (i+1)=R:=HR.out
   rw[hR]at BB
   have Ib:((i+1:Nat):Int)=(i:Int)+1:=by omega
   rw[Ib]at BB
   have B0:=Lib.hid BB
   have c5:w5.cell? ⟨p,2,none⟩=some (.slice (some ⟨g,0,none⟩) N c):=Jb.cell 2
   have HC:Hid (∀v' w6,Eb w5 (.slice (some ⟨g,0,none⟩) N c) R (.returned v') w6→∃G',EZ (w6.setCell ⟨p,2,none⟩ v') G' p {s with fr:=R}∧AK G w (w6.setCell ⟨p,2,none⟩ v')∧∀k,G' k→G k∨w.heap.size≤k):=fun v' w6 hg=>Cv H.out BW.out hg FY.out
   have IG:Hid (∀v' w6,Eb w5 (.slice (some ⟨g,0,none⟩) N c) R (.returned v') w6→w6.cell? ⟨p,2,none⟩=some (.slice (some ⟨g,0,none⟩) N c)∧w6.frozen? ⟨p,2,none⟩=false):=fun v' w6 hg=>by have:=Ba H.out BW.out hg;exact⟨this.cell 2,this.free 2⟩
   have lJ:p<w5.heap.size:=Jb.lt
   clear BB NJ Jb hR Ib
   go_wp2_with fail
   refine B0.out.mono ?_
   rintro e w6 hg
   obtain⟨v',rfl,EW,CE,Ds⟩:=id hg
   have HX:=Lib.hid (HC.out v' w6 hg)
   obtain⟨c6,f6⟩:=IG.out v' w6 hg
   obtain⟨A',c',rfl,_,_,_⟩:=AS EW
   clear hg EW CE Ds
   go_wp2
   go_end0
   obtain⟨G',h1,h2,h3⟩:=HX.out
   exact⟨G',rfl,h1,h2,h3⟩
  ·skip
   have gr:decide ((u1:Int)<(u2:Int))=false:=by simp;omega
   have yD:decide (u1<u2)=false:=by simp;omega
   have HR:Hid (s.fr.take i++([]++[])++s.fr.drop (i+1)=R):=by
    unfold Hid;rw[gK.out];unfold IU;dsimp only;rw[if_neg HL.out,if_neg (by rw[HU.out];have:=OX.out;omega)]
   have NF:w.heap.size+2≤w3.heap.size:=by have:=Bq.out.size;simp at this;omega
   go_region_held3 (fun w'=>Below w3.heap.size w3 w'∧w'.cell? ⟨w.heap.size,0,none⟩=some (.int .i64 f)∧w'.cell? ⟨w.heap.size,1,none⟩=some (.int .i64 n')∧w'.cell? ⟨w.heap.size+1,0,none⟩=some (.int .i64 a)∧w'.cell? ⟨w.heap.size+1,1,none⟩=some (.int .i64 b))
    (first
     |(exact LU Bq.out (AG (Below.refl _ _) 1))
     |(exact LU Bq.out hacc))
    ((go_split_ands;go_at_call 96;(first|(with_reducible refine(cD.out _).mono ?_)|(with_reducible refine(L9.out _).mono ?_));rintro e w4 ⟨rfl,A9⟩;have hacc:Below w3.heap.size w3 w4:=Below.trans (by assumption) (Below.mono A9 (Below.size (by assumption)))))
   have Nx:=Lib.hid hacc
   clear hacc
   have nA:Hid (w4.ownsRow 0 80 2 (.slice none 0 0) 0 (AF ([]++[]))):=by unfold Hid;rw[List.append_nil];exact D7 (Ge jN.out Nx.out) (Nat.zero_le _)
   have Jv:Hid (∀k,(Value.slice none 0 0).ownBlock=some k→w.heap.size≤k):=fun k hk=>by have:=(jN.out.lt k hk).1;omega
   have BW:Hid (Below w.heap.size w w4):=Q6.out.trans (Nx.out.mono (by omega))
   generalize w4=w5 at*
   have NJ:=Ao H.out.2.2.1 BW.out
   have Jb:Row w5 p 83 (Fp s (.slice (some ⟨g,0,none⟩) N c)):=H.out.2.1.below BW.out Dy
   have BB:=BD w5 (i:=i) (j:=i+1) NJ nA.out (fun k hk e=>by have h1:=(H.out.2.2.1.lt k hk).2;have h2:=Jv.out k e;omega) (by omega) (by have:=HN.out;omega) (by omega) (by have:=HN.out;omega)
   have hR:s.fr.take i++([]++[])++s.fr.drop (i+1)=R:=HR.out
   rw[hR]at BB
   have Ib:((i+1:Nat):Int)=(i:Int)+1:=by omega
   rw[Ib]at BB
   have B0:=Lib.hid BB
   have c5:w5.cell? ⟨p,2,none⟩=some (.slice (some ⟨g,0,none⟩) N c):=Jb.cell 2
   have HC:Hid (∀v' w6,Eb w5 (.slice (some ⟨g,0,none⟩) N c) R (.returned v') w6→∃G',EZ (w6.setCell ⟨p,2,none⟩ v') G' p {s with fr:=R}∧AK G w (w6.setCell ⟨p,2,none⟩ v')∧∀k,G' k→G k∨w.heap.size≤k):=fun v' w6 hg=>Cv H.out BW.out hg FY.out
   have IG:Hid (∀v' w6,Eb w5 (.slice (some ⟨g,0,none⟩) N c) R (.returned v') w6→w6.cell? ⟨p,2,none⟩=some (.slice (some ⟨g,0,none⟩) N c)∧w6.frozen? ⟨p,2,none⟩=false):=fun v' w6 hg=>by have:=Ba H.out BW.out hg;exact⟨this.cell 2,this.free 2⟩
   have lJ:p<w5.heap.size:=Jb.lt
   clear BB NJ Jb hR Ib
   go_wp2_with fail
   refine B0.out.mono ?_
   rintro e w6 hg
   obtain⟨v',rfl,EW,CE,Ds⟩:=id hg
   have HX:=Lib.hid (HC.out v' w6 hg)
   obtain⟨c6,f6⟩:=IG.out v' w6 hg
   obtain⟨A',c',rfl,_,_,_⟩:=AS EW
   clear hg EW CE Ds
   go_wp2
   go_end0
   obtain⟨G',h1,h2,h3⟩:=HX.out
   exact⟨G',rfl,h1,h2,h3⟩
def Next(w:World)(G:Nat→Prop)(p:Nat)(s:Sp)(w':World):Prop:=∃G',EZ w' G' p s∧AK G w w'∧∀k,G' k→G k∨w.heap.size≤k
theorem Next.AJ{w w':World}{G:Nat→Prop}{p:Nat}{s:Sp}(h:EZ w G p s)(hb:Below w.heap.size w w'):Next w G p s w':=⟨G,h.below hb,AK.AJ hb G,fun _ hk=>.inl hk⟩
theorem Next.behind{w w1 w':World}{G:Nat→Prop}{p:Nat}{s:Sp}(hb:Below w.heap.size w w1)(h:Next w1 G p s w'):Next w G p s w':=by
 obtain⟨G',h1,h2,h3⟩:=h
 exact⟨G',h1,(AK.AJ hb G).trans h2 fun b hb'=>.inl hb',fun k hk=>(h3 k hk).imp id fun h=>Nat.le_trans hb.size h⟩
def Cg(s:Sp)(n:Int):Sp×Nat×Nat:=
 if n<1 then (s,0,1)else if EY s.fr n.toNat<s.fr.length then ({s with fr:=Hj s.fr (EY s.fr n.toNat) (Ad s.fr (EY s.fr n.toNat)).1 n.toNat},(Ad s.fr (EY s.fr n.toNat)).1,0)else (s,0,5)
def IV(s:Sp)(f n:Int):Sp×Nat:=
 if n<1 then (s,1)else if DC s.fr f<s.fr.length∧((Ad s.fr (DC s.fr f)).1:Int)≤f∧n≤(((Ad s.fr (DC s.fr f)).1+(Ad s.fr (DC s.fr f)).2:Nat):Int)-f then ({s with fr:=Hj s.fr (DC s.fr f) f.toNat n.toNat},0)else (s,1)
def CO(s:Sp)(f n:Int):Sp×Nat:=
 if n<1∨¬((s.first:Int)≤f∧n≤((s.first+s.blocks:Nat):Int)-f)∨(A8 s.fr f.toNat<s.fr.length∧(Ad s.fr (A8 s.fr f.toNat)).1<f.toNat+n.toNat)then (s,1)else ({s with fr:=CZ s.fr (A8 s.fr f.toNat) f.toNat n.toNat},0)
theorem Yc(p:Nat)(s:Sp)(G:Nat→Prop)(n:Int)(w:World)(h:EZ w G p s)(hn:Ff n):
  Calls Tryz.prog 83 #[.pointer (some ⟨p,0,none⟩),.int .i64 n] w fun e w'=>e=.returned (.tuple #[.int .i64 ((Cg s n).2.1:Nat),.int .i64 ((Cg s n).2.2:Nat)])∧Next w G p (Cg s n).1 w':=by
 have hB:=(Below.refl w.heap.size w).alloc (Nat.le_refl _) (.cells #[.int .i64 n] 3)
 by_cases h1:n<1
 ·have g1:decide (n<1)=true:=by simpa using h1
  have HN:Hid (Next w G p (Cg s n).1 (w.alloc (.cells #[.int .i64 n] 3))):=by unfold Hid Cg;rw[if_pos h1];exact Next.AJ h hB
  have e:(Cg s n).2=(0,1):=by unfold Cg;rw[if_pos h1]
  rw[e]
  clear h hB h1 e
  go_enter Tryz.func83,Tryz.ntmps83
  go_wp2
  go_ret2
  exact⟨rfl,HN.out⟩
 ·have g1:decide (n<1)=false:=by simpa using h1
  obtain⟨m,rfl⟩:∃m:Nat,n=(m:Int):=⟨n.toNat,by omega⟩
  have hm:1≤m:=by omega
  have hsp:=h.below hB
  obtain⟨hok,v,hr,ho,hG⟩:=id hsp
  obtain⟨A,c,rfl,hnc,DP,_⟩:=AS ho
  have hlen:=hok.len
  have c2:(w.alloc (.cells #[.int .i64 (m:Int)] 3)).cell? ⟨p,2,none⟩=some (.slice A s.fr.length c):=hr.cell 2
  have k1:(w.alloc (.cells #[.int .i64 (m:Int)] 3)).cell? ⟨w.heap.size,0,none⟩=some (.int .i64 (m:Int)):=by
   have r1:Row (w.alloc (.cells #[.int .i64 (m:Int)] 3)) w.heap.size 3 [.int .i64 (m:Int)]:=heap_alloc_new _ _
   exact r1.cell 0
  have hidx:=Tw w.heap.size (m:Int) A s.fr.length c s.fr _ k1 ho rfl (by omega)
  have gJ:=Lib.hid hsp
  have HB:=Lib.hid hB
  have HO:=Lib.hid ho
  have kr:((m:Int)).toNat=m:=Int.toNat_natCast m
  have Dy:p<w.heap.size:=by obtain⟨_,v,hr,_⟩:=h;exact hr.lt
  obtain⟨N,hN⟩:∃N,N=s.fr.length:=⟨_,rfl⟩
  have HN:=Lib.hid hN
  have Jp:Cg s (m:Int)=if EY s.fr m<s.fr.length then ({s with fr:=Hj s.fr (EY s.fr m) (Ad s.fr (EY s.fr m)).1 m},(Ad s.fr (EY s.fr m)).1,0)else (s,0,5):=by unfold Cg;rw[if_neg h1,kr]
  by_cases ED:EY s.fr m<s.fr.length
  ·rw[if_pos ED]at Jp
   rw[Jp]
   dsimp only
   have hge:=Ji ED
   have hidx2:=hidx.mono (R':=fun e w'=>e=.returned (.int .i64 (EY s.fr m:Nat))∧Below (w.alloc (.cells #[.int .i64 (m:Int)] 3)).heap.size (w.alloc (.cells #[.int .i64 (m:Int)] 3)) w') (fun e w2 hh=>by
    rcases hh with⟨i,hi,T8,Bp,rfl,AX⟩|⟨hno,rfl,AX⟩
    ·have hfit:EY s.fr m=i:=Dn (by omega) (fun k hk=>by have:=T8 k hk;simp only[decide_eq_false_iff_not]at this⊢;omega) (fun _=>by simp only[decide_eq_true_eq]at Bp⊢;omega)
     rw[hfit];exact⟨rfl,AX⟩
    ·have h2:=hno _ ED
     simp only[decide_eq_true_eq,decide_eq_false_iff_not]at hge h2
     unfold EY at h2;omega)
   have xR:m≤(Ad s.fr (EY s.fr m)).2:=by unfold EY;simpa using hge
   generalize EY s.fr m=i at*
   obtain⟨a,ha⟩:∃a,(Ad s.fr i).1=a:=⟨_,rfl⟩
   have JO:Hid (∀W,Below (w.alloc (.cells #[.int .i64 (m:Int)] 3)).heap.size (w.alloc (.cells #[.int .i64 (m:Int)] 3)) W→∃g,A=some ⟨g,0,none⟩∧g<W.heap.size∧W.cell? ⟨g,i*2,none⟩=some (.int .i64 (a:Nat))):=fun W hb=>by
    obtain⟨g,h1,h2,h3,_⟩:=EA (Ao HO.out hb) ED
    rw[ha]at h3;exact⟨g,h1,h2,h3⟩
   have gZ:Hid (∀w2,Below (w.alloc (.cells #[.int .i64 (m:Int)] 3)).heap.size (w.alloc (.cells #[.int .i64 (m:Int)] 3)) w2→Calls Tryz.prog 91 #[.pointer (some ⟨p,0,none⟩),.int .i64 i,.agg #[.int .i64 a,.int .i64 m]] w2 fun e w'=>e=.returned (.tuple #[])∧Next w G p {s with fr:=Hj s.fr i a m} w'):=fun w2 AX=>
    (VX p s G i a m w2 (gJ.out.below AX) ED (by rw[ha];exact Nat.le_refl _) (by rw[ha];omega) hm).mono fun e w' ⟨G',h1,h2⟩=>⟨h1,Next.behind (HB.out.trans (AX.mono HB.out.size)) ⟨G',h2⟩⟩
   rw[ha]
   generalize Hj s.fr i a m=R at*
   rw[←hN]at c2 hlen hidx2 ED
   have cB:=Lib.hid hidx2
   have gi:decide ((i:Int)<0)=false:=by simp
   have vp:(0:Int)≤(i:Int):=by omega
   have vo:(i:Int)<(N:Int):=by omega
   clear hidx hidx2 hsp hok hr ho hG h h1 hB kr hN hge xR ha Jp ED
   go_enter Tryz.func83,Tryz.ntmps83
   go_wp2_with fail
   refine cB.out.mono ?_
   rintro e w2 ⟨rfl,AX⟩
   obtain⟨g,rfl,hg,Ht⟩:=JO.out w2 AX
   have hcut:=gZ.out w2 AX
   have IG:=Lib.hid hcut
   have Ve:=(AX.cell (p:=⟨p,2,none⟩) (by simp;omega)).trans c2
   have OM:=(AX.cell (p:=⟨w.heap.size,0,none⟩) (by simp)).trans k1
   clear hcut AX cB JO gZ c2 k1 HO gJ
   go_wp2_with fail
   refine IG.out.mono ?_
   rintro e w3 ⟨rfl,hx⟩
   have HX:=Lib.hid hx
   clear hx
   go_wp2
   go_ret2
   exact⟨rfl,HX.out⟩
  ·rw[if_neg ED]at Jp
   rw[Jp]
   dsimp only
   have hidx2:=hidx.mono (R':=fun e w'=>e=.returned (.int .i64 (-1))∧Next w G p s w') (fun e w2 hh=>by
    rcases hh with⟨i,hi,T8,Bp,rfl,AX⟩|⟨hno,rfl,AX⟩
    ·have hfit:EY s.fr m=i:=Dn (by omega) (fun k hk=>by have:=T8 k hk;simp only[decide_eq_false_iff_not]at this⊢;omega) (fun _=>by simp only[decide_eq_true_eq]at Bp⊢;omega)
     omega
    ·exact⟨rfl,Next.behind HB.out (Next.AJ gJ.out AX)⟩)
   rw[←hN]at c2 hlen hidx2
   have cB:=Lib.hid hidx2
   clear hidx hidx2 hsp hok hr ho hG h h1 hB kr hN Jp ED
   go_enter Tryz.func83,Tryz.ntmps83
   go_wp2_with fail
   refine cB.out.mono ?_
   rintro e w2 ⟨rfl,hx⟩
   have HX:=Lib.hid hx
   clear hx cB
   go_wp2
   go_ret2
   exact⟨rfl,HX.out⟩
theorem aF(p:Nat)(s:Sp)(G:Nat→Prop)(f n:Int)(w:World)(h:EZ w G p s)(hf:Ff f)(hn:Ff n):
  Calls Tryz.prog 70 #[.pointer (some ⟨p,0,none⟩),.int .i64 f,.int .i64 n] w fun e w'=>e=.returned (.int .i64 ((IV s f n).2:Nat))∧Next w G p (IV s f n).1 w':=by
 by_cases h1:n<1
 ·have g1:decide (n<1)=true:=by simpa using h1
  have HN:Hid (Next w G p (IV s f n).1 w):=by unfold Hid IV;rw[if_pos h1];exact Next.AJ h (Below.refl _ _)
  have e:(IV s f n).2=1:=by unfold IV;rw[if_pos h1]
  rw[e]
  clear h h1 e
  go_enter Tryz.func70,Tryz.ntmps70
  go_wp2
  go_ret
  exact⟨rfl,HN.out⟩
 have g1:decide (n<1)=false:=by simpa using h1
 obtain⟨hok,v,hr,ho,hG⟩:=id h
 obtain⟨A,c,rfl,hnc,DP,_⟩:=AS ho
 have hlen:=hok.len
 have c2:w.cell? ⟨p,2,none⟩=some (.slice A s.fr.length c):=hr.cell 2
 have Dy:=hr.lt
 have K0:=Ml p s G f w h
 have uJ:DC s.fr f≤s.fr.length:=List.findIdx_le_length
 have Jp:Hid (IV s f n=if DC s.fr f<s.fr.length∧((Ad s.fr (DC s.fr f)).1:Int)≤f∧n≤(((Ad s.fr (DC s.fr f)).1+(Ad s.fr (DC s.fr f)).2:Nat):Int)-f then ({s with fr:=Hj s.fr (DC s.fr f) f.toNat n.toNat},0)else (s,1)):=by unfold Hid IV;rw[if_neg h1]
 obtain⟨i,hi⟩:∃i,DC s.fr f=i:=⟨_,rfl⟩
 rw[hi]at K0 uJ Jp
 have Q7:=Lib.hid K0
 have H:=Lib.hid h
 have HO:=Lib.hid ho
 have FY:=Lib.hid hok
 obtain⟨N,hN⟩:∃N,N=s.fr.length:=⟨_,rfl⟩
 rw[←hN]at c2 hlen uJ
 have HN:=Lib.hid hN
 clear K0 h hok hr ho hG hi hN
 by_cases hlt:i<N
 ·have g2:((i:Int)==(N:Int))=false:=by simp;omega
  have g3:decide ((i:Int)=(N:Int))=false:=by simp;omega
  have vp:(0:Int)≤(i:Int):=by omega
  have vo:(i:Int)<(N:Int):=by omega
  have OS:=FY.out.2.2.getD (i:=i) (by rw[←HN.out];exact hlt)
  have rM:(Ad s.fr i).1+(Ad s.fr i).2≤2000000:=by have:=FY.out.1;have:=FY.out.2.1;omega
  obtain⟨a,ha⟩:∃a,(Ad s.fr i).1=a:=⟨_,rfl⟩
  obtain⟨b,hb⟩:∃b,(Ad s.fr i).2=b:=⟨_,rfl⟩
  obtain⟨g,rfl,hg,Ht,Gx⟩:=EA HO.out (i:=i) (by rw[←HN.out];exact hlt)
  have aL:=fun W=>O5 a b f n W (by omega) hf
  have HH:=Lib.hid aL
  have aW:=Jp.out
  rw[ha,hb]at aW
  rw[ha]at Ht
  rw[hb]at Gx
  have HA:=Lib.hid ha
  have HB:=Lib.hid hb
  by_cases hx:(a:Int)≤f∧n≤((a+b:Nat):Int)-f
  ·rw[if_pos ⟨by rw[←HN.out];exact hlt,hx⟩]at aW
   rw[aW]
   dsimp only
   obtain⟨f',rfl⟩:∃f':Nat,f=(f':Int):=⟨f.toNat,by omega⟩
   obtain⟨n',rfl⟩:∃n':Nat,n=(n':Int):=⟨n.toNat,by omega⟩
   simp only[Int.toNat_natCast]
   have aK:(decide ((a:Int)≤(f':Int))&&decide ((n':Int)≤((a+b:Nat):Int)-(f':Int)))=true:=by simp only[Bool.and_eq_true,decide_eq_true_eq];exact hx
   have YH:=Lib.hid aK
   have gZ:Hid (∀w2,Below w.heap.size w w2→Calls Tryz.prog 91 #[.pointer (some ⟨p,0,none⟩),.int .i64 i,.agg #[.int .i64 (f':Int),.int .i64 (n':Int)]] w2 fun e w'=>e=.returned (.tuple #[])∧Next w G p {s with fr:=Hj s.fr i f' n'} w'):=fun w2 AX=>
    (VX p s G i f' n' w2 (H.out.below AX) (by rw[←HN.out];exact hlt) (by rw[HA.out];omega) (by rw[HA.out,HB.out];omega) (by omega)).mono fun e w' ⟨G',h1,h2⟩=>⟨h1,Next.behind AX ⟨G',h2⟩⟩
   generalize Hj s.fr i f' n'=R at*
   clear aW hx aK aL ha hb OS rM Jp HO FY
   go_enter Tryz.func70,Tryz.ntmps70
   go_wp2_with fail
   refine Q7.out.mono ?_
   rintro e w2 ⟨rfl,AX⟩
   have Ve:=(AX.cell (p:=⟨p,2,none⟩) Dy).trans c2
   have d0:=(AX.cell (p:=⟨g,i*2,none⟩) hg).trans Ht
   have d1:=(AX.cell (p:=⟨g,i*2+1,none⟩) hg).trans Gx
   have Cd:=Lib.hid AX
   clear AX
   go_wp2_with fail
   refine(HH.out _).mono ?_
   rintro e w3 ⟨rfl,A9⟩
   rw[YH.out]
   have Bq:=Lib.hid (Cd.out.trans (A9.mono Cd.out.size))
   clear A9 Ve d0 d1
   go_wp2_with fail
   refine(gZ.out _ Bq.out).mono ?_
   rintro e w4 ⟨rfl,hx⟩
   have HX:=Lib.hid hx
   clear hx
   go_wp2
   go_ret
   exact⟨rfl,HX.out⟩
  ·rw[if_neg (fun hh=>hx hh.2)]at aW
   rw[aW]
   dsimp only
   have aK:(decide ((a:Int)≤f)&&decide (n≤((a+b:Nat):Int)-f))=false:=by
    cases hq:(decide ((a:Int)≤f)&&decide (n≤((a+b:Nat):Int)-f))with
    |false=>rfl
    |true=>simp only[Bool.and_eq_true,decide_eq_true_eq]at hq;exact absurd hq hx
   have YH:=Lib.hid aK
   clear aW hx aK aL ha hb OS rM Jp HO FY
   go_enter Tryz.func70,Tryz.ntmps70
   go_wp2_with fail
   refine Q7.out.mono ?_
   rintro e w2 ⟨rfl,AX⟩
   have Ve:=(AX.cell (p:=⟨p,2,none⟩) Dy).trans c2
   have d0:=(AX.cell (p:=⟨g,i*2,none⟩) hg).trans Ht
   have d1:=(AX.cell (p:=⟨g,i*2+1,none⟩) hg).trans Gx
   have Cd:=Lib.hid AX
   clear AX
   go_wp2_with fail
   refine(HH.out _).mono ?_
   rintro e w3 ⟨rfl,A9⟩
   rw[YH.out]
   have HX:Hid (Next w G p s w3):=Next.AJ H.out (Cd.out.trans (A9.mono Cd.out.size))
   clear A9 Ve d0 d1
   go_wp2
   go_ret
   exact⟨rfl,HX.out⟩
 ·obtain rfl:i=N:=by omega
  have aW:=Jp.out
  rw[if_neg (fun hh=>by have:=hh.1;rw[←HN.out]at this;omega)]at aW
  rw[aW]
  dsimp only
  clear aW Jp HO FY hlt
  go_enter Tryz.func70,Tryz.ntmps70
  go_wp2_with fail
  refine Q7.out.mono ?_
  rintro e w2 ⟨rfl,AX⟩
  have Ve:=(AX.cell (p:=⟨p,2,none⟩) Dy).trans c2
  have HX:Hid (Next w G p s w2):=Next.AJ H.out AX
  clear AX
  go_wp2
  go_ret
  exact⟨rfl,HX.out⟩
section
variable {l : List Ex} {i f n : Nat}
theorem Mg(h0:0<i)(h:(Ad l (i-1)).1+(Ad l (i-1)).2=f):GC l i f=true:=by simp[GC,h0,h]
theorem GU(h:0<i→(Ad l (i-1)).1+(Ad l (i-1)).2≠f):GC l i f=false:=by
 unfold GC
 by_cases h0:0<i
 ·simp[h0,h h0]
 ·simp[h0]
theorem Mf(h0:i<l.length)(h:(Ad l i).1=f):CJ l i f=true:=by simp[CJ,h0,h]
theorem GS(h:i<l.length→(Ad l i).1≠f):CJ l i f=false:=by
 unfold CJ
 by_cases h0:i<l.length
 ·simp[h0,h h0]
 ·simp[h0]
end
theorem ef(p:Nat)(s:Sp)(G:Nat→Prop)(i f n':Nat)(w:World)(h:EZ w G p s)(hi:i=A8 s.fr f)(h1:s.first≤f)(h2:f+n'≤s.first+s.blocks)(hn:1≤n')(hno:∀b,f≤b→b<f+n'→¬hasB s.fr b)(Jc:¬0<i):
  Calls Tryz.prog 97 #[.pointer (some ⟨p,0,none⟩),.int .i64 i,.agg #[.int .i64 f,.int .i64 n']] w fun e w'=>∃G',e=.returned (.tuple #[])∧EZ w' G' p {s with fr:=CZ s.fr i f n'}∧AK G w w'∧∀k,G' k→G k∨w.heap.size≤k:=by
 obtain⟨hok,v,hr,ho,hG⟩:=h
 have Fv:=Iy hok.2.2 hn h1 h2 hno
 rw[←hi]at Fv
 have qu:i≤s.fr.length:=by rw[hi];exact List.findIdx_le_length
 clear hi hno
 have Lx:s.first+s.blocks≤2000000:=by have:=hok.1;have:=hok.2.1;omega
 have NN:∀k,k<s.fr.length→(Ad s.fr k).1+(Ad s.fr k).2≤2000000:=fun k hk=>by have:=hok.2.2.getD hk;omega
 obtain⟨A,c,rfl,hnc,DP,_⟩:=AS ho
 have hlen:=hok.len
 have c2:w.cell? ⟨p,2,none⟩=some (.slice A s.fr.length c):=hr.cell 2
 have Dy:=hr.lt
 have OQ:=hok
 have Bp:∀k,k<s.fr.length→∃g,A=some ⟨g,0,none⟩∧g<w.heap.size∧w.cell? ⟨g,k*2,none⟩=some (.int .i64 (Ad s.fr k).1)∧w.cell? ⟨g,k*2+1,none⟩=some (.int .i64 (Ad s.fr k).2):=fun k hk=>EA ho hk
 have JO:=Lib.hid Bp
 obtain⟨N,hN⟩:∃N,N=s.fr.length:=⟨_,rfl⟩
 have H0:jK w G p s (.slice A N c):=by subst hN;exact⟨hok,hr,ho,hG⟩
 obtain⟨R,hR⟩:∃R,R=CZ s.fr i f n':=⟨_,rfl⟩
 have FY:Hid (({s with fr:=R}:Sp).ok):=by rw[hR];exact⟨hok.1,hok.2.1,Fv.1⟩
 rw[←hR]
 have HR:=Lib.hid hR
 have H:=Lib.hid H0
 have HN:Hid (s.fr.length=N):=hN.symm
 have Un:=Lib.hid NN
 rw[←hN]at c2 hlen qu
 have L0:f+n'≤2000000:=by omega
 have GO:Hid (Below w.heap.size w (w.alloc (.cells #[.int .i64 f,.int .i64 n'] 80))):=(Below.refl _ _).alloc (Nat.le_refl _) _
 clear Fv hok hr ho hG Bp H0 hN hR Lx NN OQ h1 h2
 have lg:decide ((0:Int)<(i:Int))=false:=by simp;omega
 have lg1:decide ((i:Int)>0)=false:=by simp;omega
 have lg2:decide (0<i)=false:=by simp;omega
 have Qp:Hid (0<i→(Ad s.fr (i-1)).1+(Ad s.fr (i-1)).2≠f):=fun hh=>absurd hh Jc
 have gT:Hid (f+n'=f+n'):=rfl
 go_enter Tryz.func97,Tryz.ntmps97
 go_wp2
 go_quiet (fail)
 have Cn:Row ((w.alloc (.cells #[.int .i64 f,.int .i64 n'] 80)).drewN nq) w.heap.size 80 [.int .i64 f,.int .i64 n']:=heap_alloc_new _ _
 have Kb:Hid (Below w.heap.size w ((w.alloc (.cells #[.int .i64 f,.int .i64 n'] 80)).drewN nq)):=AG GO.out nq
 generalize(w.alloc (.cells #[.int .i64 f,.int .i64 n'] 80)).drewN nq=wp at*
 go_wp2
 by_cases Z8:i<N
 ·obtain⟨g2,OC,CE,VS,IF⟩:=JO.out (i) (by rw[HN.out];exact Z8)
  have NO:=Un.out (i) (by rw[HN.out];exact Z8)
  subst OC
  obtain⟨a2,KS⟩:∃a2,(Ad s.fr (i)).1=a2:=⟨_,rfl⟩
  obtain⟨b2,AX⟩:∃b2,(Ad s.fr (i)).2=b2:=⟨_,rfl⟩
  rw[KS]at VS
  rw[AX]at IF
  rw[KS,AX]at NO
  have Vw:=Lib.hid KS
  have Ny:=Lib.hid AX
  obtain⟨u2,N4⟩:∃u2,f+n'=u2:=⟨_,rfl⟩
  have L9:Hid (∀W,Calls Tryz.prog 96 #[.agg #[.int .i64 f,.int .i64 n']] W fun e w'=>e=.returned (.int .i64 (u2:Nat))∧Below W.heap.size W w'):=fun W=>by have:=EF (f) (n') W (by omega);rwa [N4]at this
  have OX:=Lib.hid N4
  have Lb:wp.cell? ⟨p,2,none⟩=some (.slice (some ⟨g2,0,none⟩) N c):=(H.out.2.1.below Kb.out Dy).cell 2
  have PX:wp.cell? ⟨w.heap.size,0,none⟩=some (.int .i64 f):=Cn.cell 0
  have Nl:wp.cell? ⟨w.heap.size,1,none⟩=some (.int .i64 n'):=Cn.cell 1
  have Nd:=(Kb.out.cell (p:=⟨g2,(i)*2,none⟩) CE).trans VS
  have Nc:=(Kb.out.cell (p:=⟨g2,(i)*2+1,none⟩) CE).trans IF
  have Dl:w.heap.size<wp.heap.size:=Cn.lt
  have Gg:p<wp.heap.size:=by omega
  have EK:g2<wp.heap.size:=by omega
  have g7:((i:Int):Int)<(N:Int):=by omega
  have hU:(0:Int)≤((i:Int):Int):=by omega
  have rg:decide (((i:Int):Int)<(N:Int))=true:=by simp;omega
  have ZE:decide (i<N)=true:=by simp;omega
  clear N4 KS AX
  by_cases EC:a2=u2
  ·have rt:decide (a2=u2)=true:=by simp;omega
   have Y5:(a2==u2)=true:=by simp;omega
   have Y3:((a2:Int)==(u2:Int))=true:=by simp;omega
   obtain⟨n2,QS⟩:∃n2,n2=n'+b2:=⟨_,rfl⟩
   have NR:(n':Int)+(b2:Int)=(n2:Int):=by omega
   have EV:IntKind.i64.wrap (n2:Int)=(n2:Int):=IntWalk.i64_in _ (by omega)
   have hwi:IntKind.i64.wrap (((i:Int):Int)+1)=((i:Int):Int)+1:=IntWalk.i64_in _ (by omega)
   have Nr:Hid (CJ s.fr (i) (f+n')=true):=Mf (by rw[HN.out];exact Z8) (by rw[Vw.out];have:=OX.out;have:=gT.out;omega)
   have gO:=Lib.hid QS
   clear QS
   go_region_held3 (fun w'=>Below wp.heap.size wp w'∧w'.cell? ⟨p,2,none⟩=some (.slice (some ⟨g2,0,none⟩) N c)∧w'.cell? ⟨w.heap.size,0,none⟩=some (.int .i64 f)∧w'.cell? ⟨w.heap.size,1,none⟩=some (.int .i64 n')∧w'.cell? ⟨g2,(i)*2,none⟩=some (.int .i64 a2)∧w'.cell? ⟨g2,(i)*2+1,none⟩=some (.int .i64 b2))
    (first
     |(exact⟨AG (Below.refl _ _) 1,Lb,PX,Nl,Nd,Nc⟩)
     |(exact⟨hacc,(hacc.cell Gg).trans Lb,(hacc.cell Dl).trans PX,(hacc.cell Dl).trans Nl,(hacc.cell EK).trans Nd,(hacc.cell EK).trans Nc⟩))
    ((go_split_ands;go_at_call 96;(with_reducible refine(L9.out _).mono ?_);rintro e RD ⟨rfl,A9⟩;have hacc:Below wp.heap.size wp RD:=Below.trans (by assumption) (Below.mono A9 (Below.size (by assumption)))))
   have EL:=Cn.below hacc Dl
   have Kc:=Lib.hid (Kb.out.trans (hacc.mono Kb.out.size))
   have Gt:=Lib.hid hacc
   clear hacc
   have mb:=(Gt.out.cell (p:=⟨p,2,none⟩) Gg).trans Lb
   have mX:=(Gt.out.cell (p:=⟨g2,(i)*2,none⟩) EK).trans Nd
   have mW:=(Gt.out.cell (p:=⟨g2,(i)*2+1,none⟩) EK).trans Nc
   have mc:=(Gt.out.cell (p:=⟨w.heap.size,1,none⟩) Dl).trans Nl
   have mU:=EL.free 1
   generalize RD=TJ at*
   go_wp2
   go_region
   have Co:Row (TJ.setCell ⟨w.heap.size,1,none⟩ (.int .i64 n2)).drew w.heap.size 80 [.int .i64 f,.int .i64 n2]:=(EL.set 1 (.int .i64 n2)).drewN 1
   have Ip:Hid (Below w.heap.size w (TJ.setCell ⟨w.heap.size,1,none⟩ (.int .i64 n2)).drew):=AG (Kc.out.setCell (p:=⟨w.heap.size,1,none⟩) (Nat.le_refl _) _) 1
   clear mb mX mW mc mU Gt Kc EL
   generalize(TJ.setCell ⟨w.heap.size,1,none⟩ (.int .i64 n2)).drew=wq at*
   go_wp2
   have MT:Hid (s.fr.take (i)++[(f,n2)]++s.fr.drop (i+1)=R):=by
    unfold Hid;rw[HR.out];unfold CZ;rw[GU Qp.out,Nr.out]
    dsimp only;rw[gO.out,Ny.out]
   have hsz:w.heap.size<wq.heap.size:=Co.lt
   have c5:wq.cell? ⟨p,2,none⟩=some (.slice (some ⟨g2,0,none⟩) N c):=(H.out.2.1.below Ip.out Dy).cell 2
   have b0:wq.cell? ⟨w.heap.size,0,none⟩=some (.int .i64 f):=Co.cell 0
   have b1:wq.cell? ⟨w.heap.size,1,none⟩=some (.int .i64 n2):=Co.cell 1
   have SG:p<wq.heap.size:=by omega
   have BW:∀W,W=wq.drew.alloc (.cells #[.int .i64 f,.int .i64 n2] 80)→Hid (Below w.heap.size w W):=fun W e=>by subst e;exact(AG Ip.out 1).alloc (by have:=Ip.out.size;exact this) _
   have B0:∀W,W=wq.drew.alloc (.cells #[.int .i64 f,.int .i64 n2] 80)→Hid (Calls Tryz.prog 110 #[.slice (some ⟨g2,0,none⟩) N c,.int .i64 ((i:Int)),.int .i64 ((i:Int)+1),.slice (some ⟨wq.heap.size,0,none⟩) 1 1] W (Eb W (.slice (some ⟨g2,0,none⟩) N c) R)):=fun W e=>by
    have JF:=Ao H.out.2.2.1 (BW W e).out
    rw[HN.out]at JF
    have Eo:CB W wq.heap.size 1 1 [(f,n2)] [.int .i64 f,.int .i64 n2]:=⟨by subst e;exact heap_alloc_new wq.drew _,rfl,Nat.le_refl _,by omega,rfl,rfl⟩
    have BB:=BD W (i:=i) (j:=i+1) JF Eo.own (fun k hk e2=>by have h1:=(H.out.2.2.1.lt k hk).2;(have e3:wq.heap.size=k:=by simpa [Value.ownBlock]using e2);omega) (by omega) (by omega) (by omega) (by omega)
    rw[MT.out]at BB
    have CF:((i:Nat):Int)=(i:Int):=by omega
    have Cr:((i+1:Nat):Int)=(i:Int)+1:=by omega
    first|rw[CF,Cr]at BB|rw[CF]at BB
    exact BB
   have B0:=B0 _ rfl
   have BW:=BW _ rfl
   have HC:Hid (∀v' w6,Eb (wq.drew.alloc (.cells #[.int .i64 f,.int .i64 n2] 80)) (.slice (some ⟨g2,0,none⟩) N c) R (.returned v') w6→∃G',EZ (w6.setCell ⟨p,2,none⟩ v') G' p {s with fr:=R}∧AK G w (w6.setCell ⟨p,2,none⟩ v')∧∀k,G' k→G k∨w.heap.size≤k):=fun v' w6 hg=>Cv H.out BW.out hg FY.out
   clear Nr rt Y5 Y3 hU g7 rg ZE Lb PX Nl Gg EK Dl Nd Nc VS IF L9 OX Vw Ny NO CE
   have IG:Hid (∀v' w6,Eb (wq.drew.alloc (.cells #[.int .i64 f,.int .i64 n2] 80)) (.slice (some ⟨g2,0,none⟩) N c) R (.returned v') w6→w6.cell? ⟨p,2,none⟩=some (.slice (some ⟨g2,0,none⟩) N c)∧w6.frozen? ⟨p,2,none⟩=false):=fun v' w6 hg=>by have:=Ba H.out BW.out hg;exact⟨this.cell 2,this.free 2⟩
   go_wp2
   go_region_with (go_at_call 110;refine B0.out.mono ?_;rintro e w6 hg;obtain⟨v',rfl,EW,CE,Ds⟩:=id hg;have HX:=Lib.hid (HC.out v' w6 hg);obtain⟨c6,f6⟩:=IG.out v' w6 hg;obtain⟨A',c',rfl,_,_,_⟩:=AS EW;clear hg EW CE Ds)
   all_goals(go_wp2;go_end0;obtain⟨G',h1,h2,h3⟩:=HX.out;exact⟨G',rfl,h1,h2,h3⟩)
  ·have rt:decide (a2=u2)=false:=by simp;omega
   have Y5:(a2==u2)=false:=by simp;omega
   have Y3:((a2:Int)==(u2:Int))=false:=by simp;omega
   have Nr:Hid (CJ s.fr (i) (f+n')=false):=GS fun _=>by rw[Vw.out];have:=OX.out;have:=gT.out;omega
   go_wp2
   go_region_held3 (fun w'=>Below wp.heap.size wp w'∧w'.cell? ⟨p,2,none⟩=some (.slice (some ⟨g2,0,none⟩) N c)∧w'.cell? ⟨w.heap.size,0,none⟩=some (.int .i64 f)∧w'.cell? ⟨w.heap.size,1,none⟩=some (.int .i64 n')∧w'.cell? ⟨g2,(i)*2,none⟩=some (.int .i64 a2)∧w'.cell? ⟨g2,(i)*2+1,none⟩=some (.int .i64 b2))
    (first
     |(exact⟨AG (Below.refl _ _) 1,Lb,PX,Nl,Nd,Nc⟩)
     |(exact⟨hacc,(hacc.cell Gg).trans Lb,(hacc.cell Dl).trans PX,(hacc.cell Dl).trans Nl,(hacc.cell EK).trans Nd,(hacc.cell EK).trans Nc⟩))
    ((go_split_ands;go_at_call 96;(with_reducible refine(L9.out _).mono ?_);rintro e RD ⟨rfl,A9⟩;have hacc:Below wp.heap.size wp RD:=Below.trans (by assumption) (Below.mono A9 (Below.size (by assumption)))))
   have EL:=Cn.below hacc Dl
   have Kc:=Lib.hid (Kb.out.trans (hacc.mono Kb.out.size))
   have Gt:=Lib.hid hacc
   clear hacc
   generalize RD=wq at*
   have Ip:=Kc
   have Co:=EL
   go_wp2
   have MT:Hid (s.fr.take (i)++[(f,n')]++s.fr.drop (i)=R):=by
    unfold Hid;rw[HR.out];unfold CZ;rw[GU Qp.out,Nr.out]
   have hsz:w.heap.size<wq.heap.size:=Co.lt
   have c5:wq.cell? ⟨p,2,none⟩=some (.slice (some ⟨g2,0,none⟩) N c):=(H.out.2.1.below Ip.out Dy).cell 2
   have b0:wq.cell? ⟨w.heap.size,0,none⟩=some (.int .i64 f):=Co.cell 0
   have b1:wq.cell? ⟨w.heap.size,1,none⟩=some (.int .i64 n'):=Co.cell 1
   have SG:p<wq.heap.size:=by omega
   have BW:∀W,W=wq.drew.alloc (.cells #[.int .i64 f,.int .i64 n'] 80)→Hid (Below w.heap.size w W):=fun W e=>by subst e;exact(AG Ip.out 1).alloc (by have:=Ip.out.size;exact this) _
   have B0:∀W,W=wq.drew.alloc (.cells #[.int .i64 f,.int .i64 n'] 80)→Hid (Calls Tryz.prog 110 #[.slice (some ⟨g2,0,none⟩) N c,.int .i64 ((i:Int)),.int .i64 ((i:Int)),.slice (some ⟨wq.heap.size,0,none⟩) 1 1] W (Eb W (.slice (some ⟨g2,0,none⟩) N c) R)):=fun W e=>by
    have JF:=Ao H.out.2.2.1 (BW W e).out
    rw[HN.out]at JF
    have Eo:CB W wq.heap.size 1 1 [(f,n')] [.int .i64 f,.int .i64 n']:=⟨by subst e;exact heap_alloc_new wq.drew _,rfl,Nat.le_refl _,by omega,rfl,rfl⟩
    have BB:=BD W (i:=i) (j:=i) JF Eo.own (fun k hk e2=>by have h1:=(H.out.2.2.1.lt k hk).2;(have e3:wq.heap.size=k:=by simpa [Value.ownBlock]using e2);omega) (by omega) (by omega) (by omega) (by omega)
    rw[MT.out]at BB
    have CF:((i:Nat):Int)=(i:Int):=by omega
    have Cr:((i:Nat):Int)=(i:Int):=by omega
    first|rw[CF,Cr]at BB|rw[CF]at BB
    exact BB
   have B0:=B0 _ rfl
   have BW:=BW _ rfl
   have HC:Hid (∀v' w6,Eb (wq.drew.alloc (.cells #[.int .i64 f,.int .i64 n'] 80)) (.slice (some ⟨g2,0,none⟩) N c) R (.returned v') w6→∃G',EZ (w6.setCell ⟨p,2,none⟩ v') G' p {s with fr:=R}∧AK G w (w6.setCell ⟨p,2,none⟩ v')∧∀k,G' k→G k∨w.heap.size≤k):=fun v' w6 hg=>Cv H.out BW.out hg FY.out
   clear Nr rt Y5 Y3 hU g7 rg ZE Lb PX Nl Gg EK Dl Nd Nc VS IF L9 OX Vw Ny NO CE
   have IG:Hid (∀v' w6,Eb (wq.drew.alloc (.cells #[.int .i64 f,.int .i64 n'] 80)) (.slice (some ⟨g2,0,none⟩) N c) R (.returned v') w6→w6.cell? ⟨p,2,none⟩=some (.slice (some ⟨g2,0,none⟩) N c)∧w6.frozen? ⟨p,2,none⟩=false):=fun v' w6 hg=>by have:=Ba H.out BW.out hg;exact⟨this.cell 2,this.free 2⟩
   go_wp2
   go_region_with (go_at_call 110;refine B0.out.mono ?_;rintro e w6 hg;obtain⟨v',rfl,EW,CE,Ds⟩:=id hg;have HX:=Lib.hid (HC.out v' w6 hg);obtain⟨c6,f6⟩:=IG.out v' w6 hg;obtain⟨A',c',rfl,_,_,_⟩:=AS EW;clear hg EW CE Ds)
   all_goals(go_wp2;go_end0;obtain⟨G',h1,h2,h3⟩:=HX.out;exact⟨G',rfl,h1,h2,h3⟩)
 ·have rg:decide (((i:Int):Int)<(N:Int))=false:=by simp;omega
  have ZE:decide (i<N)=false:=by simp;omega
  have Nr:Hid (CJ s.fr (i) (f+n')=false):=GS fun hh=>by rw[HN.out]at hh;omega
  have Lb:wp.cell? ⟨p,2,none⟩=some (.slice A N c):=(H.out.2.1.below Kb.out Dy).cell 2
  have Gg:p<wp.heap.size:=by have:=Cn.lt;omega
  go_quiet (fail)
  have Co:=Cn.drewN nq
  have Ip:Hid (Below w.heap.size w (wp.drewN nq)):=AG Kb.out nq
  generalize wp.drewN nq=wq at*
  go_wp2
  have MT:Hid (s.fr.take (i)++[(f,n')]++s.fr.drop (i)=R):=by
   unfold Hid;rw[HR.out];unfold CZ;rw[GU Qp.out,Nr.out]
  have hsz:w.heap.size<wq.heap.size:=Co.lt
  have c5:wq.cell? ⟨p,2,none⟩=some (.slice A N c):=(H.out.2.1.below Ip.out Dy).cell 2
  have b0:wq.cell? ⟨w.heap.size,0,none⟩=some (.int .i64 f):=Co.cell 0
  have b1:wq.cell? ⟨w.heap.size,1,none⟩=some (.int .i64 n'):=Co.cell 1
  have SG:p<wq.heap.size:=by omega
  have BW:∀W,W=wq.drew.alloc (.cells #[.int .i64 f,.int .i64 n'] 80)→Hid (Below w.heap.size w W):=fun W e=>by subst e;exact(AG Ip.out 1).alloc (by have:=Ip.out.size;exact this) _
  have B0:∀W,W=wq.drew.alloc (.cells #[.int .i64 f,.int .i64 n'] 80)→Hid (Calls Tryz.prog 110 #[.slice A N c,.int .i64 ((i:Int)),.int .i64 ((i:Int)),.slice (some ⟨wq.heap.size,0,none⟩) 1 1] W (Eb W (.slice A N c) R)):=fun W e=>by
   have JF:=Ao H.out.2.2.1 (BW W e).out
   rw[HN.out]at JF
   have Eo:CB W wq.heap.size 1 1 [(f,n')] [.int .i64 f,.int .i64 n']:=⟨by subst e;exact heap_alloc_new wq.drew _,rfl,Nat.le_refl _,by omega,rfl,rfl⟩
   have BB:=BD W (i:=i) (j:=i) JF Eo.own (fun k hk e2=>by have h1:=(H.out.2.2.1.lt k hk).2;(have e3:wq.heap.size=k:=by simpa [Value.ownBlock]using e2);omega) (by omega) (by omega) (by omega) (by omega)
   rw[MT.out]at BB
   have CF:((i:Nat):Int)=(i:Int):=by omega
   have Cr:((i:Nat):Int)=(i:Int):=by omega
   first|rw[CF,Cr]at BB|rw[CF]at BB
   exact BB
  have B0:=B0 _ rfl
  have BW:=BW _ rfl
  have HC:Hid (∀v' w6,Eb (wq.drew.alloc (.cells #[.int .i64 f,.int .i64 n'] 80)) (.slice A N c) R (.returned v') w6→∃G',EZ (w6.setCell ⟨p,2,none⟩ v') G' p {s with fr:=R}∧AK G w (w6.setCell ⟨p,2,none⟩ v')∧∀k,G' k→G k∨w.heap.size≤k):=fun v' w6 hg=>Cv H.out BW.out hg FY.out
  have IG:Hid (∀v' w6,Eb (wq.drew.alloc (.cells #[.int .i64 f,.int .i64 n'] 80)) (.slice A N c) R (.returned v') w6→w6.cell? ⟨p,2,none⟩=some (.slice A N c)∧w6.frozen? ⟨p,2,none⟩=false):=fun v' w6 hg=>by have:=Ba H.out BW.out hg;exact⟨this.cell 2,this.free 2⟩
  go_wp2
  go_region_with (go_at_call 110;refine B0.out.mono ?_;rintro e w6 hg;obtain⟨v',rfl,EW,CE,Ds⟩:=id hg;have HX:=Lib.hid (HC.out v' w6 hg);obtain⟨c6,f6⟩:=IG.out v' w6 hg;obtain⟨A',c',rfl,_,_,_⟩:=AS EW;clear hg EW CE Ds)
  all_goals(go_wp2;go_end0;obtain⟨G',h1,h2,h3⟩:=HX.out;exact⟨G',rfl,h1,h2,h3⟩)
theorem ee(p:Nat)(s:Sp)(G:Nat→Prop)(i f n':Nat)(w:World)(h:EZ w G p s)(hi:i=A8 s.fr f)(h1:s.first≤f)(h2:f+n'≤s.first+s.blocks)(hn:1≤n')(hno:∀b,f≤b→b<f+n'→¬hasB s.fr b)(Jc:0<i)(T7:(Ad s.fr (i-1)).1+(Ad s.fr (i-1)).2≠f):
  Calls Tryz.prog 97 #[.pointer (some ⟨p,0,none⟩),.int .i64 i,.agg #[.int .i64 f,.int .i64 n']] w fun e w'=>∃G',e=.returned (.tuple #[])∧EZ w' G' p {s with fr:=CZ s.fr i f n'}∧AK G w w'∧∀k,G' k→G k∨w.heap.size≤k:=by
 obtain⟨hok,v,hr,ho,hG⟩:=h
 have Fv:=Iy hok.2.2 hn h1 h2 hno
 rw[←hi]at Fv
 have qu:i≤s.fr.length:=by rw[hi];exact List.findIdx_le_length
 clear hi hno
 have Lx:s.first+s.blocks≤2000000:=by have:=hok.1;have:=hok.2.1;omega
 have NN:∀k,k<s.fr.length→(Ad s.fr k).1+(Ad s.fr k).2≤2000000:=fun k hk=>by have:=hok.2.2.getD hk;omega
 obtain⟨A,c,rfl,hnc,DP,_⟩:=AS ho
 have hlen:=hok.len
 have c2:w.cell? ⟨p,2,none⟩=some (.slice A s.fr.length c):=hr.cell 2
 have Dy:=hr.lt
 have OQ:=hok
 have Bp:∀k,k<s.fr.length→∃g,A=some ⟨g,0,none⟩∧g<w.heap.size∧w.cell? ⟨g,k*2,none⟩=some (.int .i64 (Ad s.fr k).1)∧w.cell? ⟨g,k*2+1,none⟩=some (.int .i64 (Ad s.fr k).2):=fun k hk=>EA ho hk
 have JO:=Lib.hid Bp
 obtain⟨N,hN⟩:∃N,N=s.fr.length:=⟨_,rfl⟩
 have H0:jK w G p s (.slice A N c):=by subst hN;exact⟨hok,hr,ho,hG⟩
 obtain⟨R,hR⟩:∃R,R=CZ s.fr i f n':=⟨_,rfl⟩
 have FY:Hid (({s with fr:=R}:Sp).ok):=by rw[hR];exact⟨hok.1,hok.2.1,Fv.1⟩
 rw[←hR]
 have HR:=Lib.hid hR
 have H:=Lib.hid H0
 have HN:Hid (s.fr.length=N):=hN.symm
 have Un:=Lib.hid NN
 rw[←hN]at c2 hlen qu
 have L0:f+n'≤2000000:=by omega
 have GO:Hid (Below w.heap.size w (w.alloc (.cells #[.int .i64 f,.int .i64 n'] 80))):=(Below.refl _ _).alloc (Nat.le_refl _) _
 clear Fv hok hr ho hG Bp H0 hN hR Lx NN OQ h1 h2
 obtain⟨j,rfl⟩:∃j,i=j+1:=⟨i-1,by omega⟩
 obtain⟨g0,rfl,qz,kW,kV⟩:=JO.out j (by rw[HN.out];omega)
 have l8:=Un.out j (by rw[HN.out];omega)
 obtain⟨a0,ML⟩:∃a0,(Ad s.fr j).1=a0:=⟨_,rfl⟩
 obtain⟨b0,hb0⟩:∃b0,(Ad s.fr j).2=b0:=⟨_,rfl⟩
 rw[ML]at kW
 rw[hb0]at kV
 rw[ML,hb0]at l8
 have cH:=Lib.hid ML
 have Ss:=Lib.hid hb0
 obtain⟨u0,ko⟩:∃u0,a0+b0=u0:=⟨_,rfl⟩
 have nh:Hid (∀W,Calls Tryz.prog 96 #[.agg #[.int .i64 a0,.int .i64 b0]] W fun e w'=>e=.returned (.int .i64 (u0:Nat))∧Below W.heap.size W w'):=fun W=>by have:=EF a0 b0 W (by omega);rwa [ko]at this
 have gG:=Lib.hid ko
 have KP:Row (w.alloc (.cells #[.int .i64 f,.int .i64 n'] 80)) w.heap.size 80 [.int .i64 f,.int .i64 n']:=heap_alloc_new _ _
 have lj0:(0:Int)≤(j:Int):=by omega
 have lj1:(j:Int)<(N:Int):=by omega
 have lw1:IntKind.i64.wrap ((j:Int)+1-1)=(j:Int):=by rw[show (j:Int)+1-1=j by omega];exact IntWalk.i64_in _ (by omega)
 have lw2:IntKind.i64.wrap (j:Int)=(j:Int):=IntWalk.i64_in _ (by omega)
 clear ko ML hb0
 have hlt:¬u0=f:=by rw[Nat.add_sub_cancel,cH.out,Ss.out,gG.out]at T7;exact T7
 clear T7
 have vY:decide (u0=f)=false:=by simp;omega
 have vX:(u0==f)=false:=by simp;omega
 have vW:((u0:Int)==(f:Int))=false:=by simp;omega
 have Qp:Hid (0<j+1→(Ad s.fr (j+1-1)).1+(Ad s.fr (j+1-1)).2≠f):=fun _=>by rw[Nat.add_sub_cancel,cH.out,Ss.out,gG.out];exact hlt
 have gT:Hid (f+n'=f+n'):=rfl
 go_enter Tryz.func97,Tryz.ntmps97
 go_wp2
 generalize w.alloc (.cells #[.int .i64 f,.int .i64 n'] 80)=wb at*
 have Xw:=GO
 have jH:wb.cell? ⟨p,2,none⟩=some (.slice (some ⟨g0,0,none⟩) N c):=(H.out.2.1.below Xw.out Dy).cell 2
 have mg:wb.cell? ⟨w.heap.size,0,none⟩=some (.int .i64 f):=KP.cell 0
 have R3:=(Xw.out.cell (p:=⟨g0,j*2,none⟩) qz).trans kW
 have R2:=(Xw.out.cell (p:=⟨g0,j*2+1,none⟩) qz).trans kV
 have SC:w.heap.size<wb.heap.size:=KP.lt
 have XD:p<wb.heap.size:=by omega
 have QU:g0<wb.heap.size:=by omega
 go_region_held3 (fun w'=>Below wb.heap.size wb w'∧w'.cell? ⟨p,2,none⟩=some (.slice (some ⟨g0,0,none⟩) N c)∧w'.cell? ⟨w.heap.size,0,none⟩=some (.int .i64 f)∧w'.cell? ⟨g0,j*2,none⟩=some (.int .i64 a0)∧w'.cell? ⟨g0,j*2+1,none⟩=some (.int .i64 b0))
  (first
   |(exact⟨AG (Below.refl _ _) 1,jH,mg,R3,R2⟩)
   |(exact⟨hacc,(hacc.cell XD).trans jH,(hacc.cell SC).trans mg,(hacc.cell QU).trans R3,(hacc.cell QU).trans R2⟩))
  ((go_split_ands;go_at_call 96;(with_reducible refine(nh.out _).mono ?_);rintro e cy ⟨rfl,A9⟩;have hacc:Below wb.heap.size wb cy:=Below.trans (by assumption) (Below.mono A9 (Below.size (by assumption)))))
 have KQ:=KP.below hacc SC
 have cF:=Lib.hid (Xw.out.trans (hacc.mono Xw.out.size))
 have Pe:=Lib.hid hacc
 clear hacc
 generalize cy=wp at*
 have Cn:=KQ
 have Kb:=cF
 clear Pe KQ cF jH mg R3 R2 SC XD QU KP Xw GO vY vX vW nh gG cH Ss kW kV
 go_wp2
 by_cases Z8:(j+1)<N
 ·obtain⟨g2,OC,CE,VS,IF⟩:=JO.out ((j+1)) (by rw[HN.out];exact Z8)
  have NO:=Un.out ((j+1)) (by rw[HN.out];exact Z8)
  obtain rfl:g2=g0:=by injection OC with OC;injection OC with OC;exact OC.symm
  obtain⟨a2,KS⟩:∃a2,(Ad s.fr ((j+1))).1=a2:=⟨_,rfl⟩
  obtain⟨b2,AX⟩:∃b2,(Ad s.fr ((j+1))).2=b2:=⟨_,rfl⟩
  rw[KS]at VS
  rw[AX]at IF
  rw[KS,AX]at NO
  have Vw:=Lib.hid KS
  have Ny:=Lib.hid AX
  obtain⟨u2,N4⟩:∃u2,f+n'=u2:=⟨_,rfl⟩
  have L9:Hid (∀W,Calls Tryz.prog 96 #[.agg #[.int .i64 f,.int .i64 n']] W fun e w'=>e=.returned (.int .i64 (u2:Nat))∧Below W.heap.size W w'):=fun W=>by have:=EF (f) (n') W (by omega);rwa [N4]at this
  have OX:=Lib.hid N4
  have Lb:wp.cell? ⟨p,2,none⟩=some (.slice (some ⟨g2,0,none⟩) N c):=(H.out.2.1.below Kb.out Dy).cell 2
  have PX:wp.cell? ⟨w.heap.size,0,none⟩=some (.int .i64 f):=Cn.cell 0
  have Nl:wp.cell? ⟨w.heap.size,1,none⟩=some (.int .i64 n'):=Cn.cell 1
  have Nd:=(Kb.out.cell (p:=⟨g2,((j+1))*2,none⟩) CE).trans VS
  have Nc:=(Kb.out.cell (p:=⟨g2,((j+1))*2+1,none⟩) CE).trans IF
  have Dl:w.heap.size<wp.heap.size:=Cn.lt
  have Gg:p<wp.heap.size:=by omega
  have EK:g2<wp.heap.size:=by omega
  have g7:((j:Int)+1:Int)<(N:Int):=by omega
  have hU:(0:Int)≤((j:Int)+1:Int):=by omega
  have rg:decide (((j:Int)+1:Int)<(N:Int))=true:=by simp;omega
  have ZE:decide ((j+1)<N)=true:=by simp;omega
  clear N4 KS AX
  by_cases EC:a2=u2
  ·have rt:decide (a2=u2)=true:=by simp;omega
   have Y5:(a2==u2)=true:=by simp;omega
   have Y3:((a2:Int)==(u2:Int))=true:=by simp;omega
   obtain⟨n2,QS⟩:∃n2,n2=n'+b2:=⟨_,rfl⟩
   have NR:(n':Int)+(b2:Int)=(n2:Int):=by omega
   have EV:IntKind.i64.wrap (n2:Int)=(n2:Int):=IntWalk.i64_in _ (by omega)
   have hwi:IntKind.i64.wrap (((j:Int)+1:Int)+1)=((j:Int)+1:Int)+1:=IntWalk.i64_in _ (by omega)
   have Nr:Hid (CJ s.fr ((j+1)) (f+n')=true):=Mf (by rw[HN.out];exact Z8) (by rw[Vw.out];have:=OX.out;have:=gT.out;omega)
   have gO:=Lib.hid QS
   clear QS
   go_region_held3 (fun w'=>Below wp.heap.size wp w'∧w'.cell? ⟨p,2,none⟩=some (.slice (some ⟨g2,0,none⟩) N c)∧w'.cell? ⟨w.heap.size,0,none⟩=some (.int .i64 f)∧w'.cell? ⟨w.heap.size,1,none⟩=some (.int .i64 n')∧w'.cell? ⟨g2,((j+1))*2,none⟩=some (.int .i64 a2)∧w'.cell? ⟨g2,((j+1))*2+1,none⟩=some (.int .i64 b2))
    (first
     |(exact⟨AG (Below.refl _ _) 1,Lb,PX,Nl,Nd,Nc⟩)
     |(exact⟨hacc,(hacc.cell Gg).trans Lb,(hacc.cell Dl).trans PX,(hacc.cell Dl).trans Nl,(hacc.cell EK).trans Nd,(hacc.cell EK).trans Nc⟩))
    ((go_split_ands;go_at_call 96;(with_reducible refine(L9.out _).mono ?_);rintro e RD ⟨rfl,A9⟩;have hacc:Below wp.heap.size wp RD:=Below.trans (by assumption) (Below.mono A9 (Below.size (by assumption)))))
   have EL:=Cn.below hacc Dl
   have Kc:=Lib.hid (Kb.out.trans (hacc.mono Kb.out.size))
   have Gt:=Lib.hid hacc
   clear hacc
   have mb:=(Gt.out.cell (p:=⟨p,2,none⟩) Gg).trans Lb
   have mX:=(Gt.out.cell (p:=⟨g2,((j+1))*2,none⟩) EK).trans Nd
   have mW:=(Gt.out.cell (p:=⟨g2,((j+1))*2+1,none⟩) EK).trans Nc
   have mc:=(Gt.out.cell (p:=⟨w.heap.size,1,none⟩) Dl).trans Nl
   have mU:=EL.free 1
   generalize RD=TJ at*
   go_wp2
   go_region
   have Co:Row (TJ.setCell ⟨w.heap.size,1,none⟩ (.int .i64 n2)).drew w.heap.size 80 [.int .i64 f,.int .i64 n2]:=(EL.set 1 (.int .i64 n2)).drewN 1
   have Ip:Hid (Below w.heap.size w (TJ.setCell ⟨w.heap.size,1,none⟩ (.int .i64 n2)).drew):=AG (Kc.out.setCell (p:=⟨w.heap.size,1,none⟩) (Nat.le_refl _) _) 1
   clear mb mX mW mc mU Gt Kc EL
   generalize(TJ.setCell ⟨w.heap.size,1,none⟩ (.int .i64 n2)).drew=wq at*
   go_wp2
   have MT:Hid (s.fr.take ((j+1))++[(f,n2)]++s.fr.drop ((j+1)+1)=R):=by
    unfold Hid;rw[HR.out];unfold CZ;rw[GU Qp.out,Nr.out]
    dsimp only;rw[gO.out,Ny.out]
   have hsz:w.heap.size<wq.heap.size:=Co.lt
   have c5:wq.cell? ⟨p,2,none⟩=some (.slice (some ⟨g2,0,none⟩) N c):=(H.out.2.1.below Ip.out Dy).cell 2
   have b0:wq.cell? ⟨w.heap.size,0,none⟩=some (.int .i64 f):=Co.cell 0
   have b1:wq.cell? ⟨w.heap.size,1,none⟩=some (.int .i64 n2):=Co.cell 1
   have SG:p<wq.heap.size:=by omega
   have BW:∀W,W=wq.drew.alloc (.cells #[.int .i64 f,.int .i64 n2] 80)→Hid (Below w.heap.size w W):=fun W e=>by subst e;exact(AG Ip.out 1).alloc (by have:=Ip.out.size;exact this) _
   have B0:∀W,W=wq.drew.alloc (.cells #[.int .i64 f,.int .i64 n2] 80)→Hid (Calls Tryz.prog 110 #[.slice (some ⟨g2,0,none⟩) N c,.int .i64 ((j:Int)+1),.int .i64 ((j:Int)+1+1),.slice (some ⟨wq.heap.size,0,none⟩) 1 1] W (Eb W (.slice (some ⟨g2,0,none⟩) N c) R)):=fun W e=>by
    have JF:=Ao H.out.2.2.1 (BW W e).out
    rw[HN.out]at JF
    have Eo:CB W wq.heap.size 1 1 [(f,n2)] [.int .i64 f,.int .i64 n2]:=⟨by subst e;exact heap_alloc_new wq.drew _,rfl,Nat.le_refl _,by omega,rfl,rfl⟩
    have BB:=BD W (i:=(j+1)) (j:=(j+1)+1) JF Eo.own (fun k hk e2=>by have h1:=(H.out.2.2.1.lt k hk).2;(have e3:wq.heap.size=k:=by simpa [Value.ownBlock]using e2);omega) (by omega) (by omega) (by omega) (by omega)
    rw[MT.out]at BB
    have CF:(((j+1):Nat):Int)=(j:Int)+1:=by omega
    have Cr:(((j+1)+1:Nat):Int)=(j:Int)+1+1:=by omega
    first|rw[CF,Cr]at BB|rw[CF]at BB
    exact BB
   have B0:=B0 _ rfl
   have BW:=BW _ rfl
   have HC:Hid (∀v' w6,Eb (wq.drew.alloc (.cells #[.int .i64 f,.int .i64 n2] 80)) (.slice (some ⟨g2,0,none⟩) N c) R (.returned v') w6→∃G',EZ (w6.setCell ⟨p,2,none⟩ v') G' p {s with fr:=R}∧AK G w (w6.setCell ⟨p,2,none⟩ v')∧∀k,G' k→G k∨w.heap.size≤k):=fun v' w6 hg=>Cv H.out BW.out hg FY.out
   clear Nr rt Y5 Y3 hU g7 rg ZE Lb PX Nl Gg EK Dl Nd Nc VS IF L9 OX Vw Ny NO CE
   have IG:Hid (∀v' w6,Eb (wq.drew.alloc (.cells #[.int .i64 f,.int .i64 n2] 80)) (.slice (some ⟨g2,0,none⟩) N c) R (.returned v') w6→w6.cell? ⟨p,2,none⟩=some (.slice (some ⟨g2,0,none⟩) N c)∧w6.frozen? ⟨p,2,none⟩=false):=fun v' w6 hg=>by have:=Ba H.out BW.out hg;exact⟨this.cell 2,this.free 2⟩
   go_wp2
   go_region_with (go_at_call 110;refine B0.out.mono ?_;rintro e w6 hg;obtain⟨v',rfl,EW,CE,Ds⟩:=id hg;have HX:=Lib.hid (HC.out v' w6 hg);obtain⟨c6,f6⟩:=IG.out v' w6 hg;obtain⟨A',c',rfl,_,_,_⟩:=AS EW;clear hg EW CE Ds)
   all_goals(go_wp2;go_end0;obtain⟨G',h1,h2,h3⟩:=HX.out;exact⟨G',rfl,h1,h2,h3⟩)
  ·have rt:decide (a2=u2)=false:=by simp;omega
   have Y5:(a2==u2)=false:=by simp;omega
   have Y3:((a2:Int)==(u2:Int))=false:=by simp;omega
   have Nr:Hid (CJ s.fr ((j+1)) (f+n')=false):=GS fun _=>by rw[Vw.out];have:=OX.out;have:=gT.out;omega
   go_wp2
   go_region_held3 (fun w'=>Below wp.heap.size wp w'∧w'.cell? ⟨p,2,none⟩=some (.slice (some ⟨g2,0,none⟩) N c)∧w'.cell? ⟨w.heap.size,0,none⟩=some (.int .i64 f)∧w'.cell? ⟨w.heap.size,1,none⟩=some (.int .i64 n')∧w'.cell? ⟨g2,((j+1))*2,none⟩=some (.int .i64 a2)∧w'.cell? ⟨g2,((j+1))*2+1,none⟩=some (.int .i64 b2))
    (first
     |(exact⟨AG (Below.refl _ _) 1,Lb,PX,Nl,Nd,Nc⟩)
     |(exact⟨hacc,(hacc.cell Gg).trans Lb,(hacc.cell Dl).trans PX,(hacc.cell Dl).trans Nl,(hacc.cell EK).trans Nd,(hacc.cell EK).trans Nc⟩))
    ((go_split_ands;go_at_call 96;(with_reducible refine(L9.out _).mono ?_);rintro e RD ⟨rfl,A9⟩;have hacc:Below wp.heap.size wp RD:=Below.trans (by assumption) (Below.mono A9 (Below.size (by assumption)))))
   have EL:=Cn.below hacc Dl
   have Kc:=Lib.hid (Kb.out.trans (hacc.mono Kb.out.size))
   have Gt:=Lib.hid hacc
   clear hacc
   generalize RD=wq at*
   have Ip:=Kc
   have Co:=EL
   go_wp2
   have MT:Hid (s.fr.take ((j+1))++[(f,n')]++s.fr.drop ((j+1))=R):=by
    unfold Hid;rw[HR.out];unfold CZ;rw[GU Qp.out,Nr.out]
   have hsz:w.heap.size<wq.heap.size:=Co.lt
   have c5:wq.cell? ⟨p,2,none⟩=some (.slice (some ⟨g2,0,none⟩) N c):=(H.out.2.1.below Ip.out Dy).cell 2
   have b0:wq.cell? ⟨w.heap.size,0,none⟩=some (.int .i64 f):=Co.cell 0
   have b1:wq.cell? ⟨w.heap.size,1,none⟩=some (.int .i64 n'):=Co.cell 1
   have SG:p<wq.heap.size:=by omega
   have BW:∀W,W=wq.drew.alloc (.cells #[.int .i64 f,.int .i64 n'] 80)→Hid (Below w.heap.size w W):=fun W e=>by subst e;exact(AG Ip.out 1).alloc (by have:=Ip.out.size;exact this) _
   have B0:∀W,W=wq.drew.alloc (.cells #[.int .i64 f,.int .i64 n'] 80)→Hid (Calls Tryz.prog 110 #[.slice (some ⟨g2,0,none⟩) N c,.int .i64 ((j:Int)+1),.int .i64 ((j:Int)+1),.slice (some ⟨wq.heap.size,0,none⟩) 1 1] W (Eb W (.slice (some ⟨g2,0,none⟩) N c) R)):=fun W e=>by
    have JF:=Ao H.out.2.2.1 (BW W e).out
    rw[HN.out]at JF
    have Eo:CB W wq.heap.size 1 1 [(f,n')] [.int .i64 f,.int .i64 n']:=⟨by subst e;exact heap_alloc_new wq.drew _,rfl,Nat.le_refl _,by omega,rfl,rfl⟩
    have BB:=BD W (i:=(j+1)) (j:=(j+1)) JF Eo.own (fun k hk e2=>by have h1:=(H.out.2.2.1.lt k hk).2;(have e3:wq.heap.size=k:=by simpa [Value.ownBlock]using e2);omega) (by omega) (by omega) (by omega) (by omega)
    rw[MT.out]at BB
    have CF:(((j+1):Nat):Int)=(j:Int)+1:=by omega
    have Cr:(((j+1):Nat):Int)=(j:Int)+1:=by omega
    first|rw[CF,Cr]at BB|rw[CF]at BB
    exact BB
   have B0:=B0 _ rfl
   have BW:=BW _ rfl
   have HC:Hid (∀v' w6,Eb (wq.drew.alloc (.cells #[.int .i64 f,.int .i64 n'] 80)) (.slice (some ⟨g2,0,none⟩) N c) R (.returned v') w6→∃G',EZ (w6.setCell ⟨p,2,none⟩ v') G' p {s with fr:=R}∧AK G w (w6.setCell ⟨p,2,none⟩ v')∧∀k,G' k→G k∨w.heap.size≤k):=fun v' w6 hg=>Cv H.out BW.out hg FY.out
   clear Nr rt Y5 Y3 hU g7 rg ZE Lb PX Nl Gg EK Dl Nd Nc VS IF L9 OX Vw Ny NO CE
   have IG:Hid (∀v' w6,Eb (wq.drew.alloc (.cells #[.int .i64 f,.int .i64 n'] 80)) (.slice (some ⟨g2,0,none⟩) N c) R (.returned v') w6→w6.cell? ⟨p,2,none⟩=some (.slice (some ⟨g2,0,none⟩) N c)∧w6.frozen? ⟨p,2,none⟩=false):=fun v' w6 hg=>by have:=Ba H.out BW.out hg;exact⟨this.cell 2,this.free 2⟩
   go_wp2
   go_region_with (go_at_call 110;refine B0.out.mono ?_;rintro e w6 hg;obtain⟨v',rfl,EW,CE,Ds⟩:=id hg;have HX:=Lib.hid (HC.out v' w6 hg);obtain⟨c6,f6⟩:=IG.out v' w6 hg;obtain⟨A',c',rfl,_,_,_⟩:=AS EW;clear hg EW CE Ds)
   all_goals(go_wp2;go_end0;obtain⟨G',h1,h2,h3⟩:=HX.out;exact⟨G',rfl,h1,h2,h3⟩)
 ·have rg:decide (((j:Int)+1:Int)<(N:Int))=false:=by simp;omega
  have ZE:decide ((j+1)<N)=false:=by simp;omega
  have Nr:Hid (CJ s.fr ((j+1)) (f+n')=false):=GS fun hh=>by rw[HN.out]at hh;omega
  have Lb:wp.cell? ⟨p,2,none⟩=some (.slice (some ⟨g0,0,none⟩) N c):=(H.out.2.1.below Kb.out Dy).cell 2
  have Gg:p<wp.heap.size:=by have:=Cn.lt;omega
  go_quiet (fail)
  have Co:=Cn.drewN nq
  have Ip:Hid (Below w.heap.size w (wp.drewN nq)):=AG Kb.out nq
  generalize wp.drewN nq=wq at*
  go_wp2
  have MT:Hid (s.fr.take ((j+1))++[(f,n')]++s.fr.drop ((j+1))=R):=by
   unfold Hid;rw[HR.out];unfold CZ;rw[GU Qp.out,Nr.out]
  have hsz:w.heap.size<wq.heap.size:=Co.lt
  have c5:wq.cell? ⟨p,2,none⟩=some (.slice (some ⟨g0,0,none⟩) N c):=(H.out.2.1.below Ip.out Dy).cell 2
  have b0:wq.cell? ⟨w.heap.size,0,none⟩=some (.int .i64 f):=Co.cell 0
  have b1:wq.cell? ⟨w.heap.size,1,none⟩=some (.int .i64 n'):=Co.cell 1
  have SG:p<wq.heap.size:=by omega
  have BW:∀W,W=wq.drew.alloc (.cells #[.int .i64 f,.int .i64 n'] 80)→Hid (Below w.heap.size w W):=fun W e=>by subst e;exact(AG Ip.out 1).alloc (by have:=Ip.out.size;exact this) _
  have B0:∀W,W=wq.drew.alloc (.cells #[.int .i64 f,.int .i64 n'] 80)→Hid (Calls Tryz.prog 110 #[.slice (some ⟨g0,0,none⟩) N c,.int .i64 ((j:Int)+1),.int .i64 ((j:Int)+1),.slice (some ⟨wq.heap.size,0,none⟩) 1 1] W (Eb W (.slice (some ⟨g0,0,none⟩) N c) R)):=fun W e=>by
   have JF:=Ao H.out.2.2.1 (BW W e).out
   rw[HN.out]at JF
   have Eo:CB W wq.heap.size 1 1 [(f,n')] [.int .i64 f,.int .i64 n']:=⟨by subst e;exact heap_alloc_new wq.drew _,rfl,Nat.le_refl _,by omega,rfl,rfl⟩
   have BB:=BD W (i:=(j+1)) (j:=(j+1)) JF Eo.own (fun k hk e2=>by have h1:=(H.out.2.2.1.lt k hk).2;(have e3:wq.heap.size=k:=by simpa [Value.ownBlock]using e2);omega) (by omega) (by omega) (by omega) (by omega)
   rw[MT.out]at BB
   have CF:(((j+1):Nat):Int)=(j:Int)+1:=by omega
   have Cr:(((j+1):Nat):Int)=(j:Int)+1:=by omega
   first|rw[CF,Cr]at BB|rw[CF]at BB
   exact BB
  have B0:=B0 _ rfl
  have BW:=BW _ rfl
  have HC:Hid (∀v' w6,Eb (wq.drew.alloc (.cells #[.int .i64 f,.int .i64 n'] 80)) (.slice (some ⟨g0,0,none⟩) N c) R (.returned v') w6→∃G',EZ (w6.setCell ⟨p,2,none⟩ v') G' p {s with fr:=R}∧AK G w (w6.setCell ⟨p,2,none⟩ v')∧∀k,G' k→G k∨w.heap.size≤k):=fun v' w6 hg=>Cv H.out BW.out hg FY.out
  have IG:Hid (∀v' w6,Eb (wq.drew.alloc (.cells #[.int .i64 f,.int .i64 n'] 80)) (.slice (some ⟨g0,0,none⟩) N c) R (.returned v') w6→w6.cell? ⟨p,2,none⟩=some (.slice (some ⟨g0,0,none⟩) N c)∧w6.frozen? ⟨p,2,none⟩=false):=fun v' w6 hg=>by have:=Ba H.out BW.out hg;exact⟨this.cell 2,this.free 2⟩
  go_wp2
  go_region_with (go_at_call 110;refine B0.out.mono ?_;rintro e w6 hg;obtain⟨v',rfl,EW,CE,Ds⟩:=id hg;have HX:=Lib.hid (HC.out v' w6 hg);obtain⟨c6,f6⟩:=IG.out v' w6 hg;obtain⟨A',c',rfl,_,_,_⟩:=AS EW;clear hg EW CE Ds)
  all_goals(go_wp2;go_end0;obtain⟨G',h1,h2,h3⟩:=HX.out;exact⟨G',rfl,h1,h2,h3⟩)
theorem eZ(p:Nat)(s:Sp)(G:Nat→Prop)(i f n':Nat)(w:World)(h:EZ w G p s)(hi:i=A8 s.fr f)(h1:s.first≤f)(h2:f+n'≤s.first+s.blocks)(hn:1≤n')(hno:∀b,f≤b→b<f+n'→¬hasB s.fr b)(Jc:0<i)(T7:(Ad s.fr (i-1)).1+(Ad s.fr (i-1)).2=f):
  Calls Tryz.prog 97 #[.pointer (some ⟨p,0,none⟩),.int .i64 i,.agg #[.int .i64 f,.int .i64 n']] w fun e w'=>∃G',e=.returned (.tuple #[])∧EZ w' G' p {s with fr:=CZ s.fr i f n'}∧AK G w w'∧∀k,G' k→G k∨w.heap.size≤k:=by
 obtain⟨hok,v,hr,ho,hG⟩:=h
 have Fv:=Iy hok.2.2 hn h1 h2 hno
 rw[←hi]at Fv
 have qu:i≤s.fr.length:=by rw[hi];exact List.findIdx_le_length
 clear hi hno
 have Lx:s.first+s.blocks≤2000000:=by have:=hok.1;have:=hok.2.1;omega
 have NN:∀k,k<s.fr.length→(Ad s.fr k).1+(Ad s.fr k).2≤2000000:=fun k hk=>by have:=hok.2.2.getD hk;omega
 obtain⟨A,c,rfl,hnc,DP,_⟩:=AS ho
 have hlen:=hok.len
 have c2:w.cell? ⟨p,2,none⟩=some (.slice A s.fr.length c):=hr.cell 2
 have Dy:=hr.lt
 have OQ:=hok
 have Bp:∀k,k<s.fr.length→∃g,A=some ⟨g,0,none⟩∧g<w.heap.size∧w.cell? ⟨g,k*2,none⟩=some (.int .i64 (Ad s.fr k).1)∧w.cell? ⟨g,k*2+1,none⟩=some (.int .i64 (Ad s.fr k).2):=fun k hk=>EA ho hk
 have JO:=Lib.hid Bp
 obtain⟨N,hN⟩:∃N,N=s.fr.length:=⟨_,rfl⟩
 have H0:jK w G p s (.slice A N c):=by subst hN;exact⟨hok,hr,ho,hG⟩
 obtain⟨R,hR⟩:∃R,R=CZ s.fr i f n':=⟨_,rfl⟩
 have FY:Hid (({s with fr:=R}:Sp).ok):=by rw[hR];exact⟨hok.1,hok.2.1,Fv.1⟩
 rw[←hR]
 have HR:=Lib.hid hR
 have H:=Lib.hid H0
 have HN:Hid (s.fr.length=N):=hN.symm
 have Un:=Lib.hid NN
 rw[←hN]at c2 hlen qu
 have L0:f+n'≤2000000:=by omega
 have GO:Hid (Below w.heap.size w (w.alloc (.cells #[.int .i64 f,.int .i64 n'] 80))):=(Below.refl _ _).alloc (Nat.le_refl _) _
 clear Fv hok hr ho hG Bp H0 hN hR Lx NN OQ h1 h2
 obtain⟨j,rfl⟩:∃j,i=j+1:=⟨i-1,by omega⟩
 obtain⟨g0,rfl,qz,kW,kV⟩:=JO.out j (by rw[HN.out];omega)
 have l8:=Un.out j (by rw[HN.out];omega)
 obtain⟨a0,ML⟩:∃a0,(Ad s.fr j).1=a0:=⟨_,rfl⟩
 obtain⟨b0,hb0⟩:∃b0,(Ad s.fr j).2=b0:=⟨_,rfl⟩
 rw[ML]at kW
 rw[hb0]at kV
 rw[ML,hb0]at l8
 have cH:=Lib.hid ML
 have Ss:=Lib.hid hb0
 obtain⟨u0,ko⟩:∃u0,a0+b0=u0:=⟨_,rfl⟩
 have nh:Hid (∀W,Calls Tryz.prog 96 #[.agg #[.int .i64 a0,.int .i64 b0]] W fun e w'=>e=.returned (.int .i64 (u0:Nat))∧Below W.heap.size W w'):=fun W=>by have:=EF a0 b0 W (by omega);rwa [ko]at this
 have gG:=Lib.hid ko
 have KP:Row (w.alloc (.cells #[.int .i64 f,.int .i64 n'] 80)) w.heap.size 80 [.int .i64 f,.int .i64 n']:=heap_alloc_new _ _
 have lj0:(0:Int)≤(j:Int):=by omega
 have lj1:(j:Int)<(N:Int):=by omega
 have lw1:IntKind.i64.wrap ((j:Int)+1-1)=(j:Int):=by rw[show (j:Int)+1-1=j by omega];exact IntWalk.i64_in _ (by omega)
 have lw2:IntKind.i64.wrap (j:Int)=(j:Int):=IntWalk.i64_in _ (by omega)
 clear ko ML hb0
 have hlt:u0=f:=by rw[Nat.add_sub_cancel,cH.out,Ss.out,gG.out]at T7;exact T7
 clear T7
 have vY:decide (u0=f)=true:=by simp;omega
 have vX:(u0==f)=true:=by simp;omega
 have vW:((u0:Int)==(f:Int))=true:=by simp;omega
 obtain⟨n1,aI⟩:∃n1,n1=b0+n':=⟨_,rfl⟩
 have PC:(b0:Int)+(n':Int)=(n1:Int):=by omega
 have Lu:IntKind.i64.wrap (n1:Int)=(n1:Int):=IntWalk.i64_in _ (by have:=gG.out;omega)
 have Qp:Hid ((Ad s.fr (j+1-1)).1+(Ad s.fr (j+1-1)).2=f):=by unfold Hid;rw[Nat.add_sub_cancel,cH.out,Ss.out,gG.out];exact hlt
 have jW:Hid ((Ad s.fr (j+1-1)).1=a0):=by unfold Hid;rw[Nat.add_sub_cancel];exact cH.out
 have o5:Hid ((Ad s.fr (j+1-1)).2+n'=n1):=by unfold Hid;rw[Nat.add_sub_cancel,Ss.out];exact aI.symm
 have gT:Hid (f+n'=a0+n1):=by unfold Hid;have:=gG.out;omega
 have xV:a0+n1≤2000000:=by have:=gT.out;omega
 clear aI
 go_enter Tryz.func97,Tryz.ntmps97
 go_wp2
 generalize w.alloc (.cells #[.int .i64 f,.int .i64 n'] 80)=wb at*
 have Xw:=GO
 have jH:wb.cell? ⟨p,2,none⟩=some (.slice (some ⟨g0,0,none⟩) N c):=(H.out.2.1.below Xw.out Dy).cell 2
 have mg:wb.cell? ⟨w.heap.size,0,none⟩=some (.int .i64 f):=KP.cell 0
 have R3:=(Xw.out.cell (p:=⟨g0,j*2,none⟩) qz).trans kW
 have R2:=(Xw.out.cell (p:=⟨g0,j*2+1,none⟩) qz).trans kV
 have SC:w.heap.size<wb.heap.size:=KP.lt
 have XD:p<wb.heap.size:=by omega
 have QU:g0<wb.heap.size:=by omega
 go_region_held3 (fun w'=>Below wb.heap.size wb w'∧w'.cell? ⟨p,2,none⟩=some (.slice (some ⟨g0,0,none⟩) N c)∧w'.cell? ⟨w.heap.size,0,none⟩=some (.int .i64 f)∧w'.cell? ⟨g0,j*2,none⟩=some (.int .i64 a0)∧w'.cell? ⟨g0,j*2+1,none⟩=some (.int .i64 b0))
  (first
   |(exact⟨AG (Below.refl _ _) 1,jH,mg,R3,R2⟩)
   |(exact⟨hacc,(hacc.cell XD).trans jH,(hacc.cell SC).trans mg,(hacc.cell QU).trans R3,(hacc.cell QU).trans R2⟩))
  ((go_split_ands;go_at_call 96;(with_reducible refine(nh.out _).mono ?_);rintro e cy ⟨rfl,A9⟩;have hacc:Below wb.heap.size wb cy:=Below.trans (by assumption) (Below.mono A9 (Below.size (by assumption)))))
 have KQ:=KP.below hacc SC
 have cF:=Lib.hid (Xw.out.trans (hacc.mono Xw.out.size))
 have Pe:=Lib.hid hacc
 clear hacc
 have mb:=(Pe.out.cell (p:=⟨p,2,none⟩) XD).trans jH
 have mX:=(Pe.out.cell (p:=⟨g0,j*2,none⟩) QU).trans R3
 have mW:=(Pe.out.cell (p:=⟨g0,j*2+1,none⟩) QU).trans R2
 have mc:cy.cell? ⟨w.heap.size,1,none⟩=some (.int .i64 n'):=KQ.cell 1
 have b0q:cy.cell? ⟨w.heap.size,0,none⟩=some (.int .i64 f):=KQ.cell 0
 have mU:=KQ.free 1
 have yF:=KQ.free 0
 generalize cy=TJ at*
 clear jH mg R3 R2
 go_wp2
 go_region
 have Cn:Row ((TJ.setCell ⟨w.heap.size,0,none⟩ (.int .i64 a0)).setCell ⟨w.heap.size,1,none⟩ (.int .i64 n1)).drew w.heap.size 80 [.int .i64 a0,.int .i64 n1]:=((KQ.set 0 (.int .i64 a0)).set 1 (.int .i64 n1)).drewN 1
 have Kb:Hid (Below w.heap.size w ((TJ.setCell ⟨w.heap.size,0,none⟩ (.int .i64 a0)).setCell ⟨w.heap.size,1,none⟩ (.int .i64 n1)).drew):=AG ((cF.out.setCell (p:=⟨w.heap.size,0,none⟩) (Nat.le_refl _) _).setCell (p:=⟨w.heap.size,1,none⟩) (Nat.le_refl _) _) 1
 clear mb mX mW mc b0q mU yF Pe KQ cF SC XD QU KP Xw GO vY vX vW nh gG cH Ss kW kV
 generalize((TJ.setCell ⟨w.heap.size,0,none⟩ (.int .i64 a0)).setCell ⟨w.heap.size,1,none⟩ (.int .i64 n1)).drew=wp at*
 go_wp2
 by_cases Z8:(j+1)<N
 ·obtain⟨g2,OC,CE,VS,IF⟩:=JO.out ((j+1)) (by rw[HN.out];exact Z8)
  have NO:=Un.out ((j+1)) (by rw[HN.out];exact Z8)
  obtain rfl:g2=g0:=by injection OC with OC;injection OC with OC;exact OC.symm
  obtain⟨a2,KS⟩:∃a2,(Ad s.fr ((j+1))).1=a2:=⟨_,rfl⟩
  obtain⟨b2,AX⟩:∃b2,(Ad s.fr ((j+1))).2=b2:=⟨_,rfl⟩
  rw[KS]at VS
  rw[AX]at IF
  rw[KS,AX]at NO
  have Vw:=Lib.hid KS
  have Ny:=Lib.hid AX
  obtain⟨u2,N4⟩:∃u2,a0+n1=u2:=⟨_,rfl⟩
  have L9:Hid (∀W,Calls Tryz.prog 96 #[.agg #[.int .i64 a0,.int .i64 n1]] W fun e w'=>e=.returned (.int .i64 (u2:Nat))∧Below W.heap.size W w'):=fun W=>by have:=EF (a0) (n1) W (by omega);rwa [N4]at this
  have OX:=Lib.hid N4
  have Lb:wp.cell? ⟨p,2,none⟩=some (.slice (some ⟨g2,0,none⟩) N c):=(H.out.2.1.below Kb.out Dy).cell 2
  have PX:wp.cell? ⟨w.heap.size,0,none⟩=some (.int .i64 a0):=Cn.cell 0
  have Nl:wp.cell? ⟨w.heap.size,1,none⟩=some (.int .i64 n1):=Cn.cell 1
  have Nd:=(Kb.out.cell (p:=⟨g2,((j+1))*2,none⟩) CE).trans VS
  have Nc:=(Kb.out.cell (p:=⟨g2,((j+1))*2+1,none⟩) CE).trans IF
  have Dl:w.heap.size<wp.heap.size:=Cn.lt
  have Gg:p<wp.heap.size:=by omega
  have EK:g2<wp.heap.size:=by omega
  have g7:((j:Int)+1:Int)<(N:Int):=by omega
  have hU:(0:Int)≤((j:Int)+1:Int):=by omega
  have rg:decide (((j:Int)+1:Int)<(N:Int))=true:=by simp;omega
  have ZE:decide ((j+1)<N)=true:=by simp;omega
  clear N4 KS AX
  by_cases EC:a2=u2
  ·have rt:decide (a2=u2)=true:=by simp;omega
   have Y5:(a2==u2)=true:=by simp;omega
   have Y3:((a2:Int)==(u2:Int))=true:=by simp;omega
   obtain⟨n2,QS⟩:∃n2,n2=n1+b2:=⟨_,rfl⟩
   have NR:(n1:Int)+(b2:Int)=(n2:Int):=by omega
   have EV:IntKind.i64.wrap (n2:Int)=(n2:Int):=IntWalk.i64_in _ (by omega)
   have hwi:IntKind.i64.wrap (((j:Int)+1:Int)+1)=((j:Int)+1:Int)+1:=IntWalk.i64_in _ (by omega)
   have Nr:Hid (CJ s.fr ((j+1)) (f+n')=true):=Mf (by rw[HN.out];exact Z8) (by rw[Vw.out];have:=OX.out;have:=gT.out;omega)
   have gO:=Lib.hid QS
   clear QS
   go_region_held3 (fun w'=>Below wp.heap.size wp w'∧w'.cell? ⟨p,2,none⟩=some (.slice (some ⟨g2,0,none⟩) N c)∧w'.cell? ⟨w.heap.size,0,none⟩=some (.int .i64 a0)∧w'.cell? ⟨w.heap.size,1,none⟩=some (.int .i64 n1)∧w'.cell? ⟨g2,((j+1))*2,none⟩=some (.int .i64 a2)∧w'.cell? ⟨g2,((j+1))*2+1,none⟩=some (.int .i64 b2))
    (first
     |(exact⟨AG (Below.refl _ _) 1,Lb,PX,Nl,Nd,Nc⟩)
     |(exact⟨hacc,(hacc.cell Gg).trans Lb,(hacc.cell Dl).trans PX,(hacc.cell Dl).trans Nl,(hacc.cell EK).trans Nd,(hacc.cell EK).trans Nc⟩))
    ((go_split_ands;go_at_call 96;(with_reducible refine(L9.out _).mono ?_);rintro e RD ⟨rfl,A9⟩;have hacc:Below wp.heap.size wp RD:=Below.trans (by assumption) (Below.mono A9 (Below.size (by assumption)))))
   have EL:=Cn.below hacc Dl
   have Kc:=Lib.hid (Kb.out.trans (hacc.mono Kb.out.size))
   have Gt:=Lib.hid hacc
   clear hacc
   have mb:=(Gt.out.cell (p:=⟨p,2,none⟩) Gg).trans Lb
   have mX:=(Gt.out.cell (p:=⟨g2,((j+1))*2,none⟩) EK).trans Nd
   have mW:=(Gt.out.cell (p:=⟨g2,((j+1))*2+1,none⟩) EK).trans Nc
   have mc:=(Gt.out.cell (p:=⟨w.heap.size,1,none⟩) Dl).trans Nl
   have mU:=EL.free 1
   generalize RD=TJ at*
   go_wp2
   go_region
   have Co:Row (TJ.setCell ⟨w.heap.size,1,none⟩ (.int .i64 n2)).drew w.heap.size 80 [.int .i64 a0,.int .i64 n2]:=(EL.set 1 (.int .i64 n2)).drewN 1
   have Ip:Hid (Below w.heap.size w (TJ.setCell ⟨w.heap.size,1,none⟩ (.int .i64 n2)).drew):=AG (Kc.out.setCell (p:=⟨w.heap.size,1,none⟩) (Nat.le_refl _) _) 1
   clear mb mX mW mc mU Gt Kc EL
   generalize(TJ.setCell ⟨w.heap.size,1,none⟩ (.int .i64 n2)).drew=wq at*
   go_wp2
   have MT:Hid (s.fr.take (j)++[(a0,n2)]++s.fr.drop ((j+1)+1)=R):=by
    unfold Hid;rw[HR.out];unfold CZ;rw[Mg (by omega) Qp.out,Nr.out]
    dsimp only;rw[jW.out,o5.out,gO.out,Ny.out];simp
   have hsz:w.heap.size<wq.heap.size:=Co.lt
   have c5:wq.cell? ⟨p,2,none⟩=some (.slice (some ⟨g2,0,none⟩) N c):=(H.out.2.1.below Ip.out Dy).cell 2
   have b0:wq.cell? ⟨w.heap.size,0,none⟩=some (.int .i64 a0):=Co.cell 0
   have b1:wq.cell? ⟨w.heap.size,1,none⟩=some (.int .i64 n2):=Co.cell 1
   have SG:p<wq.heap.size:=by omega
   have BW:∀W,W=wq.drew.alloc (.cells #[.int .i64 a0,.int .i64 n2] 80)→Hid (Below w.heap.size w W):=fun W e=>by subst e;exact(AG Ip.out 1).alloc (by have:=Ip.out.size;exact this) _
   have B0:∀W,W=wq.drew.alloc (.cells #[.int .i64 a0,.int .i64 n2] 80)→Hid (Calls Tryz.prog 110 #[.slice (some ⟨g2,0,none⟩) N c,.int .i64 ((j:Int)),.int .i64 ((j:Int)+1+1),.slice (some ⟨wq.heap.size,0,none⟩) 1 1] W (Eb W (.slice (some ⟨g2,0,none⟩) N c) R)):=fun W e=>by
    have JF:=Ao H.out.2.2.1 (BW W e).out
    rw[HN.out]at JF
    have Eo:CB W wq.heap.size 1 1 [(a0,n2)] [.int .i64 a0,.int .i64 n2]:=⟨by subst e;exact heap_alloc_new wq.drew _,rfl,Nat.le_refl _,by omega,rfl,rfl⟩
    have BB:=BD W (i:=j) (j:=(j+1)+1) JF Eo.own (fun k hk e2=>by have h1:=(H.out.2.2.1.lt k hk).2;(have e3:wq.heap.size=k:=by simpa [Value.ownBlock]using e2);omega) (by omega) (by omega) (by omega) (by omega)
    rw[MT.out]at BB
    have CF:((j:Nat):Int)=(j:Int):=by omega
    have Cr:(((j+1)+1:Nat):Int)=(j:Int)+1+1:=by omega
    first|rw[CF,Cr]at BB|rw[CF]at BB
    exact BB
   have B0:=B0 _ rfl
   have BW:=BW _ rfl
   have HC:Hid (∀v' w6,Eb (wq.drew.alloc (.cells #[.int .i64 a0,.int .i64 n2] 80)) (.slice (some ⟨g2,0,none⟩) N c) R (.returned v') w6→∃G',EZ (w6.setCell ⟨p,2,none⟩ v') G' p {s with fr:=R}∧AK G w (w6.setCell ⟨p,2,none⟩ v')∧∀k,G' k→G k∨w.heap.size≤k):=fun v' w6 hg=>Cv H.out BW.out hg FY.out
   clear Nr rt Y5 Y3 hU g7 rg ZE Lb PX Nl Gg EK Dl Nd Nc VS IF L9 OX Vw Ny NO CE
   have IG:Hid (∀v' w6,Eb (wq.drew.alloc (.cells #[.int .i64 a0,.int .i64 n2] 80)) (.slice (some ⟨g2,0,none⟩) N c) R (.returned v') w6→w6.cell? ⟨p,2,none⟩=some (.slice (some ⟨g2,0,none⟩) N c)∧w6.frozen? ⟨p,2,none⟩=false):=fun v' w6 hg=>by have:=Ba H.out BW.out hg;exact⟨this.cell 2,this.free 2⟩
   go_wp2
   go_region_with (go_at_call 110;refine B0.out.mono ?_;rintro e w6 hg;obtain⟨v',rfl,EW,CE,Ds⟩:=id hg;have HX:=Lib.hid (HC.out v' w6 hg);obtain⟨c6,f6⟩:=IG.out v' w6 hg;obtain⟨A',c',rfl,_,_,_⟩:=AS EW;clear hg EW CE Ds)
   all_goals(go_wp2;go_end0;obtain⟨G',h1,h2,h3⟩:=HX.out;exact⟨G',rfl,h1,h2,h3⟩)
  ·have rt:decide (a2=u2)=false:=by simp;omega
   have Y5:(a2==u2)=false:=by simp;omega
   have Y3:((a2:Int)==(u2:Int))=false:=by simp;omega
   have Nr:Hid (CJ s.fr ((j+1)) (f+n')=false):=GS fun _=>by rw[Vw.out];have:=OX.out;have:=gT.out;omega
   go_wp2
   go_region_held3 (fun w'=>Below wp.heap.size wp w'∧w'.cell? ⟨p,2,none⟩=some (.slice (some ⟨g2,0,none⟩) N c)∧w'.cell? ⟨w.heap.size,0,none⟩=some (.int .i64 a0)∧w'.cell? ⟨w.heap.size,1,none⟩=some (.int .i64 n1)∧w'.cell? ⟨g2,((j+1))*2,none⟩=some (.int .i64 a2)∧w'.cell? ⟨g2,((j+1))*2+1,none⟩=some (.int .i64 b2))
    (first
     |(exact⟨AG (Below.refl _ _) 1,Lb,PX,Nl,Nd,Nc⟩)
     |(exact⟨hacc,(hacc.cell Gg).trans Lb,(hacc.cell Dl).trans PX,(hacc.cell Dl).trans Nl,(hacc.cell EK).trans Nd,(hacc.cell EK).trans Nc⟩))
    ((go_split_ands;go_at_call 96;(with_reducible refine(L9.out _).mono ?_);rintro e RD ⟨rfl,A9⟩;have hacc:Below wp.heap.size wp RD:=Below.trans (by assumption) (Below.mono A9 (Below.size (by assumption)))))
   have EL:=Cn.below hacc Dl
   have Kc:=Lib.hid (Kb.out.trans (hacc.mono Kb.out.size))
   have Gt:=Lib.hid hacc
   clear hacc
   generalize RD=wq at*
   have Ip:=Kc
   have Co:=EL
   go_wp2
   have MT:Hid (s.fr.take (j)++[(a0,n1)]++s.fr.drop ((j+1))=R):=by
    unfold Hid;rw[HR.out];unfold CZ;rw[Mg (by omega) Qp.out,Nr.out]
    dsimp only;rw[jW.out,o5.out];simp
   have hsz:w.heap.size<wq.heap.size:=Co.lt
   have c5:wq.cell? ⟨p,2,none⟩=some (.slice (some ⟨g2,0,none⟩) N c):=(H.out.2.1.below Ip.out Dy).cell 2
   have b0:wq.cell? ⟨w.heap.size,0,none⟩=some (.int .i64 a0):=Co.cell 0
   have b1:wq.cell? ⟨w.heap.size,1,none⟩=some (.int .i64 n1):=Co.cell 1
   have SG:p<wq.heap.size:=by omega
   have BW:∀W,W=wq.drew.alloc (.cells #[.int .i64 a0,.int .i64 n1] 80)→Hid (Below w.heap.size w W):=fun W e=>by subst e;exact(AG Ip.out 1).alloc (by have:=Ip.out.size;exact this) _
   have B0:∀W,W=wq.drew.alloc (.cells #[.int .i64 a0,.int .i64 n1] 80)→Hid (Calls Tryz.prog 110 #[.slice (some ⟨g2,0,none⟩) N c,.int .i64 ((j:Int)),.int .i64 ((j:Int)+1),.slice (some ⟨wq.heap.size,0,none⟩) 1 1] W (Eb W (.slice (some ⟨g2,0,none⟩) N c) R)):=fun W e=>by
    have JF:=Ao H.out.2.2.1 (BW W e).out
    rw[HN.out]at JF
    have Eo:CB W wq.heap.size 1 1 [(a0,n1)] [.int .i64 a0,.int .i64 n1]:=⟨by subst e;exact heap_alloc_new wq.drew _,rfl,Nat.le_refl _,by omega,rfl,rfl⟩
    have BB:=BD W (i:=j) (j:=(j+1)) JF Eo.own (fun k hk e2=>by have h1:=(H.out.2.2.1.lt k hk).2;(have e3:wq.heap.size=k:=by simpa [Value.ownBlock]using e2);omega) (by omega) (by omega) (by omega) (by omega)
    rw[MT.out]at BB
    have CF:((j:Nat):Int)=(j:Int):=by omega
    have Cr:(((j+1):Nat):Int)=(j:Int)+1:=by omega
    first|rw[CF,Cr]at BB|rw[CF]at BB
    exact BB
   have B0:=B0 _ rfl
   have BW:=BW _ rfl
   have HC:Hid (∀v' w6,Eb (wq.drew.alloc (.cells #[.int .i64 a0,.int .i64 n1] 80)) (.slice (some ⟨g2,0,none⟩) N c) R (.returned v') w6→∃G',EZ (w6.setCell ⟨p,2,none⟩ v') G' p {s with fr:=R}∧AK G w (w6.setCell ⟨p,2,none⟩ v')∧∀k,G' k→G k∨w.heap.size≤k):=fun v' w6 hg=>Cv H.out BW.out hg FY.out
   clear Nr rt Y5 Y3 hU g7 rg ZE Lb PX Nl Gg EK Dl Nd Nc VS IF L9 OX Vw Ny NO CE
   have IG:Hid (∀v' w6,Eb (wq.drew.alloc (.cells #[.int .i64 a0,.int .i64 n1] 80)) (.slice (some ⟨g2,0,none⟩) N c) R (.returned v') w6→w6.cell? ⟨p,2,none⟩=some (.slice (some ⟨g2,0,none⟩) N c)∧w6.frozen? ⟨p,2,none⟩=false):=fun v' w6 hg=>by have:=Ba H.out BW.out hg;exact⟨this.cell 2,this.free 2⟩
   go_wp2
   go_region_with (go_at_call 110;refine B0.out.mono ?_;rintro e w6 hg;obtain⟨v',rfl,EW,CE,Ds⟩:=id hg;have HX:=Lib.hid (HC.out v' w6 hg);obtain⟨c6,f6⟩:=IG.out v' w6 hg;obtain⟨A',c',rfl,_,_,_⟩:=AS EW;clear hg EW CE Ds)
   all_goals(go_wp2;go_end0;obtain⟨G',h1,h2,h3⟩:=HX.out;exact⟨G',rfl,h1,h2,h3⟩)
 ·have rg:decide (((j:Int)+1:Int)<(N:Int))=false:=by simp;omega
  have ZE:decide ((j+1)<N)=false:=by simp;omega
  have Nr:Hid (CJ s.fr ((j+1)) (f+n')=false):=GS fun hh=>by rw[HN.out]at hh;omega
  have Lb:wp.cell? ⟨p,2,none⟩=some (.slice (some ⟨g0,0,none⟩) N c):=(H.out.2.1.below Kb.out Dy).cell 2
  have Gg:p<wp.heap.size:=by have:=Cn.lt;omega
  go_quiet (fail)
  have Co:=Cn.drewN nq
  have Ip:Hid (Below w.heap.size w (wp.drewN nq)):=AG Kb.out nq
  generalize wp.drewN nq=wq at*
  go_wp2
  have MT:Hid (s.fr.take (j)++[(a0,n1)]++s.fr.drop ((j+1))=R):=by
   unfold Hid;rw[HR.out];unfold CZ;rw[Mg (by omega) Qp.out,Nr.out]
   dsimp only;rw[jW.out,o5.out];simp
  have hsz:w.heap.size<wq.heap.size:=Co.lt
  have c5:wq.cell? ⟨p,2,none⟩=some (.slice (some ⟨g0,0,none⟩) N c):=(H.out.2.1.below Ip.out Dy).cell 2
  have b0:wq.cell? ⟨w.heap.size,0,none⟩=some (.int .i64 a0):=Co.cell 0
  have b1:wq.cell? ⟨w.heap.size,1,none⟩=some (.int .i64 n1):=Co.cell 1
  have SG:p<wq.heap.size:=by omega
  have BW:∀W,W=wq.drew.alloc (.cells #[.int .i64 a0,.int .i64 n1] 80)→Hid (Below w.heap.size w W):=fun W e=>by subst e;exact(AG Ip.out 1).alloc (by have:=Ip.out.size;exact this) _
  have B0:∀W,W=wq.drew.alloc (.cells #[.int .i64 a0,.int .i64 n1] 80)→Hid (Calls Tryz.prog 110 #[.slice (some ⟨g0,0,none⟩) N c,.int .i64 ((j:Int)),.int .i64 ((j:Int)+1),.slice (some ⟨wq.heap.size,0,none⟩) 1 1] W (Eb W (.slice (some ⟨g0,0,none⟩) N c) R)):=fun W e=>by
   have JF:=Ao H.out.2.2.1 (BW W e).out
   rw[HN.out]at JF
   have Eo:CB W wq.heap.size 1 1 [(a0,n1)] [.int .i64 a0,.int .i64 n1]:=⟨by subst e;exact heap_alloc_new wq.drew _,rfl,Nat.le_refl _,by omega,rfl,rfl⟩
   have BB:=BD W (i:=j) (j:=(j+1)) JF Eo.own (fun k hk e2=>by have h1:=(H.out.2.2.1.lt k hk).2;(have e3:wq.heap.size=k:=by simpa [Value.ownBlock]using e2);omega) (by omega) (by omega) (by omega) (by omega)
   rw[MT.out]at BB
   have CF:((j:Nat):Int)=(j:Int):=by omega
   have Cr:(((j+1):Nat):Int)=(j:Int)+1:=by omega
   first|rw[CF,Cr]at BB|rw[CF]at BB
   exact BB
  have B0:=B0 _ rfl
  have BW:=BW _ rfl
  have HC:Hid (∀v' w6,Eb (wq.drew.alloc (.cells #[.int .i64 a0,.int .i64 n1] 80)) (.slice (some ⟨g0,0,none⟩) N c) R (.returned v') w6→∃G',EZ (w6.setCell ⟨p,2,none⟩ v') G' p {s with fr:=R}∧AK G w (w6.setCell ⟨p,2,none⟩ v')∧∀k,G' k→G k∨w.heap.size≤k):=fun v' w6 hg=>Cv H.out BW.out hg FY.out
  have IG:Hid (∀v' w6,Eb (wq.drew.alloc (.cells #[.int .i64 a0,.int .i64 n1] 80)) (.slice (some ⟨g0,0,none⟩) N c) R (.returned v') w6→w6.cell? ⟨p,2,none⟩=some (.slice (some ⟨g0,0,none⟩) N c)∧w6.frozen? ⟨p,2,none⟩=false):=fun v' w6 hg=>by have:=Ba H.out BW.out hg;exact⟨this.cell 2,this.free 2⟩
  go_wp2
  go_region_with (go_at_call 110;refine B0.out.mono ?_;rintro e w6 hg;obtain⟨v',rfl,EW,CE,Ds⟩:=id hg;have HX:=Lib.hid (HC.out v' w6 hg);obtain⟨c6,f6⟩:=IG.out v' w6 hg;obtain⟨A',c',rfl,_,_,_⟩:=AS EW;clear hg EW CE Ds)
  all_goals(go_wp2;go_end0;obtain⟨G',h1,h2,h3⟩:=HX.out;exact⟨G',rfl,h1,h2,h3⟩)
theorem Zj(p:Nat)(s:Sp)(G:Nat→Prop)(i f n':Nat)(w:World)(h:EZ w G p s)(hi:i=A8 s.fr f)(h1:s.first≤f)(h2:f+n'≤s.first+s.blocks)(hn:1≤n')(hno:∀b,f≤b→b<f+n'→¬hasB s.fr b):
  Calls Tryz.prog 97 #[.pointer (some ⟨p,0,none⟩),.int .i64 i,.agg #[.int .i64 f,.int .i64 n']] w fun e w'=>∃G',e=.returned (.tuple #[])∧EZ w' G' p {s with fr:=CZ s.fr i f n'}∧AK G w w'∧∀k,G' k→G k∨w.heap.size≤k:=by
 by_cases Jc:0<i
 ·by_cases hlt:(Ad s.fr (i-1)).1+(Ad s.fr (i-1)).2=f
  ·exact eZ p s G i f n' w h hi h1 h2 hn hno Jc hlt
  ·exact ee p s G i f n' w h hi h1 h2 hn hno Jc hlt
 ·exact ef p s G i f n' w h hi h1 h2 hn hno Jc
end Go.Proofs.YteldegofbbfaeaaGreat
