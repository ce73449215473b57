/- What the laws stand on. -/
import Derived.Laws.BitsAllLaws
import Derived.Test.YtfpjmhnmpjdbiaaGreatRows
import Derived.WalkKit
import Derived.ProofKit
import Derived.OpenShut
import Derived.LoopTactic
import Derived.Outline
import Derived.Lib.Varint
import Derived.Lib.Hide
import Derived.Deep.QuietTactic
import Derived.BigQuiet
import Derived.Below
import Derived.Deep.Draws
import Derived.Laws.CopyOwn
import Derived.Laws.OwnMore
import Derived.Laws.MakeOwn
import Derived.Laws.Bits64b
import Derived.OwnWalk
import Derived.Laws.BytesArg
import Derived.Deep.RegionHeld3
import Derived.Deep.AppendLies
import Derived.Deep.DeepCutAuto
import Derived.Deep.CutBlock
import Derived.Lib.SmallJoins
import Derived.Deep.Slices
import Derived.Deep.Fields
import Derived.Maps.AppendAt
import Derived.Lib.AppendZerosOnto
import Derived.Lib.Overlaps
import Derived.Deep.RegionLaw
import Derived.Laws.Externs
import Derived.IntWalk
import Derived.Lib.QuietBelow
import Derived.Lib.SliceRun
import Derived.BigRegion
import Derived.Maps.OwnSet
import Derived.Maps.RangeWalk
import Derived.Shelf.SlMaps.Clone
import Derived.LaidEqlPtr
import Derived.WalkSpells
import Derived.ChangeKeysEq
import Derived.Laws.StructEq
import Derived.Defers
import Derived.Laws.EntriesVeiled
import Derived.ShutString
import Derived.ChangeOld
namespace Go.Proofs.YtfpjmhnmpjdbiaaGreat
set_option linter.unusedVariables false
set_option maxRecDepth 100000
set_option maxHeartbeats 8000000
open Go.ChangeShapes Go.WideShapes Go.ChangeAt Go.RowKit
open Go.Joins Go.Deep
open Go.ChangeShapes Go.WideShapes Go.ChangeAt Go.RowKit Go.Maps
open Go.ChangeMaps (setBlock heap_setBlock_same heap_setBlock_other)
def st(n:Nat):Nat:=if n%2=1 then n/2^^^3988292384 else n/2
def sts:Nat→Nat→Nat
 |0,n=>n
 |k+1,n=>sts k (st n)
def layC(r c:Nat):Nat:=sts 8 (r^^^c)
def wd:Nat→Nat→Nat→Nat
 |0,r,_=>r
 |k+1,r,x=>wd k (layC r (x%256)) (x/256)
def top:Nat:=4294967295
def cmx(m n:Nat):Nat:=m^^^n
def cm(n:Nat):Nat:=cmx top n
def nx(s x:Nat):Nat:=cm (wd 8 (cm s) x)
def sm(l:List Nat):Nat:=l.foldl nx 0
def run(r:Nat)(l:List Nat):Nat:=l.foldl (wd 8) r
theorem st_lt{a:Nat}(h:a<4294967296):st a<4294967296:=by
 unfold st
 split
 ·exact Nat.xor_lt_two_pow (n:=32) (by omega) (by decide)
 ·omega
theorem sts_lt(k:Nat):∀{a},a<4294967296→sts k a<4294967296:=by
 induction k with
 |zero=>intro a h;exact h
 |succ k ih=>intro a h;exact ih (st_lt h)
theorem sts_more(j:Nat):∀k a,sts (k+j) a=sts k (sts j a):=by
 induction j with
 |zero=>intro k a;rfl
 |succ j ih=>intro k a;exact ih k (st a)
theorem layC_lt{r c:Nat}(hr:r<4294967296)(hc:c<256):layC r c<4294967296:=sts_lt 8 (Nat.xor_lt_two_pow (n:=32) hr (by omega))
theorem wd_lt(k:Nat):∀{r:Nat} (x:Nat),r<4294967296→wd k r x<4294967296:=by
 induction k with
 |zero=>intro r x h;exact h
 |succ k ih=>intro r x h;exact ih _ (layC_lt h (by omega))
theorem cm_lt{n:Nat}(h:n<4294967296):cm n<4294967296:=show cmx top n< _ from Nat.xor_lt_two_pow (n:=32) (by decide) h
theorem xor_twice(m n:Nat):cmx m (cmx m n)=n:=by unfold cmx;rw[←Nat.xor_assoc,Nat.xor_self,Nat.zero_xor]
theorem cm_cm(n:Nat):cm (cm n)=n:=xor_twice _ n
theorem nx_lt{s:Nat}(x:Nat)(h:s<4294967296):nx s x<4294967296:=cm_lt (wd_lt 8 x (cm_lt h))
theorem nx_cm(r x:Nat):nx (cm r) x=cm (wd 8 r x):=by unfold nx;rw[cm_cm]
theorem sm_snoc(l:List Nat)(x:Nat):sm (l++[x])=nx (sm l) x:=by unfold sm;simp
theorem run_nil(r:Nat):run r []=r:=by unfold run;rw[List.foldl_nil]
theorem run_cons(r x:Nat)(l:List Nat):run r (x::l)=run (wd 8 r x) l:=by unfold run;rw[List.foldl_cons]
theorem foldl_cm(l:List Nat):∀r,l.foldl nx (cm r)=cm (run r l):=by
 induction l with
 |nil=>intro r;rw[List.foldl_nil,run_nil]
 |cons x l ih=>intro r;rw[List.foldl_cons,nx_cm,ih,run_cons]
theorem cm_top:cm 4294967295=0:=by decide
theorem sm_run(l:List Nat):sm l=cm (run 4294967295 l):=by
 rw[←foldl_cm,cm_top];unfold sm;exact Eq.refl _
theorem run_lt(l:List Nat):∀{r},r<4294967296→run r l<4294967296:=by
 induction l with
 |nil=>intro r h;exact h
 |cons x l ih=>intro r h;exact ih (wd_lt 8 x h)
theorem sm_lt(l:List Nat):sm l<4294967296:=by rw[sm_run];exact cm_lt (run_lt l (by decide))
def U64s(l:List Nat):Prop:=∀x∈l,x<18446744073709551616
def lastW(l:List Nat)(num ad:Nat):Nat:=num*4294967296+sm (l++[num,ad])
def frontW(size tag:Nat)(pl:List Nat):List Nat:=pl++List.replicate (size-2-pl.length) 0++[tag]
def sealW(size ad tag:Nat)(pl:List Nat):List Nat:=frontW size tag pl++[lastW (frontW size tag pl) (pl.length+1) ad]
def numW(b:List Nat):Nat:=b.getD (b.length-1) 0/4294967296
def tagW(b:List Nat):Nat:=b.getD (b.length-2) 0
def okW(b:List Nat)(ad:Nat):Bool:=decide (1≤numW b)&&decide (numW b≤b.length-1)&&decide (b=sealW b.length ad (tagW b) (b.take (numW b-1)))
theorem front_len{size tag:Nat}{pl:List Nat}(h:pl.length≤size-2)(h2:2≤size):(frontW size tag pl).length=size-1:=by
 unfold frontW;simp;omega
theorem seal_len{size ad tag:Nat}{pl:List Nat}(h:pl.length≤size-2)(h2:2≤size):(sealW size ad tag pl).length=size:=by
 unfold sealW;rw[List.length_append,front_len h h2];simp;omega
theorem last_lt{l:List Nat}{num ad:Nat}(h:num<4294967296):lastW l num ad<18446744073709551616:=by
 unfold lastW;have:=sm_lt (l++[num,ad]);omega
theorem last_div{l:List Nat}{num ad:Nat}:lastW l num ad/4294967296=num:=by
 unfold lastW;have:=sm_lt (l++[num,ad]);omega
theorem last_or{l:List Nat}{num ad:Nat}:num*4294967296|||sm (l++[num,ad])=lastW l num ad:=by
 unfold lastW
 rw[show num*4294967296=2^32*num by rw[Nat.mul_comm]]
 exact(Nat.two_pow_add_eq_or_of_lt (i:=32) (sm_lt _) num).symm
theorem front_u64{size tag:Nat}{pl:List Nat}(hp:U64s pl)(ht:tag<18446744073709551616):U64s (frontW size tag pl):=by
 intro x hx
 unfold frontW at hx
 rcases List.mem_append.1 hx with hx|hx
 ·rcases List.mem_append.1 hx with hx|hx
  ·exact hp x hx
  ·rw[List.mem_replicate]at hx;omega
 ·simp at hx;omega
theorem seal_u64{size ad tag:Nat}{pl:List Nat}(hp:U64s pl)(ht:tag<18446744073709551616)(hn:pl.length+1<4294967296):U64s (sealW size ad tag pl):=by
 intro x hx
 unfold sealW at hx
 rcases List.mem_append.1 hx with hx|hx
 ·exact front_u64 hp ht x hx
 ·simp at hx;subst hx;exact last_lt hn
theorem getD_split{α:Type}{l m:List α}{k:Nat}{x d:α}(h:l.length=k):(l++x::m).getD k d=x:=by
 rw[List.getD_eq_getElem?_getD,List.getElem?_append_right (by omega),h,Nat.sub_self];rfl
theorem seal_last{size ad tag:Nat}{pl:List Nat}(h:pl.length≤size-2)(h2:2≤size):(sealW size ad tag pl).getD (size-1) 0=lastW (frontW size tag pl) (pl.length+1) ad:=by
 unfold sealW;exact getD_split (front_len h h2)
theorem seal_num{size ad tag:Nat}{pl:List Nat}(h:pl.length≤size-2)(h2:2≤size):numW (sealW size ad tag pl)=pl.length+1:=by
 unfold numW;rw[seal_len h h2,seal_last h h2,last_div]
theorem seal_tag{size ad tag:Nat}{pl:List Nat}(h:pl.length≤size-2)(h2:2≤size):tagW (sealW size ad tag pl)=tag:=by
 unfold tagW;rw[seal_len h h2]
 unfold sealW
 have e:frontW size tag pl++[lastW (frontW size tag pl) (pl.length+1) ad]=(pl++List.replicate (size-2-pl.length) 0)++tag::[lastW (frontW size tag pl) (pl.length+1) ad]:=by
  conv=>lhs;unfold frontW
  rw[List.append_assoc,List.singleton_append];rfl
 rw[e]
 exact getD_split (by simp;omega)
theorem seal_take{size ad tag:Nat}{pl:List Nat}:(sealW size ad tag pl).take pl.length=pl:=by
 unfold sealW frontW
 rw[List.append_assoc,List.append_assoc]
 exact List.take_left' rfl
theorem seal_ok{size ad tag:Nat}{pl:List Nat}(h:pl.length≤size-2)(h2:2≤size):okW (sealW size ad tag pl) ad=true:=by
 unfold okW
 rw[seal_num h h2,seal_tag h h2,seal_len h h2,Nat.add_sub_cancel,seal_take]
 simp;omega
theorem list_parts{b:List Nat}{n p:Nat}(hn:b.length=n)(h2:2≤n)(hp:p≤n-2):
  b=b.take p++(b.drop p).take (n-2-p)++[b.getD (n-2) 0]++[b.getD (n-1) 0]∧b.take (n-1)=b.take p++(b.drop p).take (n-2-p)++[b.getD (n-2) 0]:=by
 have h1:b.take (n-1)=b.take (n-2)++[b.getD (n-2) 0]:=by
  rw[show n-1=n-2+1 by omega,List.take_succ_eq_append_getElem (by omega),List.getD_eq_getElem?_getD,List.getElem?_eq_getElem (by omega)];rfl
 have h0:b.take (n-2)=b.take p++(b.drop p).take (n-2-p):=by
  conv=>lhs;rw[show n-2=p+(n-2-p)by omega]
  rw[List.take_add]
 have h3:b.take n=b.take (n-1)++[b.getD (n-1) 0]:=by
  conv=>lhs;rw[show n=n-1+1 by omega]
  rw[List.take_succ_eq_append_getElem (by omega),List.getD_eq_getElem?_getD,List.getElem?_eq_getElem (by omega)];rfl
 refine⟨?_,by rw[h1,h0]⟩
 rw[←h0,←h1,←h3,List.take_of_length_le (by omega)]
theorem all_zero_iff{l:List Nat}:(∀x∈l,x=0)↔l=List.replicate l.length 0:=by
 rw[List.eq_replicate_iff];simp
theorem ok_iff{b:List Nat}{ad n:Nat}(hn:b.length=n)(h2:2≤n)(h3:1≤numW b)(h4:numW b≤n-1):
  okW b ad=true↔(∀x∈(b.drop (numW b-1)).take (n-2-(numW b-1)),x=0)∧b.getD (n-1) 0=lastW (b.take (n-1)) (numW b) ad:=by
 have hp:numW b-1≤n-2:=by omega
 obtain⟨e1,e2⟩:=list_parts hn h2 hp
 have hlen:(b.take (numW b-1)).length=numW b-1:=by rw[List.length_take];omega
 have hmid:((b.drop (numW b-1)).take (n-2-(numW b-1))).length=n-2-(numW b-1):=by rw[List.length_take,List.length_drop];omega
 have hok:okW b ad=true↔b=sealW n ad (b.getD (n-2) 0) (b.take (numW b-1)):=by
  unfold okW tagW
  rw[hn]
  simp[h3,h4]
 rw[hok,all_zero_iff,hmid]
 have hS:sealW n ad (b.getD (n-2) 0) (b.take (numW b-1))=b.take (numW b-1)++List.replicate (n-2-(numW b-1)) 0++[b.getD (n-2) 0]++[lastW (b.take (numW b-1)++List.replicate (n-2-(numW b-1)) 0++[b.getD (n-2) 0]) (numW b) ad]:=by
  unfold sealW frontW
  rw[hlen,show numW b-1+1=numW b by omega]
 rw[hS,e2]
 generalize b.take (numW b-1)=P at*
 generalize(b.drop (numW b-1)).take (n-2-(numW b-1))=M at*
 generalize n-2-(numW b-1)=k at*
 generalize b.getD (n-2) 0=t at*
 generalize b.getD (n-1) 0=z at*
 generalize numW b=num at*
 constructor
 ·intro h
  rw[e1]at h
  have h5:=List.append_inj h (by simp[hmid])
  have h6:=List.append_inj h5.1 (by simp[hmid])
  have h7:=List.append_inj h6.1 rfl
  refine⟨h7.2,?_⟩
  have h8:z=lastW (P++List.replicate k 0++[t]) num ad:=by simpa using h5.2
  rw[h7.2];exact h8
 ·rintro⟨h5,h6⟩
  conv=>lhs;rw[e1,h6]
  rw[h5]
theorem ret_int{k:IntKind}{a b:Int}(h:a=b):Ending.returned (.int k a)=.returned (.int k b):=by rw[h]
theorem ret_bool{a b:Bool}(h:a=b):Ending.returned (.bool a)=.returned (.bool b):=by rw[h]
def Reads(k:IntKind)(w:World)(B:Nat)(a:Option Addr)(n:Nat)(l:List Nat):Prop:=
 l.length=n∧(∀x∈l,(Lit.int k x).wf=true)∧
 (0<n→∃b off,a=some ⟨b,off,none⟩∧b<B∧∀i,i<n→w.cell? ⟨b,off+i,none⟩=some (.int k (l.getD i 0:Nat)))
theorem Reads.at_{k:IntKind}{w:World}{B:Nat}{a:Option Addr}{n:Nat}{l:List Nat}(h:Reads k w B a n l){i:Nat}(hi:i<n):
  ∃b off c,a=some ⟨b,off,none⟩∧b<B∧w.cell? ⟨b,off+i,none⟩=some (.int k (c:Nat))∧(Lit.int k c).wf=true∧Hid (c=l.getD i 0):=by
 obtain⟨hl,hw,hc⟩:=h
 obtain⟨b,off,rfl,hb,hc⟩:=hc (by omega)
 refine⟨b,off,l.getD i 0,rfl,hb,hc i hi,hw _ ?_,rfl⟩
 have:i<l.length:=by omega
 rw[List.getD_eq_getElem?_getD,List.getElem?_eq_getElem this]
 exact List.getElem_mem this
theorem Reads.keep{k:IntKind}{w w':World}{B:Nat}{a:Option Addr}{n:Nat}{l:List Nat}(h:Reads k w B a n l)(hb:Below B w w'):Reads k w' B a n l:=by
 obtain⟨hl,hw,hc⟩:=h
 refine⟨hl,hw,fun hn=>?_⟩
 obtain⟨b,off,rfl,hbB,hc⟩:=hc hn
 exact⟨b,off,rfl,hbB,fun i hi=>(hb.cell (p:=⟨b,off+i,none⟩) hbB).trans (hc i hi)⟩
theorem Reads.drewN{k:IntKind}{w:World}{B:Nat}{a:Option Addr}{n:Nat}{l:List Nat}(h:Reads k w B a n l)(m:Nat):Reads k (w.drewN m) B a n l:=h
theorem Reads.mono{k:IntKind}{w:World}{B B':Nat}{a:Option Addr}{n:Nat}{l:List Nat}(h:Reads k w B a n l)(hb:B≤B'):Reads k w B' a n l:=by
 obtain⟨hl,hw,hc⟩:=h
 refine⟨hl,hw,fun hn=>?_⟩
 obtain⟨b,off,rfl,hbB,hc⟩:=hc hn
 exact⟨b,off,rfl,by omega,hc⟩
theorem below_drewN{B:Nat}{a w:World}(h:Below B a w)(n:Nat):Below B a (w.drewN n):=⟨h.os,h.tape,h.output,h.size,h.block⟩
theorem u64_lt{c:Nat}(h:(Lit.int .u64 c).wf=true):c<18446744073709551616:=by
 simp[Lit.wf,IntKind.min,IntKind.max,IntKind.signed,IntKind.bits]at h;omega
theorem u64_wf{c:Nat}(h:c<18446744073709551616):(Lit.int .u64 c).wf=true:=by
 simp[Lit.wf,IntKind.min,IntKind.max,IntKind.signed,IntKind.bits];omega
theorem info_parts{t:TypeId}{z:Value}{s b:Nat}(h:(Tryz.prog.info? t).map (fun i=>(i.zero,i.size,i.bytes))=some (some z,s,b)):
  ∃i,Tryz.prog.info? t=some i∧i.zero=some z∧i.size=s∧i.bytes=b:=by
 rcases hi:Tryz.prog.info? t with _|i
 ·rw[hi]at h;cases h
 ·rw[hi]at h;simp at h;exact⟨i,rfl,h.1,h.2.1,h.2.2⟩
def Row(w:World)(g:Nat)(t:TypeId)(cs:List Value):Prop:=w.heap[g]?=some (.cells cs.toArray t (0,0))
section
variable {w w' : World} {g : Nat} {t : TypeId} {cs : List Value}
theorem Row.lt(h:Row w g t cs):g<w.heap.size:=by
 rcases Nat.lt_or_ge g w.heap.size with hlt|hge
 ·exact hlt
 ·unfold Row at h;rw[Array.getElem?_eq_none hge]at h;cases h
theorem Row.cell(h:Row w g t cs)(i:Nat):w.cell? ⟨g,i,none⟩=cs[i]?:=by
 unfold Row at h;simp[World.cell?,h]
theorem Row.free(h:Row w g t cs)(i:Nat):w.frozen? ⟨g,i,none⟩=false:=frozen_of_row w g i _ t h
theorem Row.set(h:Row w g t cs)(i:Nat)(u:Value):Row (w.setCell ⟨g,i,none⟩ u) g t (cs.set i u):=by
 unfold Row at h⊢
 rw[heap_setCell_same w g i _ t u h];simp
theorem Row.far(h:Row w g t cs){p:Addr}(hp:g≠p.block)(u:Value):Row (w.setCell p u) g t cs:=(heap_setCell_other w p g u hp).trans h
theorem Row.drewN(h:Row w g t cs)(n:Nat):Row (w.drewN n) g t cs:=h
theorem Row.alloc(h:Row w g t cs)(o:Obj):Row (w.alloc o) g t cs:=(Below.heap_alloc w o g h.lt).trans h
theorem Row.below{B:Nat}(h:Row w g t cs)(hb:Below B w w')(hg:g<B):Row w' g t cs:=(hb.block g hg).trans h
theorem Row.reads{k:IntKind}{l:List Nat}(h:Row w g t cs){n:Nat}(hn:l.length=n)(hw:∀x∈l,(Lit.int k x).wf=true)
  (hc:∀i,i<n→cs[i]?=some (.int k (l.getD i 0:Nat))) {B:Nat} (hB:g<B):Reads k w B (some ⟨g,0,none⟩) n l:=
 ⟨hn,hw,fun _=>⟨g,0,rfl,hB,fun i hi=>by rw[Nat.zero_add,h.cell];exact hc i hi⟩⟩
end
theorem wpList_make_row{P:Program}(w:World){ops:Array Oper}{rest:List Oper}{o:Oper}{a:Act}{Q:Exit→Act→World→Prop}
  (hg:o.guard=none) (l c:Operand) (t:TypeId) (hop:o.op=Op.makeSlice t l c)
  (e:TypeId) (i:TypeInfo) (z:Value) (h1:P.underlying t=some (.slice e)) (h2:P.info? e=some i) (h3:i.zero=some z) (h4:i.size=1) (h5:z.cells=#[z])
  (kl kc:IntKind) (L C:Int) (n:Nat) (hl:a.eval l=.int kl L) (hc:a.eval c=.int kc C) (hL:L=(n:Int)) (hC:C=(n:Int)) (b2:i.bytes*n≤281474976710656) (b3:n≤9223372036854775807)
  (hK:∀w',Row w' w.heap.size e (List.replicate n z)→Below w.heap.size w w'→w'.heap.size=w.heap.size+1→wpList P ops Q rest (a.put o.dst (.slice (some ⟨w.heap.size,0,none⟩) n n)) w'):
  wpList P ops Q (o::rest) a w:=by
 refine wpList_plain hg fun K hK'=>?_
 have hb':(i.bytes:Int)*(n:Int)≤281474976710656:=by
  have h:((i.bytes*n:Nat):Int)≤281474976710656:=by omega
  rwa [Int.natCast_mul]at h
 have hrun:=run_make (P:=P) w t e i z h1 h2 h3 kl kc n n (by omega) (Int.le_refl _) hb' (by omega)
 subst hL
 subst hC
 simp only[Int.toNat_natCast]at hrun
 unfold Oper.wp
 simp[execOp,hop,hl,hc,hrun,Result.andThen]
 refine hK' _ _ (hK _ ?_ ((Below.refl _ _).alloc (Nat.le_refl _) _) (by simp))
 show _= _
 rw[heap_alloc_new,h4,Nat.mul_one,h5]
 congr 2
 exact Array.toList_inj.1 (by rw[toList_madeCells_one])
theorem run_append_nothing{P:Program}(w:World)(base:Nat)(t ty e:TypeId)(i:TypeInfo)(ht:P.underlying t=some (.slice e))(hi:P.info? e=some i)
  (v:Value) (n:Nat) (xs:List Value) (hown:w.ownsRow base e 1 v n xs) (c:Nat):(Builtin.append_ #[t,t] ty #[v,.slice none 0 c]).run P w=.ok v w:=by
 rcases hown.2 with⟨rfl,rfl⟩|⟨g,cap,cur,rfl,_,_,hnc,_⟩
 ·simp[Builtin.append_,run_underlying ht,sizeOf,typeInfo,hi,Builtin.lenOf,Builtin.firstCells]
 ·simp[Builtin.append_,run_underlying ht,sizeOf,typeInfo,hi,Builtin.lenOf,Builtin.firstCells,hnc,storeCells]
theorem wpList_append_list{P:Program}(w:World){ops:Array Oper}{rest:List Oper}{o:Oper}{a:Act}{Q:Exit→Act→World→Prop}(hgd:o.guard=none)(s x:Operand)(t:TypeId)
  (ho:o.op=.call {callee:=.builtin .append,args:=#[s,x],argTypes:=#[t,t]})
  (base:Nat) (e:TypeId) (i:TypeInfo) (z:Value) (bytes:Nat) (ht:P.underlying t=some (.slice e)) (hi:P.info? e=some i) (hz:i.zero=some z)
  (hsize:i.size=1) (hby:i.bytes=bytes) (hzs:z.cells.size=1)
  (v:Value) (n:Nat) (xs:List Value) (hs:a.eval s=v) (hown:w.ownsRow base e 1 v n xs)
  (A:Option Addr) (m c:Nat) (news:List Value) (hx:a.eval x=.slice A m c) (hl:news.length=m)
  (hnews:0<m→∃ad,A=some ad∧∀j u,news[j]?=some u→w.cell? (ad.add j)=some u) (h1:∀u∈news,u.oneCell'=true)
  (h63:n+m≤9223372036854775807) (hbytes:(n+m)*bytes≤140737488355328) (hbase:base≤w.heap.size)
  (h:∀v' w',w'.ownsRow base e 1 v' (n+m) (xs++news)→Below base w w'→wpList P ops Q rest (a.put o.dst v') w'):wpList P ops Q (o::rest) a w:=by
 rcases A with _|ad
 ·have hm:m=0:=by
   rcases Nat.eq_zero_or_pos m with h0|h0
   ·exact h0
   ·obtain⟨ad,hh,_⟩:=hnews h0;cases hh
  subst hm
  obtain rfl:news=[]:=List.eq_nil_of_length_eq_zero hl
  refine wpList_plain hgd fun K hK=>?_
  have hrun:=run_append_nothing (P:=P) w base t o.type e i ht hi v n xs hown c
  unfold Oper.wp
  simp[execOp,ho,resolve,invoke,builtin,hs,hx,hrun,Result.andThen]
  exact hK _ _ (h v w (by simpa using hown) (Below.refl _ _))
 ·refine wpList_append_own w hgd s x t ho base e i z 1 bytes ht hi hz hsize hby hzs (by omega) v n xs hs hown ad m c news hx (by omega) ?_ h1 h63 hbytes hbase ?_
  ·intro j u hj
   rcases Nat.eq_zero_or_pos m with h0|h0
   ·obtain rfl:news=[]:=List.eq_nil_of_length_eq_zero (by omega)
    simp at hj
   ·obtain⟨ad',hh,hc⟩:=hnews h0
    injection hh with hh;subst hh
    exact hc j u hj
  ·intro v' w' h2 h3 _
   exact h v' w' h2 ((Below.refl _ _).grown h3 hbase fun k hk=>(hown.lt k hk).1)
theorem own_reads{w:World}{base:Nat}{e:TypeId}{v:Value}{n:Nat}{k:IntKind}{l:List Nat}(h:w.ownsRow base e 1 v n (l.map fun c:Nat=>Value.int k c))(hw:∀x∈l,(Lit.int k x).wf=true):
  ∃A c,v=.slice A n c∧Reads k w w.heap.size A n l∧l.length=n:=by
 obtain⟨hl,h2⟩:=h
 have hl':l.length=n:=by simpa using hl
 rcases h2 with⟨rfl,rfl⟩|⟨g,cap,cur,rfl,hg,hh,hcap,hm,hs,ht⟩
 ·exact⟨none,0,rfl,⟨hl',hw,fun h=>absurd h (by omega)⟩,hl'⟩
 ·refine⟨some ⟨g,0,none⟩,cap,rfl,⟨hl',hw,fun _=>⟨g,0,rfl,?_,fun i hi=>?_⟩⟩,hl'⟩
  ·rcases Nat.lt_or_ge g w.heap.size with hlt|hge
   ·exact hlt
   ·rw[Array.getElem?_eq_none hge]at hh;cases hh
  ·have h3:w.cell? ⟨g,0+i,none⟩=cur[0+i]?:=by simp[World.cell?,hh]
   rw[h3,Nat.zero_add]
   have h4:(cur.toList.take (n*1))[i]?=cur.toList[i]?:=by rw[List.getElem?_take,if_pos (by omega)]
   rw[ht]at h4
   rw[←Array.getElem?_toList,←h4,List.getElem?_map,List.getD_eq_getElem?_getD]
   rw[List.getElem?_eq_getElem (by omega)];rfl
theorem own_row{w:World}{base:Nat}{e:TypeId}{v:Value}{n:Nat}{xs:List Value}(h:w.ownsRow base e 1 v n xs)(hn:0<n):
  ∃g cap cs,v=.slice (some ⟨g,0,none⟩) n cap∧base≤g∧Row w g e cs∧n≤cap∧cap≤maxLen∧cs.length=cap∧cs.take n=xs:=by
 rcases h.2 with⟨_,h0⟩|⟨g,cap,cur,rfl,hg,hh,hcap,hm,hs,ht⟩
 ·omega
 ·exact⟨g,cap,cur.toList,rfl,hg,hh,hcap,hm,by simpa using hs,by simpa using ht⟩
def IsRow(k:IntKind)(w:World)(a:Option Addr)(len cap:Nat)(zs:List Int):Prop:=
 (a=none∧len=0∧cap=0∧zs=[])∨
 ∃x,a=some x∧len≤cap∧cap≤maxLen∧zs.length=cap∧(∀i,i<zs.length→w.cell? (x.add i)=some (.int k (zs.getD i 0)))∧∀n∈zs,(Lit.int k n).wf=true
theorem IsRow.reads{k:IntKind}{w:World}{a:Option Addr}{len cap:Nat}{zs:List Int}(h:IsRow k w a len cap zs)(h0:∀n:Int,(Lit.int k n).wf=true→0≤n):
  ∃l:List Nat,Reads k w w.heap.size a len l:=by
 rcases h with⟨rfl,rfl,rfl,rfl⟩|⟨x,rfl,hlc,hm,hz,hcell,hwf⟩
 ·exact⟨[],rfl,by simp,fun h=>absurd h (by omega)⟩
 ·refine⟨(zs.take len).map Int.toNat,by simp;omega,?_,fun hpos=>?_⟩
  ·intro c hc
   obtain⟨z,hz1,rfl⟩:=List.mem_map.1 hc
   have hz2:=hwf z (List.mem_of_mem_take hz1)
   rw[Int.toNat_of_nonneg (h0 z hz2)];exact hz2
  ·obtain⟨b,off,spot⟩:=x
   have hc:=hcell 0 (by omega)
   have hspot:spot=none:=by simpa [Addr.add]using World.cell?_spot hc
   subst hspot
   refine⟨b,off,rfl,block_lt_of_cell hc,fun i hi=>?_⟩
   have hi':i<zs.length:=by omega
   have h1:=hcell i hi'
   have e:(⟨b,off,none⟩:Addr).add i=⟨b,off+i,none⟩:=by unfold Addr.add;split<;>simp_all
   rw[e]at h1
   rw[h1,List.getD_eq_getElem?_getD,List.getD_eq_getElem?_getD,List.getElem?_map,List.getElem?_take,if_pos hi,List.getElem?_eq_getElem hi']
   have:=h0 zs[i] (hwf _ (List.getElem_mem hi'))
   simp[Int.toNat_of_nonneg this]
theorem IsRow.cap{k:IntKind}{w:World}{a:Option Addr}{len cap:Nat}{zs:List Int}(h:IsRow k w a len cap zs):len≤cap∧cap≤9223372036854775807:=by
 rcases h with⟨_,h1,h2,_⟩|⟨_,_,h1,h2,_⟩
 ·omega
 ·unfold maxLen at h2;omega
theorem i64_bounds{n:Int}(h:(Lit.int .i64 n).wf=true):-9223372036854775808≤n∧n≤9223372036854775807:=by
 simp[Lit.wf,IntKind.min,IntKind.max,IntKind.signed,IntKind.bits]at h;omega
theorem run_cut{P:Program}(w:World)(t e:TypeId)(i0:TypeInfo)(ht:P.underlying t=some (.slice e))(hi:P.info? e=some i0)(hs:i0.size=1)(b off len cap i j:Nat)(hij:i≤j)(hj:j≤cap)(hne:i<cap)
  (kl kh:IntKind) (I J:Int) (hI:I=i) (hJ:J=j):
  (Instr.slice t (.slice (some ⟨b,off,none⟩) len cap) (some (.int kl I)) (some (.int kh J)) none).run P w=.ok (.slice (some ⟨b,off+i,none⟩) (j-i) (cap-i)) w:=by
 subst hI hJ
 have he:P.elem t=e:=by simp[Program.elem,ht]
 rw[run_slice_lh w t _ len cap (by rw[he];exact ht) kl kh i j (by omega) (by omega) (by omega)]
 have hne':¬cap=i:=by omega
 simp[he,sizeOf,typeInfo,hi,hs,sliced,hne',Addr.add]
theorem stopAt{P:Program}{ops:Array Oper}{Q:Exit→Act→World→Prop}{rest:List Oper}{a:Act}{w:World}(s:Nat){op:Op}{ty:TypeId}{pos:String}{after:Array Edge}{guard:Option (Nat×Bool)}
  (h:Hid (wpList P ops Q (⟨some s,op,ty,pos,after,guard⟩::rest) a w)):wpList P ops Q (⟨some s,op,ty,pos,after,guard⟩::rest) a w:=h
theorem Reads.source{k:IntKind}{w:World}{B:Nat}{a:Option Addr}{n:Nat}{l:List Nat}(h:Reads k w B a n l):
  0<n→∃ad,a=some ad∧∀j u,(l.map fun c:Nat=>Value.int k c)[j]?=some u→w.cell? (ad.add j)=some u:=by
 intro hpos
 obtain⟨hlen,_,hc⟩:=h
 obtain⟨b,off,rfl,hb,hc⟩:=hc hpos
 refine⟨_,rfl,fun j v hj=>?_⟩
 have hjl:j<l.length:=by
  rcases Nat.lt_or_ge j l.length with hlt|hge
  ·exact hlt
  ·rw[List.getElem?_eq_none (by simpa using hge)]at hj;cases hj
 have h1:=hc j (by omega)
 rw[List.getElem?_map,List.getElem?_eq_getElem hjl]at hj
 have e:(⟨b,off,none⟩:Addr).add j=⟨b,off+j,none⟩:=by unfold Addr.add;split<;>simp_all
 rw[e,h1,←hj]
 simp[hjl]
theorem cells_int{k:IntKind}{l:List Nat}:∀u∈l.map (fun c:Nat=>Value.int k c),u.oneCell'=true:=by
 intro v hv;obtain⟨c,_,rfl⟩:=List.mem_map.1 hv;rfl
theorem Reads.take{k:IntKind}{w:World}{B:Nat}{a:Option Addr}{n m:Nat}{l:List Nat}(h:Reads k w B a n l)(hm:m≤n):Reads k w B a m (l.take m):=by
 obtain⟨hl,hw,hc⟩:=h
 refine⟨by simp;omega,fun x hx=>hw x (List.mem_of_mem_take hx),fun hpos=>?_⟩
 obtain⟨b,off,rfl,hb,hc⟩:=hc (by omega)
 refine⟨b,off,rfl,hb,fun i hi=>?_⟩
 rw[hc i (by omega)]
 simp only[List.getD_eq_getElem?_getD,List.getElem?_take,if_pos hi]
theorem run_head{P:Program}(w:World)(t e:TypeId)(i0:TypeInfo)(ht:P.underlying t=some (.slice e))(hi:P.info? e=some i0)(a:Option Addr)(len cap j:Nat)(hj:j≤cap)
  (kh:IntKind) (J:Int) (hJ:J=j):
  (Instr.slice t (.slice a len cap) none (some (.int kh J)) none).run P w=.ok (.slice a j cap) w:=by
 subst hJ
 have he:P.elem t=e:=by simp[Program.elem,ht]
 rw[run_slice_h w t a len cap (by rw[he];exact ht) kh j (by omega) (by omega)]
 have e2:a.map (fun x:Addr=>x.add 0)=a:=by cases a<;>simp[Addr.add]
 simp[he,sizeOf,typeInfo,hi,sliced,e2]
def I64(n:Int):Prop:=(Lit.int .i64 n).wf=true
theorem I64.bounds{n:Int}(h:I64 n):-9223372036854775808≤n∧n≤9223372036854775807:=i64_bounds h
theorem I64.of{n:Int}(h0:-9223372036854775808≤n)(h1:n≤9223372036854775807):I64 n:=by
 simp[I64,Lit.wf,IntKind.min,IntKind.max,IntKind.signed,IntKind.bits];omega
structure Far (F:Nat→Prop) (w w':World):Prop where
 os:w'.os=w.os
 tape:w'.tape=w.tape
 output:w'.output=w.output
 size:w.heap.size≤w'.heap.size
 block:∀k,k<w.heap.size→¬F k→w'.heap[k]?=w.heap[k]?
section
variable {F F' : Nat → Prop} {w w1 w2 : World}
theorem Far.refl(F:Nat→Prop)(w:World):Far F w w:=⟨rfl,rfl,rfl,Nat.le_refl _,fun _ _ _=>rfl⟩
theorem Far.trans(h:Far F w w1)(k:Far F' w1 w2)(hF:∀b,F' b→F b∨w.heap.size≤b):Far F w w2:=
 ⟨k.os.trans h.os,k.tape.trans h.tape,k.output.trans h.output,Nat.le_trans h.size k.size,fun b hb hn=>(k.block b (Nat.lt_of_lt_of_le hb h.size) fun hf=>by
  rcases hF b hf with h1|h1
  ·exact hn h1
  ·omega).trans (h.block b hb hn)⟩
theorem Far.of_below(h:Below w.heap.size w w1)(F:Nat→Prop):Far F w w1:=⟨h.os,h.tape,h.output,h.size,fun k hk _=>h.block k hk⟩
theorem Far.below(h:Far F w w1){B:Nat}(hB:B≤w.heap.size)(hF:∀b,F b→B≤b):Below B w w1:=⟨h.os,h.tape,h.output,h.size,fun k hk=>h.block k (by omega) fun hf=>by have:=hF k hf;omega⟩
theorem Far.mono(h:Far F w w1)(hF:∀b,F b→F' b):Far F' w w1:=⟨h.os,h.tape,h.output,h.size,fun k hk hn=>h.block k hk fun hf=>hn (hF k hf)⟩
theorem Far.drewN(h:Far F w w1)(m:Nat):Far F w (w1.drewN m):=⟨h.os,h.tape,h.output,h.size,h.block⟩
theorem Far.drew(h:Far F w w1):Far F w w1.drew:=⟨h.os,h.tape,h.output,h.size,h.block⟩
theorem Far.set(h:Far F w w1){p:Addr}(hp:F p.block∨w.heap.size≤p.block)(v:Value):Far F w (w1.setCell p v):=by
 have h0:=(Below.refl 0 w1).setCell (Nat.zero_le p.block) v
 refine h.trans (F':=fun b=>b=p.block) ⟨h0.os,h0.tape,h0.output,h0.size,fun k _ hn=>heap_setCell_other w1 p k v hn⟩ ?_
 intro b hb;subst hb;exact hp
theorem Far.alloc(h:Far F w w1)(o:Obj):Far F w (w1.alloc o):=h.trans (Far.of_below ((Below.refl _ w1).alloc (Nat.le_refl _) o) fun _=>False) fun _ hf=>hf.elim
theorem Far.grown(h:Far F w w1){row:Option Nat}(hg:w1.grownBy w2 row)(hr:∀k,row=some k→F k∨w.heap.size≤k):Far F w w2:=
 h.trans (F':=fun b=>row=some b) ⟨hg.os,hg.tape,hg.output,hg.size,fun k hk hn=>hg.block k hk fun e=>hn e.symm⟩ fun b hb=>hr b hb
theorem Far.row(h:Far F w w1){g:Nat}{t:TypeId}{cs:List Value}(hr:Row w g t cs)(hn:¬F g):Row w1 g t cs:=(h.block g hr.lt hn).trans hr
end
def ReadsB(w:World)(B:Nat)(a:Option Addr)(n:Nat)(l:List Bool):Prop:=
 l.length=n∧(0<n→∃b off,a=some ⟨b,off,none⟩∧b<B∧∀i,i<n→w.cell? ⟨b,off+i,none⟩=some (.bool (l.getD i false)))
theorem ReadsB.keep{w w':World}{B:Nat}{a:Option Addr}{n:Nat}{l:List Bool}(h:ReadsB w B a n l)(hb:Below B w w'):ReadsB w' B a n l:=by
 obtain⟨hl,hc⟩:=h
 refine⟨hl,fun hn=>?_⟩
 obtain⟨b,off,rfl,hbB,hc⟩:=hc hn
 exact⟨b,off,rfl,hbB,fun i hi=>(hb.cell (p:=⟨b,off+i,none⟩) hbB).trans (hc i hi)⟩
theorem ReadsB.far{w w1:World}{B:Nat}{A:Option Addr}{n:Nat}{l:List Bool}{F:Nat→Prop}(h:ReadsB w B A n l)(hB:B≤w.heap.size)(hf:Far F w w1)(hF:0<n→∀b off,A=some ⟨b,off,none⟩→¬F b):ReadsB w1 B A n l:=by
 obtain⟨h1,h3⟩:=h
 refine⟨h1,fun hn=>?_⟩
 obtain⟨b,off,hA,hb,hc⟩:=h3 hn
 refine⟨b,off,hA,hb,fun i hi=>?_⟩
 rw[World.cell?_of_block (w:=w) (w':=w1) (hf.block b (by omega) (hF hn b off hA))]
 exact hc i hi
theorem ReadsB.mono{w:World}{B B':Nat}{a:Option Addr}{n:Nat}{l:List Bool}(h:ReadsB w B a n l)(hb:B≤B'):ReadsB w B' a n l:=by
 obtain⟨hl,hc⟩:=h
 refine⟨hl,fun hn=>?_⟩
 obtain⟨b,off,rfl,hbB,hc⟩:=hc hn
 exact⟨b,off,rfl,by omega,hc⟩
theorem stopMap{P:Program}{ops:Array Oper}{Q:Exit→Act→World→Prop}{rest:List Oper}{a:Act}{w:World}{t:TypeId}{m x v:Operand}{ty:TypeId}{pos:String}{after:Array Edge}{guard:Option (Nat×Bool)}
  (h:Hid (wpList P ops Q (⟨none,.mapUpdate t m x v,ty,pos,after,guard⟩::rest) a w)):wpList P ops Q (⟨none,.mapUpdate t m x v,ty,pos,after,guard⟩::rest) a w:=h
structure Kept (K:Obj→Prop) (w w':World):Prop where
 os:w'.os=w.os
 tape:w'.tape=w.tape
 output:w'.output=w.output
 size:w.heap.size≤w'.heap.size
 block:∀(k:Nat) (o:Obj),w.heap[k]?=some o→¬K o→w'.heap[k]?=some o
def rowsOf(T:TypeId→Prop)(o:Obj):Prop:=∃(cs:Array Value) (t:TypeId),o=.cells cs t (0,0)∧T t
section
variable {K : Obj → Prop} {T : TypeId → Prop} {w w1 w2 : World}
theorem Kept.refl(K:Obj→Prop)(w:World):Kept K w w:=⟨rfl,rfl,rfl,Nat.le_refl _,fun _ _ h _=>h⟩
theorem Kept.trans(h:Kept K w w1)(k:Kept K w1 w2):Kept K w w2:=⟨k.os.trans h.os,k.tape.trans h.tape,k.output.trans h.output,Nat.le_trans h.size k.size,fun i o hi ho=>k.block i o (h.block i o hi ho) ho⟩
theorem Kept.drew(h:Kept K w w1):Kept K w w1.drew:=⟨h.os,h.tape,h.output,h.size,h.block⟩
theorem Kept.drewN(h:Kept K w w1)(m:Nat):Kept K w (w1.drewN m):=⟨h.os,h.tape,h.output,h.size,h.block⟩
theorem lt_of_some{k:Nat}{o:Obj}(h:w.heap[k]?=some o):k<w.heap.size:=by
 rcases Nat.lt_or_ge k w.heap.size with h1|h1
 ·exact h1
 ·rw[Array.getElem?_eq_none h1]at h;cases h
theorem Kept.of_below(h:Below w.heap.size w w1)(K:Obj→Prop):Kept K w w1:=⟨h.os,h.tape,h.output,h.size,fun k _ hk _=>(h.block k (lt_of_some hk)).trans hk⟩
theorem Kept.row(h:Kept (rowsOf T) w w1){k:Nat}{t:TypeId}{cs:List Value}(hr:Row w k t cs)(ht:¬T t):Row w1 k t cs:=
 h.block k _ hr fun⟨_,_,e,hT⟩=>ht (by injection e with _ e;subst e;exact hT)
theorem Kept.set(h:Kept (rowsOf T) w w1){p:Addr}{t:TypeId}{cs:List Value}(hr:Row w1 p.block t cs)(ht:T t)(v:Value):Kept (rowsOf T) w (w1.setCell p v):=by
 have h0:=(Below.refl 0 w1).setCell (Nat.zero_le p.block) v
 refine h.trans ⟨h0.os,h0.tape,h0.output,h0.size,fun k o hk ho=>?_⟩
 rw[heap_setCell_other w1 p k v fun e=>?_]
 ·exact hk
 ·subst e
  unfold Row at hr
  rw[hr]at hk;injection hk with hk;subst hk
  exact ho ⟨_,_,rfl,ht⟩
theorem Kept.append(h:Kept (rowsOf T) w w1){base:Nat}{e:TypeId}{n:Nat}{v:Value}{xs:List Value}{s:Nat}(hown:w1.ownsRow base e s v n xs)(hT:T e)(hb:Below base w1 w2)(hf:∀k,k<w1.heap.size→some k≠v.ownBlock→w2.heap[k]?=w1.heap[k]?):Kept (rowsOf T) w w2:=by
 refine h.trans ⟨hb.os,hb.tape,hb.output,hb.size,fun k o hk ho=>(hf k (lt_of_some hk) fun e1=>?_).trans hk⟩
 rcases hown.2 with⟨rfl,_⟩|⟨g,cap,cur,rfl,_,hh,_⟩
 ·simp[Value.ownBlock]at e1
 ·simp only[Value.ownBlock]at e1
  injection e1 with e1;subst e1
  rw[hh]at hk;injection hk with hk;subst hk
  exact ho ⟨_,_,rfl,hT⟩
end
theorem ownsRow_same{w w':World}{base s:Nat}{e:TypeId}{v:Value}{n:Nat}{xs:List Value}(h:w.ownsRow base e s v n xs)(hb:∀k,v.ownBlock=some k→w'.heap[k]?=w.heap[k]?):w'.ownsRow base e s v n xs:=by
 obtain⟨h1,h2⟩:=h
 refine⟨h1,?_⟩
 rcases h2 with h2|⟨g,cap,cur,rfl,hg,hh,r⟩
 ·exact .inl h2
 ·exact .inr ⟨g,cap,cur,rfl,hg,(hb g rfl).trans hh,r⟩
section
variable {α : Type}
def upd(f:Int→Option α)(i:Int)(x:α):Int→Option α:=fun k=>if k=i then some x else f k
def lay(f:Int→Option α)(l:List (Int×α)):Int→Option α:=l.foldl (fun f e=>upd f e.1 e.2) f
def nothing:Int→Option α:=fun _=>none
theorem upd_same(f:Int→Option α)(i:Int)(x:α):upd f i x i=some x:=by simp[upd]
theorem upd_other(f:Int→Option α){i k:Int}(x:α)(h:k≠i):upd f i x k=f k:=by simp[upd,h]
theorem lay_snoc(f:Int→Option α)(l:List (Int×α))(i:Int)(x:α):lay f (l++[(i,x)])=upd (lay f l) i x:=by simp[lay,List.foldl_append]
def over(f g:Int→Option α):Int→Option α:=fun k=>match f k with|some x=>some x|none=>g k
theorem over_upd(f g:Int→Option α)(i:Int)(x:α):over (upd f i x) g=upd (over f g) i x:=by
 funext k
 by_cases h:k=i
 ·subst h;simp[over,upd]
 ·simp[over,upd,h]
theorem lay_over(g:Int→Option α):∀(l:List (Int×α)) (f:Int→Option α),lay (over f g) l=over (lay f l) g
 |[],_=>rfl
 |e::l,f=>by
  show lay (upd (over f g) e.1 e.2) l=over (lay (upd f e.1 e.2) l) g
  rw[←over_upd];exact lay_over g l _
theorem over_nothing(g:Int→Option α):over nothing g=g:=by funext k;rfl
theorem lay_eq(g:Int→Option α)(l:List (Int×α)):lay g l=over (lay nothing l) g:=by rw[←lay_over,over_nothing]
def kept:List Bool→List (Int×α)→List (Int×α)
 | _,[]=>[]
 |[],_=>[]
 |b::k,e::l=>if b then e::kept k l else kept k l
theorem lay_all(p:α→Prop):∀(l:List (Int×α)) (f:Int→Option α),(∀k x,f k=some x→p x)→(∀e∈l,p e.2)→∀k x,lay f l k=some x→p x
 |[],f,hf,_=>hf
 |e::l,f,hf,hl=>by
  refine lay_all p l (upd f e.1 e.2) ?_ fun e' he=>hl e' (List.mem_cons_of_mem _ he)
  intro k x hx
  by_cases h:k=e.1
  ·subst h;rw[upd_same]at hx;injection hx with hx;subst hx;exact hl e List.mem_cons_self
  ·rw[upd_other _ _ h]at hx;exact hf k x hx
end
structure St where
 size:Nat
 blocks:Int
 fl:Int→Option (List Nat)
 later:List (Int×List Nat)
 fb:Bool
 fn:Int
 tb:Bool
 tn:Int
 down:Bool
 acts:Int
def fresh(size:Nat)(blocks:Int):St:=⟨size,blocks,nothing,[],false,0,false,0,false,0⟩
def blk(n:Nat)(o:Option (List Nat)):List Nat:=match o with|some l=>l|none=>List.replicate n 0
def St.now(s:St)(x:Int):List Nat:=blk s.size (lay s.fl s.later x)
def begin(s:St)(right:Bool):Int×St:=
 if s.down then (8,s)else if right=false then (1,s)
 else if s.fb=true∧s.fn=0 then (8,{s with down:=true})
 else
  let fn':=if s.fb then s.fn-1 else s.fn
  if s.tb=true∧s.tn=0 then (6,{s with fn:=fn',tb:=false,tn:=0})
  else (0,{s with fn:=fn',tn:=if s.tb then s.tn-1 else s.tn,acts:=s.acts+1})
def right(s:St)(i:Int):Bool:=decide (0≤i)&&decide (i<s.blocks)
def read(s:St)(i:Int):Int×St:=begin s (right s i)
def write(s:St)(i:Int)(l:List Nat):Int×St:=
 let r:=begin s (right s i&&decide (l.length=s.size))
 if r.1=0 then (0,{r.2 with later:=s.later++[(i,l)]})else r
theorem begin_same(s:St)(b:Bool):(begin s b).2.size=s.size∧(begin s b).2.blocks=s.blocks∧(begin s b).2.fl=s.fl∧(begin s b).2.later=s.later:=by
 unfold begin;split<;>(try split)<;>(try split)<;>(try dsimp only)<;>(try split)<;>exact⟨rfl,rfl,rfl,rfl⟩
theorem begin_acts(s:St)(b:Bool):(begin s b).2.acts=s.acts∨(begin s b).2.acts=s.acts+1:=by
 unfold begin;split<;>(try split)<;>(try split)<;>(try dsimp only)<;>(try split)<;>first|exact .inl rfl|exact .inr rfl
def Calm(s:St):Prop:=s.down=false∧s.fb=false∧s.tb=false
theorem fresh_calm(n:Nat)(b:Int):Calm (fresh n b):=⟨rfl,rfl,rfl⟩
theorem begin_down(s:St)(b:Bool)(h1:s.down=true):begin s b=(8,s):=by unfold begin;simp[h1]
theorem getD_memP{l:List (Int×Int)}{i:Nat}(h:i<l.length):l.getD i (0,0)∈l:=by
 rw[List.getD_eq_getElem?_getD,List.getElem?_eq_getElem h];exact List.getElem_mem h
def ReadsE(w:World)(B:Nat)(a:Option Addr)(n:Nat)(l:List (Int×Int)):Prop:=
 l.length=n∧(∀x∈l,I64 x.1∧I64 x.2)∧
 (0<n→∃b off,a=some ⟨b,off,none⟩∧b<B∧∀i,i<n→w.cell? ⟨b,off+i*2,none⟩=some (.int .i64 (l.getD i (0,0)).1)∧w.cell? ⟨b,off+i*2+1,none⟩=some (.int .i64 (l.getD i (0,0)).2))
theorem ReadsE.at_{w:World}{B:Nat}{a:Option Addr}{n:Nat}{l:List (Int×Int)}(h:ReadsE w B a n l){i:Nat}(hi:i<n):
  ∃b off u v,a=some ⟨b,off,none⟩∧b<B∧w.cell? ⟨b,off+i*2,none⟩=some (.int .i64 u)∧w.cell? ⟨b,off+i*2+1,none⟩=some (.int .i64 v)∧I64 u∧I64 v∧Hid (l.getD i (0,0)=(u,v)):=by
 obtain⟨hl,hw,hc⟩:=h
 obtain⟨b,off,rfl,hb,hc⟩:=hc (by omega)
 have hm:=hw _ (getD_memP (l:=l) (i:=i) (by omega))
 exact⟨b,off,_,_,rfl,hb,(hc i hi).1,(hc i hi).2,hm.1,hm.2,rfl⟩
theorem ReadsE.keep{w w':World}{B:Nat}{a:Option Addr}{n:Nat}{l:List (Int×Int)}(h:ReadsE w B a n l)(hb:Below B w w'):ReadsE w' B a n l:=by
 obtain⟨hl,hw,hc⟩:=h
 refine⟨hl,hw,fun hn=>?_⟩
 obtain⟨b,off,rfl,hbB,hc⟩:=hc hn
 exact⟨b,off,rfl,hbB,fun i hi=>⟨(hb.cell (p:=⟨b,off+i*2,none⟩) hbB).trans (hc i hi).1,(hb.cell (p:=⟨b,off+i*2+1,none⟩) hbB).trans (hc i hi).2⟩⟩
theorem ReadsE.drewN{w:World}{B:Nat}{a:Option Addr}{n:Nat}{l:List (Int×Int)}(h:ReadsE w B a n l)(m:Nat):ReadsE (w.drewN m) B a n l:=h
theorem ReadsE.mono{w:World}{B B':Nat}{a:Option Addr}{n:Nat}{l:List (Int×Int)}(h:ReadsE w B a n l)(hb:B≤B'):ReadsE w B' a n l:=by
 obtain⟨hl,hw,hc⟩:=h
 refine⟨hl,hw,fun hn=>?_⟩
 obtain⟨b,off,rfl,hbB,hc⟩:=hc hn
 exact⟨b,off,rfl,by omega,hc⟩
theorem ReadsE.nil(w:World)(B:Nat)(a:Option Addr):ReadsE w B a 0 []:=⟨rfl,by simp,fun h=>absurd h (by omega)⟩
theorem ReadsE.lt{w:World}{B:Nat}{a:Option Addr}{n:Nat}{l:List (Int×Int)}(h:ReadsE w B a n l){x:Addr}(hx:a=some x)(hn:0<n):x.block<B:=by
 obtain⟨b,off,rfl,hb,_⟩:=h.2.2 hn
 injection hx with hx;subst hx;exact hb
def ReadsZ(w:World)(B:Nat)(a:Option Addr)(n:Nat)(l:List Int):Prop:=
 l.length=n∧(∀x∈l,I64 x)∧(0<n→∃b off,a=some ⟨b,off,none⟩∧b<B∧∀i,i<n→w.cell? ⟨b,off+i,none⟩=some (.int .i64 (l.getD i 0)))
theorem ReadsZ.at_{w:World}{B:Nat}{a:Option Addr}{n:Nat}{l:List Int}(h:ReadsZ w B a n l){i:Nat}(hi:i<n):
  ∃b off u,a=some ⟨b,off,none⟩∧b<B∧w.cell? ⟨b,off+i,none⟩=some (.int .i64 u)∧I64 u∧Hid (l.getD i 0=u):=by
 obtain⟨hl,hw,hc⟩:=h
 obtain⟨b,off,rfl,hb,hc⟩:=hc (by omega)
 have:i<l.length:=by omega
 have hm:l.getD i 0∈l:=by rw[List.getD_eq_getElem?_getD,List.getElem?_eq_getElem this];exact List.getElem_mem this
 exact⟨b,off,_,rfl,hb,hc i hi,hw _ hm,rfl⟩
theorem ReadsZ.keep{w w':World}{B:Nat}{a:Option Addr}{n:Nat}{l:List Int}(h:ReadsZ w B a n l)(hb:Below B w w'):ReadsZ w' B a n l:=by
 obtain⟨hl,hw,hc⟩:=h
 refine⟨hl,hw,fun hn=>?_⟩
 obtain⟨b,off,rfl,hbB,hc⟩:=hc hn
 exact⟨b,off,rfl,hbB,fun i hi=>(hb.cell (p:=⟨b,off+i,none⟩) hbB).trans (hc i hi)⟩
def tailA(a:Option Addr)(i cap sz:Nat):Option Addr:=if cap=i then a else a.map (·.add (i*sz))
theorem tailA_lt{g off i cap sz:Nat}(h:i<cap):tailA (some ⟨g,off,none⟩) i cap sz=some ⟨g,off+i*sz,none⟩:=by
 unfold tailA;rw[if_neg (by omega)];simp[Addr.add]
section
variable {P : Program} {w : World}
theorem run_tail(w:World)(t e:TypeId)(i0:TypeInfo){sz:Nat}(ht:P.underlying t=some (.slice e))(hi:P.info? e=some i0)(hs:i0.size=sz)(a:Option Addr)(len cap i:Nat)(hil:i≤len)
  (kl:IntKind) (I:Int) (hI:I=i):(Instr.slice t (.slice a len cap) (some (.int kl I)) none none).run P w=.ok (.slice (tailA a i cap sz) (len-i) (cap-i)) w:=by
 subst hI
 have he:P.elem t=e:=by simp[Program.elem,ht]
 rw[run_slice_l w t a len cap (by rw[he];exact ht) kl i (by omega) (by omega)]
 simp[he,sizeOf,typeInfo,hi,hs,sliced,tailA]
theorem run_mid(w:World)(t e:TypeId)(i0:TypeInfo){sz:Nat}(ht:P.underlying t=some (.slice e))(hi:P.info? e=some i0)(hs:i0.size=sz)(a:Option Addr)(len cap i j:Nat)(hij:i≤j)(hj:j≤cap)
  (kl kh:IntKind) (I J:Int) (hI:I=i) (hJ:J=j):(Instr.slice t (.slice a len cap) (some (.int kl I)) (some (.int kh J)) none).run P w=.ok (.slice (tailA a i cap sz) (j-i) (cap-i)) w:=by
 subst hI hJ
 have he:P.elem t=e:=by simp[Program.elem,ht]
 rw[run_slice_lh w t a len cap (by rw[he];exact ht) kl kh i j (by omega) (by omega) (by omega)]
 simp[he,sizeOf,typeInfo,hi,hs,sliced,tailA]
theorem splice_length{α:Type}(L:List α)(off:Nat)(cs:List α)(h:off+cs.length≤L.length):(splice L off cs).length=L.length:=length_splice L off cs h
theorem splice_get_out{α:Type}(L:List α)(off:Nat)(cs:List α)(h:off+cs.length≤L.length){k:Nat}(hk:k<off∨off+cs.length≤k):(splice L off cs)[k]?=L[k]?:=by
 unfold splice
 rcases hk with hk|hk
 ·rw[List.getElem?_append_left (by rw[List.length_take];omega),List.getElem?_take,if_pos hk]
 ·rw[List.getElem?_append_right (by rw[List.length_take];omega),List.getElem?_append_right (by rw[List.length_take];omega),List.getElem?_drop]
  congr 1;rw[List.length_take];omega
theorem take_splice2{α:Type}(C X Y:List α)(a b c:Nat)(hb:b=a+X.length)(hc:c=b+Y.length)(h:c≤C.length):(splice (splice C a X) b Y).take c=C.take a++X++Y:=by
 have h1:(splice C a X).take b=C.take a++X:=by
  unfold splice
  rw[←List.append_assoc,List.take_append_of_le_length (by simp;omega)]
  exact List.take_of_length_le (by simp;omega)
 unfold splice at h1⊢
 rw[h1,←List.append_assoc,List.take_append_of_le_length (by simp;omega)]
 exact List.take_of_length_le (by simp;omega)
theorem take_splice2r{α:Type}(C X Y:List α)(a b c:Nat)(hb:b=a+X.length)(hc:c=b+Y.length)(h:c≤C.length):(splice (splice C b Y) a X).take c=C.take a++X++Y:=by
 have e:splice (splice C b Y) a X=splice (splice C a X) b Y:=by
  apply List.ext_getElem?
  intro k
  have l1:(splice C a X).length=C.length:=length_splice _ _ _ (by omega)
  have l2:(splice C b Y).length=C.length:=length_splice _ _ _ (by omega)
  by_cases hx:a≤k∧k<a+X.length
  ·rw[splice_get_out (splice C a X) b Y (by omega) (by omega)]
   unfold splice
   rw[List.getElem?_append_right (by simp;omega),List.getElem?_append_left (by simp;omega),List.getElem?_append_right (by simp;omega),List.getElem?_append_left (by simp;omega)]
   congr 1
   simp;omega
  ·rw[splice_get_out (splice C b Y) a X (by omega) (by omega)]
   by_cases hy:b≤k∧k<b+Y.length
   ·unfold splice
    rw[List.getElem?_append_right (by simp;omega),List.getElem?_append_left (by simp;omega),List.getElem?_append_right (by simp;omega),List.getElem?_append_left (by simp;omega)]
    congr 1
    simp;omega
   ·rw[splice_get_out C b Y (by omega) (by omega),splice_get_out (splice C a X) b Y (by omega) (by omega),splice_get_out C a X (by omega) (by omega)]
 rw[e];exact take_splice2 C X Y a b c hb hc h
theorem Far.setRow(w:World)(g:Nat)(cs:Array Value):Far (fun k=>k=g) w (w.setRow g cs):=
 ⟨rfl,rfl,rfl,by simp[World.setRow],fun k _ hk=>setRow_other w g k cs hk⟩
theorem run_copy_rows(w:World)(dT sT ty e:TypeId){sz:Nat}(hu:P.underlying dT=some (.slice e))(hsz:(P.info? e).map (·.size)=some sz)(hsz0:0<sz)(dp sp:Option Addr)(dLen dCap sLen sCap g off:Nat)(cur:List Value)(t:TypeId)(hg:Row w g t cur)
  (cs:List Value) (hn:cs.length=Nat.min sLen dLen*sz) (hpos:0<cs.length→dp=some ⟨g,off,none⟩∧∃ad,sp=some ad∧∀j v,cs[j]?=some v→w.cell? (ad.add j)=some v) (hfit:off+cs.length≤cur.length) (h1:∀v∈cs,v.oneCell'=true):
  ∃w',(Builtin.copy_ #[dT,sT] ty #[.slice dp dLen dCap,.slice sp sLen sCap]).run P w=.ok (goInt (Nat.min sLen dLen)) w'∧Row w' g t (splice cur off cs)∧Far (fun k=>k=g) w w':=by
 obtain⟨i,hi,hs⟩:∃i,P.info? e=some i∧i.size=sz:=by
  rcases hq:P.info? e with _|i
  ·rw[hq]at hsz;cases hsz
  ·rw[hq]at hsz;exact⟨i,rfl,by simpa using hsz⟩
 by_cases h0:cs.length=0
 ·obtain rfl:cs=[]:=List.eq_nil_of_length_eq_zero h0
  have hmin:Nat.min sLen dLen=0:=by
   rcases Nat.eq_zero_or_pos (Nat.min sLen dLen)with h|h
   ·exact h
   ·have:=Nat.mul_pos h hsz0;simp at hn;omega
  have hl:∀(x:Addr),(loadCells x 0).run P w=.ok #[] w:=fun x=>by simpa using run_loadCells_list (P:=P) w x [] (by simp)
  refine⟨w,?_,by simpa [splice]using hg,Far.refl _ _⟩
  rw[hmin]
  cases dp<;>cases sp<;>simp[Builtin.copy_,run_underlying hu,Builtin.lenOf,Builtin.firstCells,sizeOf,typeInfo,hi,hmin,storeCells,hl]
 ·obtain⟨rfl,ad,rfl,hsrc⟩:=hpos (by omega)
  have hf:=run_firstCells_some (P:=P) w sz (Nat.min sLen dLen) ad sLen sCap cs hn hsrc
  have hst:=run_storeCells_at P g off t cs 0 cur.toArray w hg (by simpa using hfit) h1
  refine⟨w.setRow g (splice cur off cs).toArray,?_,setRow_heap w g _ _ t _ hg,Far.setRow w g _⟩
  simp only[Nat.add_zero]at hst
  have e2:splice cur off cs=cur.take off++cs++cur.drop (off+cs.length):=by unfold splice;rw[List.append_assoc]
  simp[Builtin.copy_,run_underlying hu,Builtin.lenOf,sizeOf,typeInfo,hi,hs,hf,hst,e2]
theorem wpList_copy_rows{ops:Array Oper}{rest:List Oper}{o:Oper}{a:Act}{Q:Exit→Act→World→Prop}(hgd:o.guard=none)(d s:Operand)(dT sT:TypeId)
  (ho:o.op=.call {callee:=.builtin .copy,args:=#[d,s],argTypes:=#[dT,sT]}) (e:TypeId) {sz:Nat} (hu:P.underlying dT=some (.slice e)) (hsz:(P.info? e).map (·.size)=some sz) (hsz0:0<sz)
  (dp sp:Option Addr) (dLen dCap sLen sCap:Nat) (hd:a.eval d=.slice dp dLen dCap) (hs:a.eval s=.slice sp sLen sCap) (g off:Nat) (cur:List Value) (t:TypeId) (hg:Row w g t cur)
  (cs:List Value) (hn:cs.length=Nat.min sLen dLen*sz) (hpos:0<cs.length→dp=some ⟨g,off,none⟩∧∃ad,sp=some ad∧∀j v,cs[j]?=some v→w.cell? (ad.add j)=some v) (hfit:off+cs.length≤cur.length) (h1:∀v∈cs,v.oneCell'=true)
  (h:∀w',Hid (Row w' g t (splice cur off cs))→Hid (Far (fun k=>k=g) w w')→wpList P ops Q rest (a.put o.dst (goInt (Nat.min sLen dLen))) w'):wpList P ops Q (o::rest) a w:=by
 obtain⟨w',hrun,h2,h3⟩:=run_copy_rows w dT sT o.type e hu hsz hsz0 dp sp dLen dCap sLen sCap g off cur t hg cs hn hpos hfit h1
 refine wpList_plain hgd fun K hK=>?_
 unfold Oper.wp
 simp[execOp,ho,resolve,invoke,builtin,hd,hs,hrun,Result.andThen]
 exact hK _ _ (h w' h2 h3)
theorem step_copy_rows{ops:Array Oper}{o:Oper}{a:Act}{K:Act→World→Prop}{Q:Exit→Act→World→Prop}{E:Prop}(hgd:o.guard=none)(d s:Operand)(dT sT:TypeId)
  (ho:o.op=.call {callee:=.builtin .copy,args:=#[d,s],argTypes:=#[dT,sT]}) (e:TypeId) {sz:Nat} (hu:P.underlying dT=some (.slice e)) (hsz:(P.info? e).map (·.size)=some sz) (hsz0:0<sz)
  (dp sp:Option Addr) (dLen dCap sLen sCap:Nat) (hd:a.eval d=.slice dp dLen dCap) (hs:a.eval s=.slice sp sLen sCap) (g off:Nat) (cur:List Value) (t:TypeId) (hg:Row w g t cur)
  (cs:List Value) (hn:cs.length=Nat.min sLen dLen*sz) (hpos:0<cs.length→dp=some ⟨g,off,none⟩∧∃ad,sp=some ad∧∀j v,cs[j]?=some v→w.cell? (ad.add j)=some v) (hfit:off+cs.length≤cur.length) (h1:∀v∈cs,v.oneCell'=true)
  (h:∀w',Hid (Row w' g t (splice cur off cs))→Hid (Far (fun k=>k=g) w w')→K (a.put o.dst (goInt (Nat.min sLen dLen))) w'):if Region.wanted o (yielded ops a.tmps)=true then Oper.wp P o a w K Q else E:=by
 have hw:Region.wanted o (yielded ops a.tmps)=true:=by simp[Region.wanted,hgd]
 rw[if_pos hw]
 obtain⟨w',hrun,h2,h3⟩:=run_copy_rows w dT sT o.type e hu hsz hsz0 dp sp dLen dCap sLen sCap g off cur t hg cs hn hpos hfit h1
 unfold Oper.wp
 simp[execOp,ho,resolve,invoke,builtin,hd,hs,hrun,Result.andThen]
 exact h w' h2 h3
theorem zeroCells_one{z:Array Value}(h:∀v∈z.toList,v.oneCell'=true)(n:Nat):∀v∈(Builtin.zeroCells z n).toList,v.oneCell'=true:=by
 intro v hv
 simp only[Builtin.zeroCells,Array.toList_map,List.mem_map,Array.mem_toList_iff]at hv
 obtain⟨i,hi,rfl⟩:=hv
 have hi:i<n*z.size:=by simpa using hi
 have hz:0<z.size:=by
  rcases Nat.eq_zero_or_pos z.size with h0|h0
  ·rw[h0,Nat.mul_zero]at hi;omega
  ·exact h0
 have hm:=Nat.mod_lt i hz
 rw[getElem!_pos z _ hm]
 exact h _ (by simp)
theorem run_clear_rows(w:World)(t e ty:TypeId)(z:Value){sz:Nat}(ht:P.underlying t=some (.slice e))(hv:∀w,(zeroValue e).run P w=.ok z w)(hz:z.cells.size=sz)(h1:∀v∈z.cells.toList,v.oneCell'=true)
  (A:Option Addr) (n c g off:Nat) (cur:List Value) (tt:TypeId) (hg:Row w g tt cur) (hpos:0<n→A=some ⟨g,off,none⟩) (hfit:off+n*sz≤cur.length):
  ∃w' cur',(Builtin.clear_ #[t] ty #[.slice A n c]).run P w=.ok (.tuple #[]) w'∧Row w' g tt cur'∧cur'.length=cur.length∧cur'.take off=cur.take off∧Far (fun k=>k=g) w w':=by
 cases n with
 |zero=>
  refine⟨w,cur,?_,hg,rfl,rfl,Far.refl _ _⟩
  cases A<;>simp[Builtin.clear_,run_underlying ht]
 |succ m=>
  obtain rfl:=hpos (by omega)
  have hlen:(Builtin.zeroCells z.cells (m+1)).toList.length=(m+1)*sz:=by simp[Builtin.zeroCells,hz]
  have hst:=run_storeCells_at P g off tt (Builtin.zeroCells z.cells (m+1)).toList 0 cur.toArray w hg (by rw[hlen];simpa using hfit) (zeroCells_one h1 _)
  simp only[Nat.add_zero]at hst
  refine⟨_,cur.take off++(Builtin.zeroCells z.cells (m+1)).toList++cur.drop (off+(Builtin.zeroCells z.cells (m+1)).toList.length),?_,setRow_heap w g cur.toArray _ tt (0,0) hg,?_,?_,Far.setRow w g _⟩
  ·simp[Builtin.clear_,run_underlying ht,hv,hst]
  ·simp[hlen];omega
  ·rw[List.append_assoc,List.take_append_of_le_length (by rw[List.length_take];omega)]
   rw[List.take_take,Nat.min_self]
end
theorem wpList_clear_rows{P:Program}{w:World}{ops:Array Oper}{rest:List Oper}{o:Oper}{a:Act}{Q:Exit→Act→World→Prop}(hgd:o.guard=none)(s:Operand)(t:TypeId)
  (ho:o.op=.call {callee:=.builtin .clear,args:=#[s],argTypes:=#[t]}) (e:TypeId) (z:Value) {sz:Nat} (ht:P.underlying t=some (.slice e)) (hv:∀w,(zeroValue e).run P w=.ok z w) (hz:z.cells.size=sz) (h1:∀v∈z.cells.toList,v.oneCell'=true)
  (A:Option Addr) (n c:Nat) (hs:a.eval s=.slice A n c) (g off:Nat) (cur:List Value) (tt:TypeId) (hg:Row w g tt cur) (hpos:0<n→A=some ⟨g,off,none⟩) (hfit:off+n*sz≤cur.length)
  (h:∀w' cur',Row w' g tt cur'→cur'.length=cur.length→cur'.take off=cur.take off→Far (fun k=>k=g) w w'→wpList P ops Q rest (a.put o.dst (.tuple #[])) w'):wpList P ops Q (o::rest) a w:=by
 obtain⟨w',cur',hrun,h2,h3,h4,h5⟩:=run_clear_rows w t e o.type z ht hv hz h1 A n c g off cur tt hg hpos hfit
 refine wpList_plain hgd fun K hK=>?_
 unfold Oper.wp
 simp[execOp,ho,resolve,invoke,builtin,hs,hrun,Result.andThen]
 exact hK _ _ (h w' cur' h2 h3 h4 h5)
theorem stopClear{P:Program}{ops:Array Oper}{Q:Exit→Act→World→Prop}{rest:List Oper}{a:Act}{w:World}{s:Operand}{ts:Array TypeId}{ty:TypeId}{pos:String}{after:Array Edge}{guard:Option (Nat×Bool)}
  (h:Hid (wpList P ops Q (⟨none,.call {callee:=.builtin .clear,args:=#[s],argTypes:=ts},ty,pos,after,guard⟩::rest) a w)):wpList P ops Q (⟨none,.call {callee:=.builtin .clear,args:=#[s],argTypes:=ts},ty,pos,after,guard⟩::rest) a w:=h
theorem wpList_append_row_room{P:Program}{w:World}{ops:Array Oper}{rest:List Oper}{o:Oper}{a:Act}{Q:Exit→Act→World→Prop}(hgd:o.guard=none)(s x:Operand)(t:TypeId)
  (ho:o.op=.call {callee:=.builtin .append,args:=#[s,x],argTypes:=#[t,t]}) (e:TypeId) (i:TypeInfo) {sz:Nat} (ht:P.underlying t=some (.slice e)) (hi:P.info? e=some i) (hsz:i.size=sz)
  (g k cap:Nat) (hs:a.eval s=.slice (some ⟨g,0,none⟩) k cap) (cur:List Value) (hg:Row w g e cur) (A:Option Addr) (m c:Nat) (hx:a.eval x=.slice A m c) (cs:List Value) (hl:cs.length=m*sz)
  (hsrc:0<m→∃ad,A=some ad∧∀j v,cs[j]?=some v→w.cell? (ad.add j)=some v) (h1:∀v∈cs,v.oneCell'=true) (hroom:k+m≤cap) (hfit:k*sz+cs.length≤cur.length)
  (h:∀w',Hid (Row w' g e (splice cur (k*sz) cs))→Hid (Far (fun b=>b=g) w w')→wpList P ops Q rest (a.put o.dst (.slice (some ⟨g,0,none⟩) (k+m) cap)) w'):wpList P ops Q (o::rest) a w:=by
 subst hsz
 rcases Nat.eq_zero_or_pos m with h0|h0
 ·subst h0
  obtain rfl:cs=[]:=List.eq_nil_of_length_eq_zero (by simpa using hl)
  have hld:∀ad:Addr,(loadCells ad 0).run P w=.ok #[] w:=fun ad=>by simpa using run_loadCells_list (P:=P) w ad [] (by simp)
  have hkc:k≤cap:=by omega
  have hrun:(Builtin.append_ #[t,t] o.type #[.slice (some ⟨g,0,none⟩) k cap,.slice A 0 c]).run P w=.ok (.slice (some ⟨g,0,none⟩) k cap) w:=by
   cases A<;>simp[Builtin.append_,run_underlying ht,sizeOf,typeInfo,hi,Builtin.lenOf,Builtin.firstCells,hkc,storeCells,hld]
  refine wpList_plain hgd fun K hK=>?_
  unfold Oper.wp
  simp[execOp,ho,resolve,invoke,builtin,hs,hx,hrun,Result.andThen]
  exact hK _ _ (h w (by simpa [splice,Hid]using hg) (Far.refl _ _))
 ·obtain⟨ad,rfl,hsrc1⟩:=hsrc h0
  have hrun:=run_append_room (P:=P) w t o.type e i ht hi g k cap cur.toArray hg ad m c cs hl hsrc1 h1 hroom (by simpa using hfit)
  refine wpList_plain hgd fun K hK=>?_
  unfold Oper.wp
  simp only[execOp,ho,resolve,invoke,builtin,hs,hx,hrun,Result.andThen,Sem.run_bind,Sem.run_pure,List.map_toArray,List.map_cons,List.map_nil]
  refine hK _ _ (h _ ?_ (Far.setRow w g _))
  have e2:splice cur (k*i.size) cs=cur.take (k*i.size)++cs++cur.drop (k*i.size+cs.length):=by unfold splice;rw[List.append_assoc]
  rw[e2]
  exact setRow_heap w g _ _ e _ hg
theorem wpList_append_zeros_grow{P:Program}{w:World}{ops:Array Oper}{rest:List Oper}{o:Oper}{a:Act}{Q:Exit→Act→World→Prop}(hgd:o.guard=none)(s x:Operand)(t tn:TypeId)
  (ho:o.op=.call {callee:=.builtin .append,args:=#[s,x],argTypes:=#[t,tn]}) (e:TypeId) (i:TypeInfo) (z:Value) {sz bytes:Nat} (kn kq:IntKind) (ht:P.underlying t=some (.slice e)) (htn:P.underlying tn=some (.int kn)) (hi:P.info? e=some i) (hz:i.zero=some z)
  (hsz:i.size=sz) (hsz0:0<sz) (hby:i.bytes=bytes) (hzs:z.cells.size=sz) (A:Option Addr) (k cap:Nat) (hs:a.eval s=.slice A k cap) (olds:List Value) (hl:olds.length=k*sz) (hA:A=none→k=0)
  (hold:∀ad,A=some ad→∀j v,olds[j]?=some v→w.cell? (ad.add j)=some v) (m:Nat) (I:Int) (hx:a.eval x=.int kq I) (hI:I=(m:Nat)) (hm:0<m) (hroom:cap<k+m) (h63:k+m≤maxLen) (hbytes:(k+m)*bytes≤140737488355328)
  (h:∀w' C cur,k+m≤C→C≤maxLen→cur.length=C*sz→cur.take (k*sz)=olds→Row w' w.heap.size e cur→w'.heap.size=w.heap.size+1→Below w.heap.size w w'→wpList P ops Q rest (a.put o.dst (.slice (some ⟨w.heap.size,0,none⟩) (k+m) C)) w'):wpList P ops Q (o::rest) a w:=by
 subst hsz;subst hby;subst hI
 have hf:(Builtin.firstCells i.size k (.slice A k cap)).run P w.drew=.ok olds.toArray w.drew:=by
  cases A with
  |none=>
   obtain rfl:=hA rfl
   obtain rfl:olds=[]:=List.eq_nil_of_length_eq_zero (by simpa using hl)
   simp[Builtin.firstCells]
  |some ad=>exact run_firstCells_some (P:=P) w.drew i.size k ad k cap olds hl (hold ad rfl)
 have hb2:m*i.bytes≤281474976710656:=by
  have:=Nat.mul_le_mul_right i.bytes (show m≤k+m by omega);omega
 have hrun:=Lib.run_append_grow_zeros (P:=P) w t tn o.type e i z kq kn ht htn hi hz A k cap olds hf m hm hsz0 hroom (by unfold maxLen at h63;omega) hb2 (growslice_fits (by omega) hbytes)
 have hge:=grownCap_ge w (k+m) cap e
 have hle:=grownCap_le_maxLen w (k+m) cap e h63
 generalize hC:grownCap w (k+m) cap e=C at hrun hge hle
 refine wpList_plain hgd fun K hK=>?_
 unfold Oper.wp
 simp only[execOp,ho,resolve,invoke,builtin,hs,hx,hrun,Result.andThen,Sem.run_bind,Sem.run_pure,List.map_toArray,List.map_cons,List.map_nil]
 refine hK _ _ (h _ C (olds++(Builtin.zeroCells z.cells m).toList++(Builtin.zeroCells z.cells (C-(k+m))).toList) hge hle ?_ ?_ ?_ ?_ ?_)
 ·simp only[List.length_append,Array.length_toList,size_zeroCells,hl,hzs,←Nat.add_mul]
  congr 1;omega
 ·rw[List.append_assoc,←hl];exact List.take_left
 ·unfold Row
  rw[show (olds++(Builtin.zeroCells z.cells m).toList++(Builtin.zeroCells z.cells (C-(k+m))).toList).toArray=olds.toArray++Builtin.zeroCells z.cells m++Builtin.zeroCells z.cells (C-(k+m))by apply Array.ext';simp]
  exact heap_alloc_new w.drew _
 ·simp
 ·exact⟨rfl,rfl,rfl,by simp,fun k hk=>Below.heap_alloc w.drew _ k hk⟩
theorem run_append_keep{P:Program}(w:World)(base:Nat)(t ty e:TypeId)(i:TypeInfo)(z:Value)(size bytes:Nat)(ht:P.underlying t=some (.slice e))(hi:P.info? e=some i)(hz:i.zero=some z)
  (hsize:i.size=size) (hby:i.bytes=bytes) (hzs:z.cells.size=size) (hsz:0<size) (v:Value) (n:Nat) (xs:List Value) (hown:w.ownsRow base e size v n xs)
  (a:Addr) (m c:Nat) (news:List Value) (hl:news.length=m*size) (hnews:∀j u,news[j]?=some u→w.cell? (a.add j)=some u) (h1:∀u∈news,u.oneCell'=true)
  (h63:n+m≤maxLen) (hbytes:(n+m)*bytes≤140737488355328) (hbase:base≤w.heap.size):
  ∃v' w',(Builtin.append_ #[t,t] ty #[v,.slice (some a) m c]).run P w=.ok v' w'∧w'.ownsRow base e size v' (n+m) (xs++news)∧w.grownBy w' v.ownBlock∧w'.ownsRow base e size v n xs:=by
 obtain⟨v',w',hr,h2,h3,_,_⟩:=run_append_own_at (P:=P) w base t ty e i z size bytes ht hi hz hsize hby hzs hsz v n xs hown a m c news hl hnews h1 h63 hbytes hbase
 refine⟨v',w',hr,h2,h3,?_⟩
 subst hsize;subst hby
 have hown':=hown
 obtain⟨k1,k2⟩:=hown
 rcases k2 with⟨rfl,rfl⟩|⟨g,cap,cur,rfl,hbg,hg,hnc,hcm,hcs,htake⟩
 ·exact⟨k1,.inl ⟨rfl,rfl⟩⟩
 ·by_cases hroom:n+m≤cap
  ·have hfit:n*i.size+news.length≤cur.size:=by rw[hl,hcs,←Nat.add_mul];exact Nat.mul_le_mul_right _ hroom
   have hr2:=run_append_room (P:=P) w t ty e i ht hi g n cap cur hg a m c news hl hnews h1 hroom hfit
   rw[hr]at hr2;injection hr2 with _ hr2;subst hr2
   refine⟨k1,.inr ⟨g,cap,_,rfl,hbg,setRow_heap w g cur _ e _ hg,hnc,hcm,?_,?_⟩⟩
   ·simp only[List.size_toArray,List.length_append,List.length_take,List.length_drop,Array.length_toList]
    omega
   ·rw[htake,List.append_assoc]
    exact List.take_append_of_le_length (by omega)|>.trans (List.take_of_length_le (by omega))
  ·refine hown'.kept (row:=none) ⟨h3.os,h3.tape,h3.output,h3.size,fun k hk _=>?_⟩ (.inr (by simp[Value.ownBlock]))
   have holds:∀j u,xs[j]?=some u→w.cell? ((⟨g,0,none⟩:Addr).add j)=some u:=hown'.cells (g:=g) rfl
   have hsmall:n+m≤9223372036854775807:=by simp only[maxLen]at h63;omega
   have hr2:=run_append_grow (P:=P) w t ty e i z ht hi hz ⟨g,0,none⟩ n cap xs k1 holds a m c news hl hnews (by omega) (by omega) (growslice_fits (by omega) hbytes)
   rw[hr]at hr2;injection hr2 with _ hr2;subst hr2
   exact Below.heap_alloc w.drew _ k hk
theorem step_append_keep{P:Program}{w:World}{ops:Array Oper}{o:Oper}{a:Act}{K:Act→World→Prop}{Q:Exit→Act→World→Prop}{E:Prop}(hgd:o.guard=none)(s x:Operand)(t:TypeId)
  (ho:o.op=.call {callee:=.builtin .append,args:=#[s,x],argTypes:=#[t,t]}) (base:Nat) (e:TypeId) (i:TypeInfo) (z:Value) (size bytes:Nat) (ht:P.underlying t=some (.slice e)) (hi:P.info? e=some i) (hz:i.zero=some z)
  (hsize:i.size=size) (hby:i.bytes=bytes) (hzs:z.cells.size=size) (hsz:0<size) (v:Value) (n:Nat) (xs:List Value) (hs:a.eval s=v) (hown:w.ownsRow base e size v n xs)
  (ad:Addr) (m c:Nat) (news:List Value) (hx:a.eval x=.slice (some ad) m c) (hl:news.length=m*size) (hnews:∀j u,news[j]?=some u→w.cell? (ad.add j)=some u) (h1:∀u∈news,u.oneCell'=true)
  (h63:n+m≤maxLen) (hbytes:(n+m)*bytes≤140737488355328) (hbase:base≤w.heap.size)
  (h:∀v' w',Hid (w'.ownsRow base e size v' (n+m) (xs++news))→w.grownBy w' v.ownBlock→w'.ownsRow base e size v n xs→K (a.put o.dst v') w'):if Region.wanted o (yielded ops a.tmps)=true then Oper.wp P o a w K Q else E:=by
 have hw:Region.wanted o (yielded ops a.tmps)=true:=by simp[Region.wanted,hgd]
 rw[if_pos hw]
 obtain⟨v',w',hrun,h2,h3,h4⟩:=run_append_keep w base t o.type e i z size bytes ht hi hz hsize hby hzs hsz v n xs hown ad m c news hl hnews h1 h63 hbytes hbase
 unfold Oper.wp
 simp[execOp,ho,resolve,invoke,builtin,hs,hx,hrun,Result.andThen]
 exact h v' w' h2 h3 h4
structure Tup where
 a:Int
 b:Int
 c:Int
 d:Int
 e:Int
def Tup.cols(t:Tup):List Int:=[t.a,t.b,t.c,t.d,t.e]
def TupOk(t:Tup):Prop:=∀x∈t.cols,I64 x
def tup0:Tup:=⟨0,0,0,0,0⟩
theorem Tup.cols_len(t:Tup):t.cols.length=5:=rfl
theorem Tup.ext_cols{t u:Tup}(h:t.cols=u.cols):t=u:=by
 obtain⟨a,b,c,d,e⟩:=t;obtain⟨a',b',c',d',e'⟩:=u
 simp[Tup.cols]at h
 obtain⟨rfl,rfl,rfl,rfl,rfl⟩:=h;rfl
def uw(z:Int):Nat:=(z%18446744073709551616).toNat
theorem uw_wrap(z:Int):IntKind.u64.wrap z=((uw z:Nat):Int):=by unfold uw;rw[IntKind.wrap_u64];omega
theorem uw_lt(z:Int):uw z<18446744073709551616:=by unfold uw;omega
theorem uw_back{z:Int}(h:I64 z):IntKind.i64.wrap ((uw z:Nat):Int)=z:=by
 have:=h.bounds;unfold uw;rw[IntKind.wrap_i64];omega
def wordsT(k:Nat)(t:Tup):List Nat:=(t.cols.take k).map uw
theorem wordsT_len{k:Nat}(hk:k≤5)(t:Tup):(wordsT k t).length=k:=by unfold wordsT;simp[Tup.cols_len];omega
def flatT(k:Nat)(l:List Tup):List Nat:=l.flatMap (wordsT k)
theorem flatT_append(k:Nat)(l m:List Tup):flatT k (l++m)=flatT k l++flatT k m:=by simp[flatT]
theorem flatT_one(k:Nat)(t:Tup):flatT k [t]=wordsT k t:=by simp[flatT]
theorem flatT_len{k:Nat}(hk:k≤5):∀l:List Tup,(flatT k l).length=l.length*k
 |[]=>by simp[flatT]
 |t::l=>by
  have h:=flatT_len hk l
  show (wordsT k t++flatT k l).length= _
  rw[List.length_append,wordsT_len hk,h,List.length_cons,Nat.add_mul];omega
theorem flatT_u64(k:Nat)(l:List Tup):∀x∈flatT k l,x<18446744073709551616:=by
 intro x hx
 obtain⟨t,_,hx⟩:=List.mem_flatMap.1 hx
 obtain⟨z,_,rfl⟩:=List.mem_map.1 hx
 exact uw_lt z
theorem flatT_drop{k:Nat}(hk:k≤5):∀(l:List Tup) (i:Nat),(flatT k l).drop (i*k)=flatT k (l.drop i)
 |[],i=>by simp[flatT]
 |t::l,0=>by simp
 |t::l,i+1=>by
  show (wordsT k t++flatT k l).drop ((i+1)*k)=flatT k (l.drop i)
  rw[←flatT_drop hk l i,Nat.add_mul,Nat.one_mul,Nat.add_comm,←List.drop_drop,List.drop_left' (wordsT_len hk t)]
theorem flatT_at{k:Nat}(hk:k≤5){l:List Tup}{i:Nat}{t:Tup}(h:l[i]?=some t):((flatT k l).drop (i*k)).take k=wordsT k t:=by
 rw[flatT_drop hk]
 have hi:i<l.length:=(List.getElem?_eq_some_iff.1 h).1
 rw[List.drop_eq_getElem_cons hi]
 have e:l[i]=t:=(List.getElem?_eq_some_iff.1 h).2
 rw[e]
 show (wordsT k t++flatT k (l.drop (i+1))).take k=wordsT k t
 exact List.take_left' (wordsT_len hk t)
def fitsT(k:Nat)(t:Tup):Bool:=(t.cols.drop k).all (·==0)
def tupOf(k:Nat)(ws:List Nat):Tup:=
 let g:=fun i=>if i<k then IntKind.i64.wrap ((ws.getD i 0:Nat):Int)else 0
 ⟨g 0,g 1,g 2,g 3,g 4⟩
theorem tupOf_back{k:Nat}(hk:k≤5){t:Tup}(hok:TupOk t)(hf:fitsT k t=true):tupOf k (wordsT k t)=t:=by
 obtain⟨a,b,c,d,e⟩:=t
 have ha:=uw_back (hok a (by simp[Tup.cols]))
 have hb:=uw_back (hok b (by simp[Tup.cols]))
 have hc:=uw_back (hok c (by simp[Tup.cols]))
 have hd:=uw_back (hok d (by simp[Tup.cols]))
 have he:=uw_back (hok e (by simp[Tup.cols]))
 match k,hk with
 |0,_=>simp[fitsT,Tup.cols]at hf;simp[tupOf,hf]
 |1,_=>simp[fitsT,Tup.cols]at hf;simp[tupOf,wordsT,Tup.cols,hf,ha]
 |2,_=>simp[fitsT,Tup.cols]at hf;simp[tupOf,wordsT,Tup.cols,hf,ha,hb]
 |3,_=>simp[fitsT,Tup.cols]at hf;simp[tupOf,wordsT,Tup.cols,hf,ha,hb,hc]
 |4,_=>simp[fitsT,Tup.cols]at hf;simp[tupOf,wordsT,Tup.cols,hf,ha,hb,hc,hd]
 |5,_=>simp[tupOf,wordsT,Tup.cols,ha,hb,hc,hd,he]
def holdsI(size:Nat)(width:Int):Nat:=if width<1∨5<width then 0 else (size-2)/width.toNat
def blocksN(h c:Nat):Nat:=if 0<c%h then c/h+1 else c/h
section
variable {h c : Nat}
theorem blocks_zero(h:Nat):blocksN h 0=0:=by simp[blocksN]
theorem blocks_pos(_hh:0<h)(hc:0<c):0<blocksN h c:=by
 have h1:=Nat.div_add_mod c h
 unfold blocksN;split
 ·exact Nat.succ_pos _
 ·rcases Nat.eq_zero_or_pos (c/h)with h0|h0
  ·rw[h0]at h1;omega
  ·exact h0
theorem blocks_le(h c:Nat):blocksN h c≤c:=by
 unfold blocksN
 have h1:=Nat.div_add_mod c h
 have h2:=Nat.div_le_self c h
 split
 ·rename_i h3
  rcases Nat.eq_zero_or_pos h with h0|h0
  ·subst h0;simp at h3⊢;omega
  ·rcases Nat.eq_zero_or_pos (c/h)with h4|h4
   ·rw[h4]at h1⊢;omega
   ·have:c/h*1≤c/h*h:=Nat.mul_le_mul_left _ h0
    rw[Nat.mul_comm (c/h) h]at this;omega
 ·exact h2
theorem blocks_last(hh:0<h)(hc:0<c):(blocksN h c-1)*h<c∧c≤(blocksN h c-1)*h+h∧c-(blocksN h c-1)*h=if 0<c%h then c%h else h:=by
 have h1:=Nat.div_add_mod c h
 have h2:=Nat.mod_lt c hh
 have hp:=blocks_pos hh hc
 unfold blocksN at hp⊢
 rw[Nat.mul_comm]at h1
 by_cases h3:0<c%h
 ·rw[if_pos h3,if_pos h3,Nat.add_sub_cancel];omega
 ·rw[if_neg h3]at hp
  rw[if_neg h3,if_neg h3]
  have h4:(c/h-1)*h+h=c/h*h:=by
   conv=>rhs;rw[show c/h=(c/h-1)+1 by omega,Nat.add_mul,Nat.one_mul]
  omega
theorem blocks_mul(hh:0<h):c≤blocksN h c*h:=by
 rcases Nat.eq_zero_or_pos c with h0|h0
 ·omega
 ·have h1:=blocks_last hh h0
  have h2:=blocks_pos hh h0
  have h4:(blocksN h c-1)*h+h=blocksN h c*h:=by
   conv=>rhs;rw[show blocksN h c=(blocksN h c-1)+1 by omega,Nat.add_mul,Nat.one_mul]
  omega
theorem blocks_least(hh:0<h){k:Nat}(hk:c≤k*h):blocksN h c≤k:=by
 rcases Nat.eq_zero_or_pos c with h0|h0
 ·subst h0;rw[blocks_zero];exact Nat.zero_le _
 ·have h1:=(blocks_last hh h0).1
  have h2:(blocksN h c-1)*h<k*h:=by omega
  have h3:blocksN h c-1<k:=Nat.lt_of_mul_lt_mul_right h2
  omega
theorem blocks_mono(hh:0<h){c':Nat}(hc:c≤c'):blocksN h c≤blocksN h c':=blocks_least hh (Nat.le_trans hc (blocks_mul hh))
theorem blocks_succ(hh:0<h):(blocksN h (c+1)-1)*h+c%h=c∧c+1-(blocksN h (c+1)-1)*h=c%h+1∧blocksN h (c+1)-1=c/h:=by
 have h1:=Nat.div_add_mod c h
 have h2:=Nat.mod_lt c hh
 have key:blocksN h (c+1)=c/h+1:=by
  have h5:c+1≤(c/h+1)*h:=by rw[Nat.add_mul,Nat.one_mul,Nat.mul_comm];omega
  have h6:=blocks_least hh h5
  have h7:=blocks_mul (c:=c+1) hh
  have h8:c/h<blocksN h (c+1):=by
   apply Nat.lt_of_not_le
   intro h9
   have:=Nat.mul_le_mul_right h h9
   rw[Nat.mul_comm (c/h)]at this
   omega
  omega
 rw[key,Nat.add_sub_cancel,Nat.mul_comm]
 refine⟨h1,?_,rfl⟩
 omega
theorem blocks_full(h3:c%h=0):blocksN h c=c/h:=by unfold blocksN;rw[if_neg (by omega)]
end
def lastT(h:Nat)(l:List Tup):List Tup:=l.drop ((blocksN h l.length-1)*h)
def payT(h k:Nat)(l:List Tup)(j:Nat):List Nat:=flatT k ((l.drop (j*h)).take h)
theorem lastT_len{h:Nat}{l:List Tup}(hh:0<h)(hl:0<l.length):(lastT h l).length≤h∧0<(lastT h l).length∧(lastT h l).length=l.length-(blocksN h l.length-1)*h:=by
 obtain⟨h1,h2,h3⟩:=blocks_last hh hl
 unfold lastT;rw[List.length_drop];omega
theorem pay_last{h k:Nat}{l:List Tup}(hh:0<h)(hl:0<l.length):payT h k l (blocksN h l.length-1)=flatT k (lastT h l):=by
 unfold payT
 rw[show l.drop ((blocksN h l.length-1)*h)=lastT h l from rfl,List.take_of_length_le (lastT_len hh hl).1]
theorem pay_len{h k:Nat}(hk:k≤5)(l:List Tup)(j:Nat):(payT h k l j).length≤h*k:=by
 unfold payT;rw[flatT_len hk];exact Nat.mul_le_mul_right _ (by rw[List.length_take];omega)
theorem pay_more{h k:Nat}{l m:List Tup}{j:Nat}(hj:(j+1)*h≤l.length):payT h k (l++m) j=payT h k l j:=by
 unfold payT
 rw[Nat.add_mul,Nat.one_mul]at hj
 rw[List.drop_append_of_le_length (by omega),List.take_append_of_le_length (by rw[List.length_drop];omega)]
theorem pay_words{h k:Nat}(hk:k≤5)(l:List Tup)(j:Nat):(payT h k l j).length=min h (l.length-j*h)*k:=by
 unfold payT;rw[flatT_len hk,List.length_take,List.length_drop]
theorem lastT_snoc{h:Nat}(hh:0<h)(l:List Tup)(t:Tup):lastT h (l++[t])=l.drop (l.length-l.length%h)++[t]∧(lastT h (l++[t])).length=l.length%h+1:=by
 obtain⟨h1,h2,h3⟩:=blocks_succ (c:=l.length) hh
 have e:lastT h (l++[t])=l.drop (l.length-l.length%h)++[t]:=by
  unfold lastT
  rw[List.length_append,List.length_singleton,show (blocksN h (l.length+1)-1)*h=l.length-l.length%h by omega,List.drop_append_of_le_length (by omega)]
 refine⟨e,?_⟩
 rw[e,List.length_append,List.length_drop,List.length_singleton]
 have:=Nat.mod_le l.length h
 omega
def Held(k h:Nat)(l:List Tup)(ws:List Nat):Prop:=ws.take (l.length%h*k)=flatT k (l.drop (l.length-l.length%h))
theorem held_nil(k h:Nat)(ws:List Nat):Held k h [] ws:=by simp[Held,flatT]
theorem held_full{k h:Nat}{l:List Tup}(ws:List Nat)(h0:l.length%h=0):Held k h l ws:=by
 unfold Held;rw[h0,Nat.zero_mul,Nat.sub_zero,List.drop_length];simp[flatT]
theorem held_put{k h:Nat}(hk:k≤5)(hh:0<h){l:List Tup}{ws:List Nat}(hw:Held k h l ws)(hl:h*k≤ws.length)(t:Tup):
  (splice ws (l.length%h*k) (wordsT k t)).take ((lastT h (l++[t])).length*k)=flatT k (lastT h (l++[t])):=by
 obtain⟨e1,e2⟩:=lastT_snoc hh l t
 rw[e2,e1,flatT_append,flatT_one,←hw]
 have hm:=Nat.mod_lt l.length hh
 have hb:l.length%h*k+k≤h*k:=by
  have:=Nat.mul_le_mul_right k (show l.length%h+1≤h by omega)
  rw[Nat.add_mul,Nat.one_mul]at this;exact this
 have hwl:=wordsT_len hk t
 unfold splice
 rw[←List.append_assoc,List.take_append_of_le_length (by simp[hwl,Nat.add_mul];omega)]
 exact List.take_of_length_le (by simp[hwl,Nat.add_mul];omega)
theorem held_last{k h:Nat}(hh:0<h){l:List Tup}{ws:List Nat}(h0:l.length%h≠0):Held k h l ws↔ws.take ((lastT h l).length*k)=flatT k (lastT h l):=by
 have hl:0<l.length:=by
  rcases Nat.eq_zero_or_pos l.length with h1|h1
  ·rw[h1]at h0;simp at h0
  ·exact h1
 obtain⟨h1,h2,h3⟩:=blocks_last hh hl
 rw[if_pos (by omega)]at h3
 have e1:=(lastT_len hh hl).2.2
 unfold Held
 rw[e1,h3]
 unfold lastT
 rw[show l.length-l.length%h=(blocksN h l.length-1)*h by omega]
def StandsTo(D:St)(first k h:Nat)(l:List Tup)(m:Nat):Prop:=∀j,j<m→D.now ((first+j:Nat):Int)=sealW D.size (first+j) k (payT h k l j)
theorem now_write{s:St}{i:Int}{l:List Nat}(h0:(write s i l).1=0):(write s i l).2.now i=l∧(∀x,x≠i→(write s i l).2.now x=s.now x)∧(write s i l).2.size=s.size∧(write s i l).2.blocks=s.blocks:=by
 obtain⟨e1,e2,e3,e4⟩:=begin_same s (right s i&&decide (l.length=s.size))
 unfold write at h0⊢
 dsimp only at h0⊢
 by_cases hb:(begin s (right s i&&decide (l.length=s.size))).1=0
 ·rw[if_pos hb]
  refine⟨?_,fun x hx=>?_,e1,e2⟩
  ·unfold St.now
   dsimp only
   rw[e3,lay_snoc,upd_same];rfl
  ·unfold St.now
   dsimp only
   rw[e1,e3,lay_snoc,upd_other _ _ hx]
 ·rw[if_neg hb]at h0;exact absurd h0 hb
theorem now_fail{s:St}{i:Int}{l:List Nat}(h0:(write s i l).1≠0):(∀x,(write s i l).2.now x=s.now x)∧(write s i l).2.size=s.size∧(write s i l).2.blocks=s.blocks:=by
 obtain⟨e1,e2,e3,e4⟩:=begin_same s (right s i&&decide (l.length=s.size))
 unfold write at h0⊢
 dsimp only at h0⊢
 by_cases hb:(begin s (right s i&&decide (l.length=s.size))).1=0
 ·rw[if_pos hb]at h0;exact absurd rfl h0
 ·rw[if_neg hb]
  refine⟨fun x=>?_,e1,e2⟩
  unfold St.now;rw[e1,e3,e4]
theorem now_read(s:St)(i x:Int):(read s i).2.now x=s.now x∧(read s i).2.size=s.size∧(read s i).2.blocks=s.blocks:=by
 obtain⟨e1,e2,e3,e4⟩:=begin_same s (right s i)
 unfold read St.now;rw[e1,e3,e4];exact⟨rfl,rfl,e2⟩
abbrev Ex:=Nat×Nat
def Canon(hi:Nat):Nat→List Ex→Prop
 | _,[]=>True
 |lo,x::l=>lo≤x.1∧1≤x.2∧x.1+x.2≤hi∧Canon hi (x.1+x.2+1) l
def hasB(l:List Ex)(b:Nat):Prop:=∃x∈l,x.1≤b∧b<x.1+x.2
def sumB(l:List Ex):Nat:=(l.map (·.2)).sum
section
variable {hi lo : Nat} {l A B : List Ex} {x : Ex}
theorem Canon.mono{lo':Nat}(h:Canon hi lo l)(hl:lo'≤lo):Canon hi lo' l:=by
 cases l with
 |nil=>trivial
 |cons x l=>exact⟨by have:=h.1;omega,h.2⟩
theorem canon_mid:∀{A:List Ex} {lo:Nat},Canon hi lo (A++x::B)↔Canon hi lo A∧(∀y∈A,y.1+y.2+1≤x.1)∧lo≤x.1∧1≤x.2∧x.1+x.2≤hi∧Canon hi (x.1+x.2+1) B
 |[],lo=>by simp[Canon]
 |y::A,lo=>by
  show lo≤y.1∧1≤y.2∧y.1+y.2≤hi∧Canon hi (y.1+y.2+1) (A++x::B)↔(lo≤y.1∧1≤y.2∧y.1+y.2≤hi∧Canon hi (y.1+y.2+1) A)∧ _
  rw[canon_mid (A:=A)]
  constructor
  ·rintro⟨h1,h2,h3,h4,h5,h6,h7,h8,h9⟩
   refine⟨⟨h1,h2,h3,h4⟩,fun z hz=>?_,by omega,h7,h8,h9⟩
   rcases List.mem_cons.1 hz with rfl|hz
   ·exact h6
   ·exact h5 z hz
  ·rintro⟨⟨h1,h2,h3,h4⟩,h5,h6,h7,h8,h9⟩
   exact⟨h1,h2,h3,h4,fun z hz=>h5 z (List.mem_cons_of_mem _ hz),h5 y List.mem_cons_self,h7,h8,h9⟩
theorem Canon.left:∀{A:List Ex} {lo:Nat},Canon hi lo (A++B)→Canon hi lo A
 |[],_,_=>trivial
 | _:: _,_,h=>⟨h.1,h.2.1,h.2.2.1,Canon.left h.2.2.2⟩
theorem Canon.of_mem:∀{l:List Ex} {lo:Nat} {x:Ex},Canon hi lo l→x∈l→lo≤x.1∧1≤x.2∧x.1+x.2≤hi
 |[],_,_,_,h=>by cases h
 |y::l,lo,x,h,hx=>by
  rcases List.mem_cons.1 hx with rfl|hx1
  ·exact⟨h.1,h.2.1,h.2.2.1⟩
  ·have h1:=Canon.of_mem (x:=x) h.2.2.2 hx1;have h2:=h.1;omega
theorem Canon.apart:∀{l:List Ex} {lo:Nat} {x y:Ex},Canon hi lo l→x∈l→y∈l→x=y∨x.1+x.2+1≤y.1∨y.1+y.2+1≤x.1
 |[],_,_,_,_,h,_=>by cases h
 |z::l,lo,x,y,h,hx,hy=>by
  rcases List.mem_cons.1 hx with rfl|hx1<;>rcases List.mem_cons.1 hy with rfl|hy1
  ·exact .inl rfl
  ·exact .inr (.inl (Canon.of_mem h.2.2.2 hy1).1)
  ·exact .inr (.inr (Canon.of_mem h.2.2.2 hx1).1)
  ·exact Canon.apart h.2.2.2 hx1 hy1
theorem Canon.has(h:Canon hi lo l){b:Nat}(hb:hasB l b):lo≤b∧b<hi:=by
 obtain⟨x,hx,h1,h2⟩:=hb
 have:=h.of_mem hx;omega
theorem Canon.length(h:Canon hi lo l):l.length≤hi-lo:=by
 induction l generalizing lo with
 |nil=>simp
 |cons x l ih=>
  have:=ih h.2.2.2
  have:=h.1;have:=h.2.1;have:=h.2.2.1
  simp only[List.length_cons];omega
theorem hasB_nil(b:Nat):¬hasB [] b:=by rintro⟨x,h,_⟩;cases h
theorem hasB_cons{b:Nat}:hasB (x::l) b↔(x.1≤b∧b<x.1+x.2)∨hasB l b:=by simp[hasB]
theorem hasB_append{b:Nat}:hasB (A++B) b↔hasB A b∨hasB B b:=by simp[hasB,or_and_right,exists_or]
theorem sumB_append:sumB (A++B)=sumB A+sumB B:=by simp[sumB]
theorem sumB_cons:sumB (x::l)=x.2+sumB l:=by simp[sumB]
theorem sumB_nil:sumB []=0:=rfl
theorem Canon.sum(h:Canon hi lo l):sumB l≤hi-lo:=by
 induction l generalizing lo with
 |nil=>simp[sumB]
 |cons x l ih=>
  have:=ih h.2.2.2
  have:=h.1;have:=h.2.1;have:=h.2.2.1
  rw[sumB_cons];omega
theorem Canon.only:∀{l l':List Ex} {lo:Nat},Canon hi lo l→Canon hi lo l'→(∀b,hasB l b↔hasB l' b)→l=l'
 |[],[],_,_,_,_=>rfl
 |[],y::l',_,_,h',e=>absurd ((e y.1).2 ⟨y,List.mem_cons_self,Nat.le_refl _,by have:=h'.2.1;omega⟩) (hasB_nil _)
 |x::l,[],_,h,_,e=>absurd ((e x.1).1 ⟨x,List.mem_cons_self,Nat.le_refl _,by have:=h.2.1;omega⟩) (hasB_nil _)
 |x::l,y::l',lo,h,h',e=>by
  have low:∀{z:Ex} {m:List Ex} {b:Nat},Canon hi lo (z::m)→hasB (z::m) b→z.1≤b:=fun {z m b} hc hb=>by
   rcases hasB_cons.1 hb with hb|hb
   ·exact hb.1
   ·have:=(Canon.has hc.2.2.2 hb).1;omega
  have gap:∀{z:Ex} {m:List Ex},Canon hi lo (z::m)→¬hasB (z::m) (z.1+z.2):=fun {z m} hc hb=>by
   rcases hasB_cons.1 hb with hb|hb
   ·omega
   ·have:=(Canon.has hc.2.2.2 hb).1;omega
  have h1:x.1≤y.1:=low h ((e y.1).2 ⟨y,List.mem_cons_self,Nat.le_refl _,by have:=h'.2.1;omega⟩)
  have h2:y.1≤x.1:=low h' ((e x.1).1 ⟨x,List.mem_cons_self,Nat.le_refl _,by have:=h.2.1;omega⟩)
  have h3:y.1+y.2≤x.1+x.2:=by
   rcases Nat.lt_or_ge (x.1+x.2) (y.1+y.2)with hlt|hge
   ·exact absurd ((e (x.1+x.2)).2 ⟨y,List.mem_cons_self,by omega,hlt⟩) (gap h)
   ·exact hge
  have h4:x.1+x.2≤y.1+y.2:=by
   rcases Nat.lt_or_ge (y.1+y.2) (x.1+x.2)with hlt|hge
   ·exact absurd ((e (y.1+y.2)).1 ⟨x,List.mem_cons_self,by omega,hlt⟩) (gap h')
   ·exact hge
  have hxy:x=y:=Prod.ext (by omega) (by omega)
  subst hxy
  rw[Canon.only h.2.2.2 h'.2.2.2 fun b=>?_]
  constructor
  ·intro hb
   have h5:=Canon.has h.2.2.2 hb
   rcases hasB_cons.1 ((e b).1 (hasB_cons.2 (.inr hb)))with h6|h6
   ·omega
   ·exact h6
  ·intro hb
   have h5:=Canon.has h'.2.2.2 hb
   rcases hasB_cons.1 ((e b).2 (hasB_cons.2 (.inr hb)))with h6|h6
   ·omega
   ·exact h6
theorem Canon.one(h:Canon hi lo l){k:Nat}:∀{n:Nat},1≤n→(∀b,k≤b→b<k+n→hasB l b)→∃x∈l,x.1≤k∧k+n≤x.1+x.2
 |0,h1,_=>by omega
 |1,_,hb=>by
  obtain⟨x,hx,h1,h2⟩:=hb k (by omega) (by omega)
  exact⟨x,hx,h1,by omega⟩
 |n+2,_,hb=>by
  obtain⟨x,hx,h1,h2⟩:=Canon.one h (n:=n+1) (by omega) (fun b h1 h2=>hb b h1 (by omega))
  obtain⟨y,hy,h3,h4⟩:=hb (k+(n+1)) (by omega) (by omega)
  rcases h.apart hx hy with rfl|h5|h5
  ·exact⟨x,hx,h1,by omega⟩
  ·omega
  ·omega
end
def xAt(l:List Ex)(i:Nat):Ex:=l.getD i (0,0)
theorem xAt_eq{l:List Ex}{i:Nat}(hi:i<l.length):xAt l i=l[i]:=by
 unfold xAt;rw[List.getD_eq_getElem?_getD,List.getElem?_eq_getElem hi];rfl
def leftX(x:Ex)(f n:Nat):List Ex:=(if x.1<f then [(x.1,f-x.1)]else [])++(if f+n<x.1+x.2 then [(f+n,x.1+x.2-(f+n))]else [])
def cutL(l:List Ex)(i f n:Nat):List Ex:=l.take i++leftX (xAt l i) f n++l.drop (i+1)
theorem split_at{l:List Ex}{i:Nat}(hi:i<l.length):l=l.take i++xAt l i::l.drop (i+1):=by
 conv=>lhs;rw[←List.take_append_drop i l,List.drop_eq_getElem_cons hi]
 rw[xAt_eq hi]
theorem hasB_left{x:Ex}{f n b:Nat}(h1:x.1≤f)(h2:f+n≤x.1+x.2):hasB (leftX x f n) b↔(x.1≤b∧b<x.1+x.2)∧¬(f≤b∧b<f+n):=by
 unfold leftX
 rw[hasB_append]
 by_cases h3:x.1<f<;>by_cases h4:f+n<x.1+x.2<;>simp[hasB,h3,h4]<;>omega
theorem canon_left{hi:Nat}{x:Ex}{f n:Nat}{A B:List Ex}{lo:Nat}(h:Canon hi lo (A++x::B))(h1:x.1≤f)(h2:f+n≤x.1+x.2)(hn:1≤n):Canon hi lo (A++leftX x f n++B):=by
 obtain⟨c1,c2,c3,c4,c5,c6⟩:=canon_mid.1 h
 have tail:∀(C:List Ex) (c:Nat),Canon hi lo C→(∀y∈C,y.1+y.2≤c)→c≤x.1+x.2→Canon hi lo (C++B):=by
  intro C c hC hy hc
  cases B with
  |nil=>simpa using hC
  |cons z B=>
   have hz:=c6
   refine canon_mid.2 ⟨hC,fun y h=>?_,?_,hz.2.1,hz.2.2.1,hz.2.2.2⟩
   ·have:=hy y h;have:=hz.1;omega
   ·have:=hz.1;omega
 unfold leftX
 have hA:∀y∈A,y.1+y.2≤x.1+x.2:=fun y hy=>by have:=c2 y hy;omega
 by_cases h3:x.1<f<;>by_cases h4:f+n<x.1+x.2
 ·rw[if_pos h3,if_pos h4]
  refine tail _ (x.1+x.2) ?_ ?_ (Nat.le_refl _)
  ·rw[show A++([(x.1,f-x.1)]++[(f+n,x.1+x.2-(f+n))])=A++(x.1,f-x.1)::[(f+n,x.1+x.2-(f+n))]from rfl]
   refine canon_mid.2 ⟨c1,c2,c3,?_,?_,?_,?_,?_,trivial⟩<;>simp<;>omega
  ·intro y hy
   simp at hy
   rcases hy with hy|rfl|rfl
   ·exact hA y hy
   ·simp;omega
   ·simp;omega
 ·rw[if_pos h3,if_neg h4,List.append_nil]
  refine tail _ (x.1+x.2) ?_ ?_ (Nat.le_refl _)
  ·refine canon_mid.2 ⟨c1,c2,c3,?_,?_,trivial⟩<;>simp<;>omega
  ·intro y hy
   simp at hy
   rcases hy with hy|rfl
   ·exact hA y hy
   ·simp;omega
 ·rw[if_neg h3,if_pos h4,List.nil_append]
  refine tail _ (x.1+x.2) ?_ ?_ (Nat.le_refl _)
  ·refine canon_mid.2 ⟨c1,?_,?_,?_,?_,trivial⟩<;>simp
   ·intro a b hy;have:=c2 (a,b) hy;simp at this;omega
   ·omega
   ·omega
   ·omega
  ·intro y hy
   simp at hy
   rcases hy with hy|rfl
   ·exact hA y hy
   ·simp;omega
 ·rw[if_neg h3,if_neg h4,List.append_nil,List.append_nil]
  exact tail A (x.1+x.2) c1 hA (Nat.le_refl _)
theorem sum_left{x:Ex}{f n:Nat}(h1:x.1≤f)(h2:f+n≤x.1+x.2):sumB (leftX x f n)+n=x.2:=by
 unfold leftX
 rw[sumB_append]
 by_cases h3:x.1<f<;>by_cases h4:f+n<x.1+x.2<;>simp[sumB,h3,h4]<;>omega
theorem cut_spec{hi lo:Nat}{l:List Ex}{i f n:Nat}(h:Canon hi lo l)(hil:i<l.length)(h1:(xAt l i).1≤f)(h2:f+n≤(xAt l i).1+(xAt l i).2)(hn:1≤n):
  Canon hi lo (cutL l i f n)∧(∀b,hasB (cutL l i f n) b↔hasB l b∧¬(f≤b∧b<f+n))∧sumB (cutL l i f n)+n=sumB l:=by
 have hs:=split_at hil
 unfold cutL
 generalize xAt l i=x at*
 generalize l.take i=A at*
 generalize l.drop (i+1)=B at*
 subst hs
 refine⟨canon_left h h1 h2 hn,fun b=>?_,?_⟩
 ·obtain⟨c1,c2,c3,c4,c5,c6⟩:=canon_mid.1 h
  rw[hasB_append,hasB_append,hasB_left h1 h2,hasB_append,hasB_cons]
  have hA:hasB A b→¬(f≤b∧b<f+n):=by
   rintro⟨y,hy,h3,h4⟩ h5
   have:=c2 y hy;omega
  have hB:hasB B b→¬(f≤b∧b<f+n):=fun hb=>by have:=c6.has hb;omega
  constructor
  ·rintro((h3|h3)|h3)
   ·exact⟨.inl h3,hA h3⟩
   ·exact⟨.inr (.inl h3.1),h3.2⟩
   ·exact⟨.inr (.inr h3),hB h3⟩
  ·rintro⟨h3|h3|h3,h4⟩
   ·exact .inl (.inl h3)
   ·exact .inl (.inr ⟨h3,h4⟩)
   ·exact .inr h3
 ·rw[sumB_append,sumB_append,sumB_append,sumB_cons]
  have:=sum_left (x:=x) (f:=f) (n:=n) h1 h2
  omega
def nextI(l:List Ex)(a:Nat):Nat:=l.findIdx fun x=>decide (a<x.1+x.2)
def fitI(l:List Ex)(n:Nat):Nat:=l.findIdx fun x=>decide (n≤x.2)
theorem getD_lt{l:List Ex}{i:Nat}(hi:i<l.length):xAt l i∈l:=by
 rw[xAt_eq hi];exact List.getElem_mem hi
theorem findIdx_unique{p:Ex→Bool}{l:List Ex}{i:Nat}(hi:i≤l.length)(h1:∀k,k<i→p (xAt l k)=false)(h2:i<l.length→p (xAt l i)=true):l.findIdx p=i:=by
 rcases Nat.lt_trichotomy (l.findIdx p) i with h|h|h
 ·have h3:=List.findIdx_getElem (p:=p) (xs:=l) (w:=by omega)
  have h4:=h1 _ h
  rw[xAt_eq (by omega),h3]at h4;cases h4
 ·exact h
 ·have h3:=List.not_of_lt_findIdx h
  have hil:i<l.length:=Nat.lt_of_lt_of_le h List.findIdx_le_length
  have h4:=h2 hil
  rw[xAt_eq hil]at h4
  rw[h4]at h3;cases h3
theorem findIdx_at{p:Ex→Bool}{l:List Ex}(h:l.findIdx p<l.length):p (xAt l (l.findIdx p))=true:=by
 rw[xAt_eq h];exact List.findIdx_getElem
theorem findIdx_below{p:Ex→Bool}{l:List Ex}{k:Nat}(h:k<l.findIdx p):p (xAt l k)=false:=by
 have hk:k<l.length:=Nat.lt_of_lt_of_le h List.findIdx_le_length
 rw[xAt_eq hk]
 simpa using List.not_of_lt_findIdx h
theorem Canon.ends{hi lo:Nat}{l:List Ex}(h:Canon hi lo l){i j:Nat}(hij:i<j)(hj:j<l.length):(xAt l i).1+(xAt l i).2+1≤(xAt l j).1:=by
 have hs:=split_at hj
 rw[hs]at h
 have h2:=(canon_mid.1 h).2.1 (xAt l i) (by
  rw[xAt_eq (by omega)]
  have h3:(l.take j)[i]?=some l[i]:=by rw[List.getElem?_take,if_pos hij,List.getElem?_eq_getElem (by omega)]
  exact List.mem_of_getElem? h3)
 exact h2
theorem Canon.getD{hi lo:Nat}{l:List Ex}(h:Canon hi lo l){i:Nat}(hil:i<l.length):lo≤(xAt l i).1∧1≤(xAt l i).2∧(xAt l i).1+(xAt l i).2≤hi:=h.of_mem (getD_lt hil)
theorem next_none{hi lo:Nat}{l:List Ex}{f n:Nat}(h:Canon hi lo l)(hn:1≤n):(∀b,f≤b→b<f+n→¬hasB l b)↔(nextI l f<l.length→f+n≤(xAt l (nextI l f)).1):=by
 constructor
 ·intro hb hlt
  rcases Nat.lt_or_ge (xAt l (nextI l f)).1 (f+n)with h1|h1
  ·have h2:=findIdx_at (p:=fun x:Ex=>decide (f<x.1+x.2)) hlt
   simp only[decide_eq_true_eq]at h2
   have hg:=h.getD hlt
   refine absurd ⟨_,getD_lt hlt,?_,?_⟩ (hb (max f (xAt l (nextI l f)).1) (by omega) (by omega))
   ·omega
   ·unfold nextI at hg h1⊢;omega
  ·exact h1
 ·rintro h1 b hb1 hb2 ⟨x,hx,h3,h4⟩
  obtain⟨j,hj,rfl⟩:=List.getElem_of_mem hx
  have hg:xAt l j=l[j]:=xAt_eq hj
  rcases Nat.lt_trichotomy j (nextI l f)with h5|h5|h5
  ·have h6:=findIdx_below (p:=fun x:Ex=>decide (f<x.1+x.2)) h5
   rw[hg]at h6;simp at h6;omega
  ·subst h5
   have:=h1 hj;rw[hg]at this;omega
  ·have h6:=h.ends h5 hj
   have h7:=h1 (by omega)
   rw[hg]at h6;omega
theorem fit_least{hi lo:Nat}{l:List Ex}{n:Nat}(h:Canon hi lo l)(hn:1≤n)(hl:fitI l n<l.length):
  n≤(xAt l (fitI l n)).2∧∀k,(∀b,k≤b→b<k+n→hasB l b)→(xAt l (fitI l n)).1≤k:=by
 have h1:=findIdx_at (p:=fun x:Ex=>decide (n≤x.2)) hl
 refine⟨by unfold fitI;simpa using h1,fun k hk=>?_⟩
 obtain⟨x,hx,h2,h3⟩:=h.one hn hk
 obtain⟨j,hj,rfl⟩:=List.getElem_of_mem hx
 have hg:xAt l j=l[j]:=xAt_eq hj
 rcases Nat.lt_trichotomy j (fitI l n)with h5|h5|h5
 ·have h6:=findIdx_below (p:=fun x:Ex=>decide (n≤x.2)) h5
  rw[hg]at h6;simp at h6;omega
 ·subst h5;rw[hg];exact h2
 ·have h6:=h.ends h5 hj
  rw[hg]at h6;unfold fitI at h6⊢;omega
theorem fit_none{hi lo:Nat}{l:List Ex}{n:Nat}(h:Canon hi lo l)(hn:1≤n)(hl:l.length≤fitI l n)(k:Nat):¬∀b,k≤b→b<k+n→hasB l b:=by
 intro hk
 obtain⟨x,hx,h2,h3⟩:=h.one hn hk
 obtain⟨j,hj,rfl⟩:=List.getElem_of_mem hx
 have hg:xAt l j=l[j]:=xAt_eq hj
 have h6:=findIdx_below (p:=fun x:Ex=>decide (n≤x.2)) (show j<fitI l n by omega)
 rw[hg]at h6;simp at h6;omega
def touchL(l:List Ex)(i f:Nat):Bool:=decide (0<i)&&decide ((xAt l (i-1)).1+(xAt l (i-1)).2=f)
def touchR(l:List Ex)(i e:Nat):Bool:=decide (i<l.length)&&decide ((xAt l i).1=e)
def joinL(l:List Ex)(i f n:Nat):List Ex:=
 match touchL l i f,touchR l i (f+n)with
 |false,false=>l.take i++[(f,n)]++l.drop i
 |true,false=>l.take (i-1)++[((xAt l (i-1)).1,(xAt l (i-1)).2+n)]++l.drop i
 |false,true=>l.take i++[(f,n+(xAt l i).2)]++l.drop (i+1)
 |true,true=>l.take (i-1)++[((xAt l (i-1)).1,(xAt l (i-1)).2+n+(xAt l i).2)]++l.drop (i+1)
theorem canon_put{hi lo:Nat}{A B:List Ex}{f n:Nat}(hA:Canon hi lo A)(hB:Canon hi lo B)(h1:∀y∈A,y.1+y.2+1≤f)(h2:B≠[]→f+n+1≤(B.headD (0,0)).1)(h3:lo≤f)(h4:f+n≤hi)(hn:1≤n):Canon hi lo (A++[(f,n)]++B):=by
 rw[List.append_assoc]
 refine canon_mid.2 ⟨hA,h1,h3,hn,h4,?_⟩
 cases B with
 |nil=>trivial
 |cons z B=>exact⟨h2 (by simp),hB.2⟩
theorem Canon.tail{hi lo:Nat}{A B:List Ex}(h:Canon hi lo (A++B)):Canon hi lo B:=by
 cases B with
 |nil=>trivial
 |cons z B=>obtain⟨_,_,c3,c4,c5,c6⟩:=canon_mid.1 h;exact⟨c3,c4,c5,c6⟩
theorem drop_head{l:List Ex}{i:Nat}(h:l.drop i≠[]):i<l.length∧(l.drop i).headD (0,0)=xAt l i:=by
 have hi:i<l.length:=by
  rcases Nat.lt_or_ge i l.length with h1|h1
  ·exact h1
  ·exact absurd (List.drop_eq_nil_of_le h1) h
 refine⟨hi,?_⟩
 rw[List.drop_eq_getElem_cons hi,xAt_eq hi];rfl
theorem mem_take{l:List Ex}{i:Nat}{y:Ex}(h:y∈l.take i):∃k,k<i∧k<l.length∧y=xAt l k:=by
 obtain⟨k,hk,rfl⟩:=List.getElem_of_mem h
 have hk':k<i∧k<l.length:=by rw[List.length_take]at hk;omega
 refine⟨k,hk'.1,hk'.2,?_⟩
 rw[xAt_eq hk'.2];simp
theorem join_spec{hi lo:Nat}{l:List Ex}{f n:Nat}(h:Canon hi lo l)(hn:1≤n)(hlo:lo≤f)(hhi:f+n≤hi)(hb:∀b,f≤b→b<f+n→¬hasB l b):
  Canon hi lo (joinL l (nextI l f) f n)∧(∀b,hasB (joinL l (nextI l f) f n) b↔hasB l b∨(f≤b∧b<f+n))∧sumB (joinL l (nextI l f) f n)=sumB l+n:=by
 have hnx:=(next_none h hn).1 hb
 have hbe:∀k,k<nextI l f→(xAt l k).1+(xAt l k).2≤f:=fun k hk=>by
  have:=findIdx_below (p:=fun x:Ex=>decide (f<x.1+x.2)) hk
  simpa using this
 have hle:nextI l f≤l.length:=List.findIdx_le_length
 generalize nextI l f=i at*
 have cTake:∀k,Canon hi lo (l.take k):=fun k=>Canon.left (B:=l.drop k) (by rw[List.take_append_drop];exact h)
 have cDrop:∀k,Canon hi lo (l.drop k):=fun k=>Canon.tail (A:=l.take k) (by rw[List.take_append_drop];exact h)
 have eT:∀k,l.take k++l.drop k=l:=fun k=>List.take_append_drop k l
 have hasI:∀b,hasB l b↔hasB (l.take i) b∨hasB (l.drop i) b:=fun b=>by rw[←hasB_append,eT]
 have sumI:sumB l=sumB (l.take i)+sumB (l.drop i):=by rw[←sumB_append,eT]
 have Lc:∀(hL:touchL l i f=true),0<i∧(xAt l (i-1)).1+(xAt l (i-1)).2=f∧l.take i=l.take (i-1)++[xAt l (i-1)]:=fun hL=>by
  simp[touchL]at hL
  refine⟨hL.1,hL.2,?_⟩
  obtain⟨j,rfl⟩:∃j,i=j+1:=⟨i-1,by omega⟩
  rw[Nat.add_sub_cancel,List.take_add_one,List.getElem?_eq_getElem (by omega),xAt_eq (by omega)];rfl
 have Ln:∀(hL:touchL l i f=false),∀y∈l.take i,y.1+y.2+1≤f:=fun hL y hy=>by
  obtain⟨k,hk,hkl,rfl⟩:=mem_take hy
  have h1:=hbe k hk
  rcases Nat.lt_or_ge k (i-1)with h2|h2
  ·have:=h.ends h2 (by omega);have:=hbe (i-1) (by omega);have:=(h.getD (show i-1<l.length by omega)).2.1;omega
  ·obtain rfl:k=i-1:=by omega
   simp[touchL]at hL
   have:=hL (by omega);omega
 have Rc:∀(hR:touchR l i (f+n)=true),i<l.length∧(xAt l i).1=f+n∧l.drop i=xAt l i::l.drop (i+1):=fun hR=>by
  simp[touchR]at hR
  refine⟨hR.1,hR.2,?_⟩
  rw[List.drop_eq_getElem_cons hR.1,←xAt_eq hR.1]
 have Rn:∀(hR:touchR l i (f+n)=false),l.drop i≠[]→f+n+1≤((l.drop i).headD (0,0)).1:=fun hR hd=>by
  obtain⟨h1,h2⟩:=drop_head hd
  rw[h2]
  have h3:=hnx h1
  simp[touchR,h1]at hR
  omega
 have hd:∀(hi':i<l.length),l.drop (i+1)≠[]→(xAt l i).1+(xAt l i).2+1≤((l.drop (i+1)).headD (0,0)).1:=fun hi' hne=>by
  obtain⟨h1,h2⟩:=drop_head hne
  rw[h2];exact h.ends (Nat.lt_succ_self i) h1
 have hpre:∀(h0:0<i),∀y∈l.take (i-1),y.1+y.2+1≤(xAt l (i-1)).1:=fun h0 y hy=>by
  obtain⟨k,hk,hkl,rfl⟩:=mem_take hy
  exact h.ends hk (by omega)
 unfold joinL
 cases hL:touchL l i f<;>cases hR:touchR l i (f+n)<;>dsimp only
 ·refine⟨canon_put (cTake i) (cDrop i) (Ln hL) (Rn hR) hlo hhi hn,fun b=>?_,?_⟩
  ·rw[hasB_append,hasB_append,hasB_cons,hasI b];have:=hasB_nil b;grind
  ·rw[sumB_append,sumB_append,sumB_cons,sumB_nil,sumI];simp only;omega
 ·obtain⟨r1,r2,r3⟩:=Rc hR
  have g:=h.getD r1
  have hx:(xAt l i).1+(xAt l i).2=f+(n+(xAt l i).2):=by omega
  refine⟨canon_put (cTake i) (cDrop (i+1)) (Ln hL) (fun hne=>by have:=hd r1 hne;omega) hlo (by omega) (by omega),fun b=>?_,?_⟩
  ·rw[hasB_append,hasB_append,hasB_cons,hasI b,r3,hasB_cons]
   have:=hasB_nil b
   have:(f≤b∧b<f+(n+(xAt l i).2))↔((xAt l i).1≤b∧b<(xAt l i).1+(xAt l i).2)∨(f≤b∧b<f+n):=by omega
   grind
  ·rw[sumB_append,sumB_append,sumB_cons,sumB_nil,sumI,r3,sumB_cons];simp only;omega
 ·obtain⟨l1,l2,l3⟩:=Lc hL
  have g:=h.getD (show i-1<l.length by omega)
  refine⟨canon_put (cTake (i-1)) (cDrop i) (hpre l1) (fun hne=>by have:=Rn hR hne;omega) g.1 (by omega) (by omega),fun b=>?_,?_⟩
  ·rw[hasB_append,hasB_append,hasB_cons,hasI b,l3,hasB_append,hasB_cons]
   have:=hasB_nil b
   have:((xAt l (i-1)).1≤b∧b<(xAt l (i-1)).1+((xAt l (i-1)).2+n))↔((xAt l (i-1)).1≤b∧b<(xAt l (i-1)).1+(xAt l (i-1)).2)∨(f≤b∧b<f+n):=by omega
   grind
  ·rw[sumB_append,sumB_append,sumB_cons,sumB_nil,sumI,l3,sumB_append,sumB_cons,sumB_nil];simp only;omega
 ·obtain⟨l1,l2,l3⟩:=Lc hL
  obtain⟨r1,r2,r3⟩:=Rc hR
  have g:=h.getD (show i-1<l.length by omega)
  have g2:=h.getD r1
  refine⟨canon_put (cTake (i-1)) (cDrop (i+1)) (hpre l1) (fun hne=>by have:=hd r1 hne;omega) g.1 (by omega) (by omega),fun b=>?_,?_⟩
  ·rw[hasB_append,hasB_append,hasB_cons,hasI b,l3,r3,hasB_append,hasB_cons,hasB_cons]
   have:=hasB_nil b
   have:((xAt l (i-1)).1≤b∧b<(xAt l (i-1)).1+((xAt l (i-1)).2+n+(xAt l i).2))↔(((xAt l (i-1)).1≤b∧b<(xAt l (i-1)).1+(xAt l (i-1)).2)∨((xAt l i).1≤b∧b<(xAt l i).1+(xAt l i).2))∨(f≤b∧b<f+n):=by omega
   grind
  ·rw[sumB_append,sumB_append,sumB_cons,sumB_nil,sumI,l3,r3,sumB_append,sumB_cons,sumB_cons,sumB_nil];simp only;omega
structure Sp where
 first:Nat
 blocks:Nat
 fr:List Ex
def Sp.ok(s:Sp):Prop:=s.first≤1000000∧s.blocks≤1000000∧Canon (s.first+s.blocks) s.first s.fr
theorem Sp.ok.len{s:Sp}(h:s.ok):s.fr.length≤1000000:=by have:=h.2.2.length;have:=h.2.1;omega
def encX(x:Ex):List Value:=[.int .i64 x.1,.int .i64 x.2]
def flatX(l:List Ex):List Value:=l.flatMap encX
theorem flatX_append(A B:List Ex):flatX (A++B)=flatX A++flatX B:=by simp[flatX]
theorem flatX_length(l:List Ex):(flatX l).length=l.length*2:=by
 induction l with
 |nil=>rfl
 |cons x l ih=>simp only[flatX,List.flatMap_cons,List.length_append]at*;rw[ih];simp[encX];omega
theorem flatX_one{l:List Ex}:∀u∈flatX l,u.oneCell'=true:=by
 intro u hu
 obtain⟨e,_,he⟩:=List.mem_flatMap.1 hu
 simp[encX]at he
 rcases he with rfl|rfl<;>rfl
theorem flatX_get(l:List Ex):∀(i:Nat),i<l.length→(flatX l)[i*2]?=some (.int .i64 (xAt l i).1)∧(flatX l)[i*2+1]?=some (.int .i64 (xAt l i).2):=by
 induction l with
 |nil=>intro i hi;simp at hi
 |cons x l ih=>
  intro i hi
  cases i with
  |zero=>exact⟨rfl,rfl⟩
  |succ i=>
   have h:=ih i (by simpa using hi)
   have e1:(i+1)*2=i*2+2:=by omega
   rw[e1]
   exact⟨h.1,h.2⟩
theorem flatX_take(l:List Ex):∀i:Nat,flatX (l.take i)=(flatX l).take (i*2):=by
 induction l with
 |nil=>intro i;simp[flatX]
 |cons x l ih=>
  intro i
  cases i with
  |zero=>rfl
  |succ i=>
   have e1:(i+1)*2=i*2+2:=by omega
   rw[e1]
   show encX x++flatX (l.take i)=(encX x++flatX l).take (i*2+2)
   rw[ih i];rfl
theorem flatX_drop(l:List Ex):∀i:Nat,flatX (l.drop i)=(flatX l).drop (i*2):=by
 induction l with
 |nil=>intro i;simp[flatX]
 |cons x l ih=>
  intro i
  cases i with
  |zero=>rfl
  |succ i=>
   have e1:(i+1)*2=i*2+2:=by omega
   rw[e1]
   show flatX (l.drop i)=(encX x++flatX l).drop (i*2+2)
   rw[ih i];rfl
theorem ext_info:∃i,Tryz.prog.info? 106=some i∧i.zero=some (.agg #[.int .i64 0,.int .i64 0])∧i.size=2∧i.bytes=16:=info_parts (by kernel_rfl)
theorem ext_size:(Tryz.prog.info? 106).map (·.size)=some 2:=by kernel_rfl
theorem ext_sizeOf(w:World):(Go.sizeOf 106).run Tryz.prog w=.ok 2 w:=by
 obtain⟨i,hi,_,hs,_⟩:=ext_info
 simp[Go.sizeOf,typeInfo,hi,hs]
theorem ext_zero(w:World):(zeroValue 106).run Tryz.prog w=.ok (.agg #[.int .i64 0,.int .i64 0]) w:=by
 obtain⟨i,hi,hz,_⟩:=ext_info
 simp[zeroValue,typeInfo,hi,hz]
structure Own2 (w:World) (g cap n:Nat) (l:List Ex) (cur:List Value):Prop where
 row:Row w g 106 cur
 size:cur.length=cap*2
 le:n≤cap
 max:cap≤9223372036854775807
 cells:cur.take (n*2)=flatX l
 len:l.length=n
theorem own2_of{w:World}{v:Value}{n:Nat}{l:List Ex}(h:w.ownsRow 0 106 2 v n (flatX l)):(v=.slice none 0 0∧n=0∧l=[])∨∃g cap cur,v=.slice (some ⟨g,0,none⟩) n cap∧Own2 w g cap n l cur:=by
 obtain⟨h1,h2⟩:=h
 rw[flatX_length]at h1
 rcases h2 with⟨rfl,rfl⟩|⟨g,cap,cur,rfl,_,hh,hcap,hm,hs,ht⟩
 ·exact .inl ⟨rfl,rfl,List.eq_nil_of_length_eq_zero (by omega)⟩
 ·exact .inr ⟨g,cap,cur.toList,rfl,hh,by simpa using hs,hcap,hm,ht,by omega⟩
section
variable {w : World} {g cap n : Nat} {l : List Ex} {cur : List Value}
theorem Own2.own(h:Own2 w g cap n l cur):w.ownsRow 0 106 2 (.slice (some ⟨g,0,none⟩) n cap) n (flatX l):=
 ⟨by rw[flatX_length,h.len],.inr ⟨g,cap,cur.toArray,rfl,Nat.zero_le _,h.row,h.le,h.max,by simpa using h.size,by simpa using h.cells⟩⟩
theorem Own2.get(h:Own2 w g cap n l cur){k:Nat}(hk:k<n*2):cur[k]?=(flatX l)[k]?:=by
 rw[←h.cells,List.getElem?_take,if_pos hk]
theorem Own2.at_(h:Own2 w g cap n l cur){i:Nat}(hi:i<n):w.cell? ⟨g,i*2,none⟩=some (.int .i64 (xAt l i).1)∧w.cell? ⟨g,i*2+1,none⟩=some (.int .i64 (xAt l i).2):=by
 have h1:=flatX_get l i (by rw[h.len];exact hi)
 rw[h.row.cell,h.row.cell,h.get (by omega),h.get (by omega)]
 exact h1
theorem Own2.shape(h:Own2 w g cap n l cur):w.shape? g=some (106,cap*2):=by
 have:=h.row;unfold Row at this
 simp[World.shape?,this,h.size]
theorem Own2.src(h:Own2 w g cap n l cur)(i:Nat):∀j v,(flatX (l.drop i))[j]?=some v→cur[i*2+j]?=some v:=by
 intro j v hj
 rw[flatX_drop,List.getElem?_drop]at hj
 have hlt:i*2+j<n*2:=by
  rcases Nat.lt_or_ge (i*2+j) (flatX l).length with h1|h1
  ·rw[flatX_length,h.len]at h1;exact h1
  ·rw[List.getElem?_eq_none h1]at hj;cases hj
 rw[h.get hlt];exact hj
end
def Got(w:World)(v:Value)(l:List Ex)(e:Ending)(w':World):Prop:=
 ∃v',e=.returned v'∧w'.ownsRow 0 106 2 v' l.length (flatX l)∧Far (fun k=>v.ownBlock=some k) w w'∧∀k,v'.ownBlock=some k→v.ownBlock=some k∨w.heap.size≤k
theorem Own2.got{w w':World}{v:Value}{g cap n:Nat}{l:List Ex}{cur:List Value}(h:Own2 w' g cap n l cur)(hf:Far (fun k=>v.ownBlock=some k) w w')(hg:v.ownBlock=some g∨w.heap.size≤g):Got w v l (.returned (.slice (some ⟨g,0,none⟩) n cap)) w':=by
 have e:=h.len;subst e
 exact⟨_,rfl,h.own,hf,fun k hk=>by injection hk with hk;subst hk;exact hg⟩
theorem over_apart(w:World)(a b:Addr)(la ca lb cb:Nat)(hne:a.block≠b.block)(tA tB:TypeId)(kA kB:Nat)(hsa:w.shape? a.block=some (tA,kA))(hsb:w.shape? b.block=some (tB,kB))(hkB:kB≠0)
  (hfa:w.frozen? a=false) (hfe:w.frozen? {block:=a.block,off:=kA}=false):(callFunc 119 #[.slice (some a) la ca,.slice (some b) lb cb]).run Tryz.prog w=.ok (.value (.bool false)) w:=by
 rw[run_callFunc_extern Tryz.func119 (by kernel_rfl) (by kernel_rfl) (by kernel_rfl) (e:=Extern.SlicesOverlaps.overlaps #[107,107] #[4]) (by kernel_rfl),
  Lib.run_overlaps_apart w 107 4 106 Tryz.underlying107 2 ext_sizeOf a b la ca lb cb hne tA tB kA kB hsa hsb hkB hfa hfe]
 rfl
theorem insert_shift(w:World){g cap n gv cv m i:Nat}{l M:List Ex}{cur curv:List Value}(h:Own2 w g cap n l cur)(hv:Own2 w gv cv m M curv)(hne:gv≠g)(hi:i<n)(hm:0<m)(hroom:n+m≤cap)(hbig:n+m≤4000000):
  Calls Tryz.prog 118 #[.slice (some ⟨g,0,none⟩) n cap,.int .i64 i,.slice (some ⟨gv,0,none⟩) m cv] w (Got w (.slice (some ⟨g,0,none⟩) n cap) (l.take i++M++l.drop i)):=by
 obtain⟨i0,hi0,_,hz,_⟩:=ext_info
 obtain⟨R,hR⟩:∃R,R=l.take i++M++l.drop i:=⟨_,rfl⟩
 rw[←hR]
 obtain⟨tot,htot⟩:∃t:Nat,t=n+m:=⟨_,rfl⟩
 obtain⟨im,him⟩:∃t:Nat,t=i+m:=⟨_,rfl⟩
 have hcap:=h.max
 have hlen:=h.len
 have hlenv:=hv.len
 have hsz:=h.size
 have hadd1:(n:Int)+(m:Int)=(tot:Int):=by omega
 have hadd2:(i:Int)+(m:Int)=(im:Int):=by omega
 have hw1:IntKind.i64.wrap (tot:Int)=(tot:Int):=IntWalk.i64_in _ (by omega)
 have hw2:IntKind.i64.wrap (im:Int)=(im:Int):=IntWalk.i64_in _ (by omega)
 have hg1:¬((m:Int)=0):=by omega
 have hg2:¬((i:Int)=(n:Int)):=by omega
 have hg3:decide ((tot:Int)>(cap:Int))=false:=by simp;omega
 have hs1:=fun w' k=>run_tail (P:=Tryz.prog) w' 107 106 i0 Tryz.underlying107 hi0 hz (some ⟨g,0,none⟩) n cap i (by omega) k (i:Int) rfl
 have hs2:=fun w' k=>run_head (P:=Tryz.prog) w' 107 106 i0 Tryz.underlying107 hi0 (some ⟨g,0,none⟩) n cap tot (by omega) k (tot:Int) rfl
 have hs3:=fun w' k=>run_tail (P:=Tryz.prog) w' 107 106 i0 Tryz.underlying107 hi0 hz (some ⟨g,0,none⟩) tot cap im (by omega) k (im:Int) rfl
 have hs4:=fun w' k=>run_tail (P:=Tryz.prog) w' 107 106 i0 Tryz.underlying107 hi0 hz (some ⟨g,0,none⟩) tot cap i (by omega) k (i:Int) rfl
 have ht1:=tailA_lt (g:=g) (off:=0) (i:=im) (cap:=cap) (sz:=2) (by omega)
 have ht2:=tailA_lt (g:=g) (off:=0) (i:=i) (cap:=cap) (sz:=2) (by omega)
 rw[Nat.zero_add]at ht1 ht2
 rw[ht1]at hs3
 rw[ht2]at hs4 hs1
 have hov:∀lb cb,(callFunc 119 #[.slice (some ⟨gv,0,none⟩) m cv,.slice (some ⟨g,im*2,none⟩) lb cb]).run Tryz.prog w=.ok (.value (.bool false)) w:=fun lb cb=>
  over_apart w ⟨gv,0,none⟩ ⟨g,im*2,none⟩ m cv lb cb hne _ _ _ _ hv.shape h.shape (by omega) (hv.row.free 0) (hv.row.free _)
 have hc1:(flatX (l.drop i)).length=Nat.min (tot-i) (tot-im)*2:=by rw[flatX_length,List.length_drop,hlen,htot,him];simp only[Nat.min_def];split<;>omega
 have hc2:∀j v,(flatX (l.drop i))[j]?=some v→w.drew.cell? ((⟨g,i*2,none⟩:Addr).add j)=some v:=fun j v hj=>by
  rw[Addr.add_lit];exact(h.row.cell _).trans (h.src i j v hj)
 have hc3:im*2+(flatX (l.drop i)).length≤cur.length:=by rw[flatX_length,List.length_drop,hlen,hsz,him];omega
 have C1:=Lib.hid hc1
 have C2:=Lib.hid hc2
 have C3:=Lib.hid hc3
 clear hc1 hc2 hc3
 have hc4:(flatX M).length=Nat.min m (tot-i)*2:=by rw[flatX_length,hlenv,htot];simp only[Nat.min_def];split<;>omega
 have hc5:∀j v,(flatX M)[j]?=some v→w.cell? ((⟨gv,0,none⟩:Addr).add j)=some v:=fun j v hj=>by
  rw[Addr.add_lit,Nat.zero_add,hv.row.cell];have:=hv.src 0 j v (by simpa using hj);simpa using this
 have hc6:i*2+(flatX M).length≤(splice cur (im*2) (flatX (l.drop i))).length:=by rw[splice_length _ _ _ C3.out,flatX_length,hlenv,hsz];omega
 have hc7:((splice (splice cur (im*2) (flatX (l.drop i))) (i*2) (flatX M)).take (tot*2))=flatX R:=by
  rw[take_splice2r cur (flatX M) (flatX (l.drop i)) (i*2) (im*2) (tot*2) (by rw[flatX_length,hlenv];omega) (by rw[flatX_length,List.length_drop,hlen];omega) (by rw[hsz];omega),hR,flatX_append,flatX_append,flatX_take,←h.cells,List.take_take,Nat.min_eq_left (by omega)]
 have hc8:(splice (splice cur (im*2) (flatX (l.drop i))) (i*2) (flatX M)).length=cap*2:=by rw[splice_length _ _ _ hc6,splice_length _ _ _ C3.out,hsz]
 have hc9:R.length=tot:=by rw[hR,List.length_append,List.length_append,List.length_take,List.length_drop,hlen,hlenv];omega
 have C4:=Lib.hid hc4
 have C5:=Lib.hid hc5
 have C6:=Lib.hid hc6
 have C7:=Lib.hid hc7
 have C8:=Lib.hid hc8
 have C9:=Lib.hid hc9
 have HCT:Hid (tot≤cap):=by unfold Hid;omega
 clear hc4 hc5 hc6 hc7 hc8 hc9 hR
 have H:=Lib.hid h
 have HV:=Lib.hid hv
 have HT:=Lib.hid htot
 have HI:=Lib.hid him
 have HL:=Lib.hid hlen
 have HLV:=Lib.hid hlenv
 have HS:=Lib.hid hsz
 clear h hv htot him hlen hlenv hsz ht1 ht2 hz hi0
 go_enter Tryz.func118,Tryz.ntmps118
 go_wp2_with (simp only[hov])
 go_region_law (refine step_copy_rows rfl _ _ 107 107 rfl 106 Tryz.underlying107 ext_size (by decide) (some ⟨g,im*2,none⟩) (some ⟨g,i*2,none⟩) (tot-im) (cap-im) (tot-i) (cap-i) (by simp[Act.eval,Act.put]) (by simp[Act.eval,Act.put]) g (im*2) cur 106 H.out.row (flatX (l.drop i)) C1.out (fun _=>⟨rfl,_,rfl,C2.out⟩) C3.out flatX_one ?_;intro w2 hr2 hf2)
 have hv2:=hf2.out.row (w:=w.drew) HV.out.row hne
 have HV2:=Lib.hid hv2
 clear hv2
 have c5:∀j v,(flatX M)[j]?=some v→w2.cell? ((⟨gv,0,none⟩:Addr).add j)=some v:=fun j v hj=>by
  have h5:=C5.out j v hj
  rw[Addr.add_lit]at h5⊢
  rw[HV2.out.cell,←HV.out.row.cell];exact h5
 have C5':=Lib.hid c5
 clear c5
 go_wp2_with (with_reducible refine stopAt 82 ?_)
 unfold Hid
 refine wpList_copy_rows rfl _ _ 107 107 rfl 106 Tryz.underlying107 ext_size (by decide) (some ⟨g,i*2,none⟩) (some ⟨gv,0,none⟩) (tot-i) (cap-i) m cv rfl rfl g (i*2) _ 106 hr2.out (flatX M) C4.out (fun _=>⟨rfl,_,rfl,C5'.out⟩) C6.out flatX_one ?_
 intro w3 hr3 hf3
 go_wp2
 go_ret
 have own:Own2 w3 g cap tot R _:=⟨hr3.out,C8.out,HCT.out,hcap,C7.out,C9.out⟩
 exact own.got ((Far.drew (Far.refl _ w)).trans (hf2.out.trans hf3.out fun b hb=>.inl hb) fun b hb=>.inl (by rw[hb];rfl)) (.inl rfl)
theorem insert_grow(w:World){g cap n gv cv m i:Nat}{l M:List Ex}{cur curv:List Value}(h:Own2 w g cap n l cur)(hv:Own2 w gv cv m M curv)(hi:i<n)(hm:0<m)(hroom:cap<n+m)(hbig:n+m≤4000000):
  Calls Tryz.prog 118 #[.slice (some ⟨g,0,none⟩) n cap,.int .i64 i,.slice (some ⟨gv,0,none⟩) m cv] w (Got w (.slice (some ⟨g,0,none⟩) n cap) (l.take i++M++l.drop i)):=by
 obtain⟨i0,hi0,hz0,hz,hzb⟩:=ext_info
 obtain⟨R,hR⟩:∃R,R=l.take i++M++l.drop i:=⟨_,rfl⟩
 rw[←hR]
 obtain⟨tot,htot⟩:∃t:Nat,t=n+m:=⟨_,rfl⟩
 obtain⟨im,him⟩:∃t:Nat,t=i+m:=⟨_,rfl⟩
 obtain⟨q,hq⟩:∃t:Nat,t=tot-i:=⟨_,rfl⟩
 have hcap:=h.max
 have hnc:=h.le
 have hlen:=h.len
 have hlenv:=hv.len
 have hsz:=h.size
 have hadd1:(n:Int)+(m:Int)=(tot:Int):=by omega
 have hadd2:(i:Int)+(m:Int)=(im:Int):=by omega
 have hsub:(tot:Int)-(i:Int)=(q:Int):=by omega
 have hw1:IntKind.i64.wrap (tot:Int)=(tot:Int):=IntWalk.i64_in _ (by omega)
 have hw2:IntKind.i64.wrap (im:Int)=(im:Int):=IntWalk.i64_in _ (by omega)
 have hw3:IntKind.i64.wrap (q:Int)=(q:Int):=IntWalk.i64_in _ (by omega)
 have hg1:¬((m:Int)=0):=by omega
 have hg2:¬((i:Int)=(n:Int)):=by omega
 have hg3:decide ((tot:Int)>(cap:Int))=true:=by simp;omega
 have hs1:=fun w' k=>run_tail (P:=Tryz.prog) w' 107 106 i0 Tryz.underlying107 hi0 hz (some ⟨g,0,none⟩) n cap i (by omega) k (i:Int) rfl
 have hs2:=fun w' k=>run_head (P:=Tryz.prog) w' 107 106 i0 Tryz.underlying107 hi0 (some ⟨g,0,none⟩) n cap i (by omega) k (i:Int) rfl
 have hs3:=fun b C w' k=>run_tail (P:=Tryz.prog) w' 107 106 i0 Tryz.underlying107 hi0 hz (some ⟨b,0,none⟩) tot C im (by omega) k (im:Int) rfl
 have hs4:=fun b C w' k=>run_tail (P:=Tryz.prog) w' 107 106 i0 Tryz.underlying107 hi0 hz (some ⟨b,0,none⟩) tot C i (by omega) k (i:Int) rfl
 have ht2:=tailA_lt (g:=g) (off:=0) (i:=i) (cap:=cap) (sz:=2) (by omega)
 rw[Nat.zero_add]at ht2
 rw[ht2]at hs1
 have hc0:∀j v,(flatX (l.take i))[j]?=some v→w.cell? ((⟨g,0,none⟩:Addr).add j)=some v:=fun j v hj=>by
  rw[Addr.add_lit,Nat.zero_add,h.row.cell]
  have h1:=h.src 0 j v (by
   rw[List.drop_zero]
   rw[flatX_take,List.getElem?_take]at hj
   split at hj
   ·exact hj
   ·cases hj)
  simpa using h1
 have hc1:(flatX (l.drop i)).length=Nat.min (n-i) (tot-im)*2:=by rw[flatX_length,List.length_drop,hlen,htot,him];simp only[Nat.min_def];split<;>omega
 have hc2:∀j v,(flatX (l.drop i))[j]?=some v→w.cell? ((⟨g,i*2,none⟩:Addr).add j)=some v:=fun j v hj=>by
  rw[Addr.add_lit];exact(h.row.cell _).trans (h.src i j v hj)
 have hc4:(flatX M).length=Nat.min m (tot-i)*2:=by rw[flatX_length,hlenv,htot];simp only[Nat.min_def];split<;>omega
 have hc5:∀j v,(flatX M)[j]?=some v→w.cell? ((⟨gv,0,none⟩:Addr).add j)=some v:=fun j v hj=>by
  rw[Addr.add_lit,Nat.zero_add,hv.row.cell];have:=hv.src 0 j v (by simpa using hj);simpa using this
 have hc6:∀C (c0:List Value),tot≤C→c0.length=C*2→i*2+(flatX M).length≤c0.length∧im*2+(flatX (l.drop i)).length≤(splice c0 (i*2) (flatX M)).length:=fun C c0 h1 h2=>by
  have h3:i*2+(flatX M).length≤c0.length:=by rw[flatX_length,hlenv,h2];omega
  exact⟨h3,by rw[splice_length _ _ _ h3,flatX_length,List.length_drop,hlen,h2];omega⟩
 have hc7:∀C (c0:List Value),tot≤C→C≤maxLen→c0.length=C*2→c0.take (i*2)=flatX (l.take i)→∀b (W:World),Row W b 106 (splice (splice c0 (i*2) (flatX M)) (im*2) (flatX (l.drop i)))→Own2 W b C tot R (splice (splice c0 (i*2) (flatX M)) (im*2) (flatX (l.drop i))):=fun C c0 h1 hm h2 h3 b W hr=>by
  refine⟨hr,?_,h1,by unfold maxLen at hm;omega,?_,?_⟩
  ·rw[splice_length _ _ _ (hc6 C c0 h1 h2).2,splice_length _ _ _ (hc6 C c0 h1 h2).1,h2]
  ·rw[take_splice2 c0 (flatX M) (flatX (l.drop i)) (i*2) (im*2) (tot*2) (by rw[flatX_length,hlenv];omega) (by rw[flatX_length,List.length_drop,hlen];omega) (by rw[h2];omega),h3,hR,flatX_append,flatX_append]
  ·rw[hR,List.length_append,List.length_append,List.length_take,List.length_drop,hlen,hlenv];omega
 have hti:(flatX (l.take i)).length=i*2:=by rw[flatX_length,List.length_take,hlen];omega
 have C0:=Lib.hid hc0
 have C1:=Lib.hid hc1
 have C2:=Lib.hid hc2
 have C4:=Lib.hid hc4
 have C5:=Lib.hid hc5
 have C6:=Lib.hid hc6
 have C7:=Lib.hid hc7
 have CT:=Lib.hid hti
 have CI:Hid (i<im∧im<tot∧i+q=tot∧0<q):=by unfold Hid;omega
 have H:=Lib.hid h
 have HV:=Lib.hid hv
 have HI0:=Lib.hid hi0
 have hgl:=h.row.lt
 have hvl:=hv.row.lt
 clear hc0 hc1 hc2 hc4 hc5 hc6 hc7 hti hR h hv htot him hlen hlenv hsz ht2 hq
 go_enter Tryz.func118,Tryz.ntmps118
 go_wp2_with (with_reducible refine stopAt 40 ?_)
 unfold Hid
 refine wpList_append_zeros_grow rfl _ _ 107 3 rfl 106 i0 _ .i64 .i64 Tryz.underlying107 Tryz.underlying3 HI0.out hz0 hz (by decide) hzb rfl (some ⟨g,0,none⟩) i cap rfl (flatX (l.take i)) CT.out (fun e=>by cases e) (fun ad e=>by injection e with e;subst e;exact C0.out) q (q:Int) rfl rfl CI.out.2.2.2 (by have:=CI.out;omega) (by unfold maxLen;have:=CI.out;omega) (by have:=CI.out;omega) ?_
 rw[CI.out.2.2.1]
 intro w2 C c0 hC1 hC2 hc0 hct hr2 hs2' hb2
 have ht3:=tailA_lt (g:=w.heap.size) (off:=0) (i:=im) (cap:=C) (sz:=2) (by have:=CI.out;omega)
 have ht4:=tailA_lt (g:=w.heap.size) (off:=0) (i:=i) (cap:=C) (sz:=2) (by have:=CI.out;omega)
 rw[Nat.zero_add]at ht3 ht4
 have hs3':=hs3 w.heap.size C
 have hs4':=hs4 w.heap.size C
 rw[ht3]at hs3'
 rw[ht4]at hs4'
 have D0:=Lib.hid (hC1)
 have D1:=Lib.hid hC2
 have D2:=Lib.hid hc0
 have D3:=Lib.hid hct
 have D4:=Lib.hid hr2
 have D6:=Lib.hid hb2
 have c5:∀j v,(flatX M)[j]?=some v→w2.cell? ((⟨gv,0,none⟩:Addr).add j)=some v:=fun j v hj=>by
  rw[hb2.cell (by rw[Addr.add_lit];exact hvl)];exact C5.out j v hj
 have C5':=Lib.hid c5
 have c2:∀j v,(flatX (l.drop i))[j]?=some v→w2.cell? ((⟨g,i*2,none⟩:Addr).add j)=some v:=fun j v hj=>by
  rw[hb2.cell (by rw[Addr.add_lit];exact hgl)];exact C2.out j v hj
 have C2':=Lib.hid c2
 clear hC1 hC2 hc0 hct hr2 hb2 c5 c2 ht3 ht4 hs3 hs4 hs2'
 go_wp2_with (with_reducible refine stopAt 45 ?_)
 unfold Hid
 refine wpList_copy_rows rfl _ _ 107 107 rfl 106 Tryz.underlying107 ext_size (by decide) (some ⟨w.heap.size,i*2,none⟩) (some ⟨gv,0,none⟩) (tot-i) (C-i) m cv rfl rfl w.heap.size (i*2) _ 106 D4.out (flatX M) C4.out (fun _=>⟨rfl,_,rfl,C5'.out⟩) (C6.out C c0 D0.out D2.out).1 flatX_one ?_
 intro w3 hr3 hf3
 have c2:∀j v,(flatX (l.drop i))[j]?=some v→w3.drew.cell? ((⟨g,i*2,none⟩:Addr).add j)=some v:=fun j v hj=>by
  have h5:=C2'.out j v hj
  rw[Addr.add_lit]at h5⊢
  exact(World.cell?_of_block (hf3.out.block g (by have:=D6.out.size;omega) (by omega))).trans h5
 have C2'':=Lib.hid c2
 clear c2
 go_wp2
 go_region_law (refine step_copy_rows rfl _ _ 107 107 rfl 106 Tryz.underlying107 ext_size (by decide) (some ⟨w.heap.size,im*2,none⟩) (some ⟨g,i*2,none⟩) (tot-im) (C-im) (n-i) (cap-i) (by simp[Act.eval,Act.put]) (by simp[Act.eval,Act.put]) w.heap.size (im*2) _ 106 hr3.out (flatX (l.drop i)) C1.out (fun _=>⟨rfl,_,rfl,C2''.out⟩) (C6.out C c0 D0.out D2.out).2 flatX_one ?_;intro w4 hr4 hf4)
 go_wp2
 go_ret
 have own:=C7.out C c0 D0.out D1.out D2.out D3.out _ _ hr4.out
 exact own.got ((Far.of_below D6.out _).trans ((hf3.out.drew).trans hf4.out fun b hb=>.inl hb) fun b hb=>.inr (by omega)) (.inr (Nat.le_refl _))
theorem own2_form{w:World}{v:Value}{n:Nat}{l:List Ex}(h:w.ownsRow 0 106 2 v n (flatX l)):∃A c,v=.slice A n c∧n≤c∧c≤9223372036854775807∧l.length=n:=by
 rcases own2_of h with⟨rfl,rfl,rfl⟩|⟨g,cap,cur,rfl,h1⟩
 ·exact⟨none,0,rfl,Nat.le_refl _,by omega,rfl⟩
 ·exact⟨_,_,rfl,h1.le,h1.max,h1.len⟩
theorem own2_src{w:World}{A:Option Addr}{m c:Nat}{M:List Ex}(h:w.ownsRow 0 106 2 (.slice A m c) m (flatX M))(hm:0<m):∃ad,A=some ad∧∀j v,(flatX M)[j]?=some v→w.cell? (ad.add j)=some v:=by
 rcases own2_of h with⟨_,h0,_⟩|⟨g,cap,cur,e,h1⟩
 ·omega
 ·injection e with e1 e2 e3
  subst e1
  refine⟨_,rfl,fun j v hj=>?_⟩
  rw[Addr.add_lit,Nat.zero_add,h1.row.cell]
  have:=h1.src 0 j v (by simpa using hj);simpa using this
theorem got_at{w w':World}{v v':Value}{n:Nat}{l:List Ex}(h:w'.ownsRow 0 106 2 v' n (flatX l))(hf:Far (fun k=>v.ownBlock=some k) w w')(hg:v'.ownBlock=v.ownBlock∨v'.ownBlock=some w.heap.size):Got w v l (.returned v') w':=by
 obtain⟨A,c,rfl,_,_,hl⟩:=own2_form h
 subst hl
 refine⟨_,rfl,h,hf,fun k hk=>?_⟩
 rcases hg with hg|hg
 ·exact .inl (hg▸hk)
 ·rw[hg]at hk;injection hk with hk;exact .inr (by omega)
theorem insert_end(w:World){v u:Value}{n m:Nat}{l M:List Ex}(h:w.ownsRow 0 106 2 v n (flatX l))(hv:w.ownsRow 0 106 2 u m (flatX M))(hm:0<m)(hbig:n+m≤4000000):
  Calls Tryz.prog 118 #[v,.int .i64 n,u] w (Got w v (l++M)):=by
 obtain⟨i0,hi0,hz0,hz,hzb⟩:=ext_info
 obtain⟨R,hR⟩:∃R,R=l++M:=⟨_,rfl⟩
 rw[←hR]
 have hx:w.ownsRow 0 106 2 v n (flatX l):=h
 obtain⟨A,c,rfl,hnc,hcm,hl⟩:=own2_form h
 obtain⟨B,d,rfl,hmd,hdm,hlM⟩:=own2_form hv
 obtain⟨ad,rfl,hsrc⟩:=own2_src hv hm
 have hg1:¬((m:Int)=0):=by omega
 have hs1:=fun w' k=>run_tail (P:=Tryz.prog) w' 107 106 i0 Tryz.underlying107 hi0 hz A n c n (Nat.le_refl _) k (n:Int) rfl
 have hfl:(flatX M).length=m*2:=by rw[flatX_length,hlM]
 have HX:=Lib.hid hx
 have HS:=Lib.hid hsrc
 have HF:=Lib.hid hfl
 have HR:=Lib.hid hR
 have HI0:=Lib.hid hi0
 clear h hv hx hsrc hR hfl hl hlM hi0
 go_enter Tryz.func118,Tryz.ntmps118
 go_wp2_with (with_reducible refine stopAt 25 ?_)
 unfold Hid
 refine wpList_append_own_at w rfl _ _ 107 rfl 0 106 i0 _ 2 16 Tryz.underlying107 HI0.out hz0 hz hzb rfl (by decide) _ n (flatX l) rfl HX.out ad m d (flatX M) rfl HF.out HS.out flatX_one (by unfold maxLen;omega) (by omega) (Nat.zero_le _) ?_
 intro v' w' ho hgr _ hat
 have HO:=Lib.hid ho
 have HG:=Lib.hid hgr
 have HA:=Lib.hid hat
 obtain⟨A',c',rfl,_,_⟩:∃A' c',v'=.slice A' (n+m) c'∧n+m≤c'∧c'≤9223372036854775807:=by
  rw[←flatX_append]at ho
  obtain⟨A',c',h1,h2,h3,_⟩:=own2_form ho
  exact⟨A',c',h1,h2,h3⟩
 clear ho hgr hat
 go_wp2
 go_ret
 have ho:=HO.out
 rw[←flatX_append,←HR.out]at ho
 exact got_at ho ((Far.refl _ w).grown HG.out fun k hk=>.inl hk) HA.out
theorem insert_any(w:World){v u:Value}{n m i:Nat}{l M:List Ex}(h:w.ownsRow 0 106 2 v n (flatX l))(hv:w.ownsRow 0 106 2 u m (flatX M))(hne:∀k,v.ownBlock=some k→u.ownBlock≠some k)(hi:i≤n)(hm:0<m)(hbig:n+m≤4000000):
  Calls Tryz.prog 118 #[v,.int .i64 i,u] w (Got w v (l.take i++M++l.drop i)):=by
 have hl:l.length=n:=by obtain⟨_,_,_,_,_,h1⟩:=own2_form h;exact h1
 by_cases e:i=n
 ·subst e
  have:=insert_end w h hv hm hbig
  rw[List.take_of_length_le (by omega),List.drop_of_length_le (by omega),List.append_nil]
  exact this
 ·rcases own2_of h with⟨_,h0,_⟩|⟨g,cap,cur,rfl,h1⟩
  ·omega
  ·rcases own2_of hv with⟨_,h0,_⟩|⟨gv,cv,curv,rfl,h2⟩
   ·omega
   ·have hne':gv≠g:=fun e=>hne g rfl (by rw[e];rfl)
    rcases Nat.lt_or_ge cap (n+m)with h3|h3
    ·exact insert_grow w h1 h2 (by omega) hm h3 hbig
    ·exact insert_shift w h1 h2 hne' (by omega) hm h3 hbig
theorem replace_none(w:World){v u:Value}{n m i:Nat}{l M:List Ex}(h:w.ownsRow 0 106 2 v n (flatX l))(hv:w.ownsRow 0 106 2 u m (flatX M))(hne:∀k,v.ownBlock=some k→u.ownBlock≠some k)(hi:i≤n)(hm:0<m)(hbig:n+m≤4000000):
  Calls Tryz.prog 115 #[v,.int .i64 i,.int .i64 i,u] w (Got w v (l.take i++M++l.drop i)):=by
 obtain⟨i0,hi0,hz0,hz,hzb⟩:=ext_info
 have hins:=insert_any w h hv hne hi hm hbig
 obtain⟨R,hR⟩:∃R,R=l.take i++M++l.drop i:=⟨_,rfl⟩
 rw[←hR]at hins⊢
 obtain⟨A,c,rfl,hnc,hcm,hl⟩:=own2_form h
 obtain⟨B,d,rfl,hmd,hdm,hlM⟩:=own2_form hv
 have hs1:=fun w' k k'=>run_mid (P:=Tryz.prog) w' 107 106 i0 Tryz.underlying107 hi0 hz A n c i i (Nat.le_refl _) (by omega) k k' (i:Int) (i:Int) rfl rfl
 have HINS:=Lib.hid hins
 clear h hv hR hl hlM hi0 hins
 go_enter Tryz.func115,Tryz.ntmps115
 go_wp2_with fail
 refine HINS.out.mono ?_
 rintro e w2 ⟨v',rfl,ho,hf,hk⟩
 obtain⟨A',c',rfl,_,_,_⟩:=own2_form ho
 have HG:Hid (Got w (.slice A n c) R (.returned (.slice A' R.length c')) w2):=⟨_,rfl,ho,hf,hk⟩
 clear ho hf hk
 go_wp2
 go_ret
 exact HG.out
theorem replace_end_room(w:World){g cap n m d i:Nat}{l M:List Ex}{cur:List Value}{B:Option Addr}(h:Own2 w g cap n l cur)(hv:w.ownsRow 0 106 2 (.slice B m d) m (flatX M))(hi:i<n)(hroom:i+m≤cap):
  Calls Tryz.prog 115 #[.slice (some ⟨g,0,none⟩) n cap,.int .i64 i,.int .i64 n,.slice B m d] w (Got w (.slice (some ⟨g,0,none⟩) n cap) (l.take i++M)):=by
 obtain⟨i0,hi0,hz0,hz,hzb⟩:=ext_info
 obtain⟨R,hR⟩:∃R,R=l.take i++M:=⟨_,rfl⟩
 rw[←hR]
 obtain⟨tot,htot⟩:∃t:Nat,t=i+m:=⟨_,rfl⟩
 have hcap:=h.max
 have hnc:=h.le
 have hlen:=h.len
 have hsz:=h.size
 have hlM:M.length=m:=by obtain⟨_,_,_,_,_,h1⟩:=own2_form hv;exact h1
 have hfl:(flatX M).length=m*2:=by rw[flatX_length,hlM]
 have hg1:¬((i:Int)=(n:Int)):=by omega
 have hs1:=fun w' k k'=>run_mid (P:=Tryz.prog) w' 107 106 i0 Tryz.underlying107 hi0 hz (some ⟨g,0,none⟩) n cap i n (by omega) (by omega) k k' (i:Int) (n:Int) rfl rfl
 have hs2:=fun w' k=>run_head (P:=Tryz.prog) w' 107 106 i0 Tryz.underlying107 hi0 (some ⟨g,0,none⟩) n cap i (by omega) k (i:Int) rfl
 have hfit:i*2+(flatX M).length≤cur.length:=by rw[hfl,hsz];omega
 have hown:∀(W:World) (c1:List Value),Row W g 106 c1→c1.length=(splice cur (i*2) (flatX M)).length→c1.take (tot*2)=(splice cur (i*2) (flatX M)).take (tot*2)→Own2 W g cap tot R c1:=fun W c1 h1 h2 h3=>by
  refine⟨h1,by rw[h2,splice_length _ _ _ hfit,hsz],by omega,hcap,?_,by rw[hR,List.length_append,List.length_take,hlen,hlM];omega⟩
  rw[h3,hR,flatX_append,flatX_take,←h.cells,List.take_take,Nat.min_eq_left (by omega)]
  unfold splice
  rw[←List.append_assoc,List.take_append_of_le_length (by rw[List.length_append,List.length_take,hfl];omega)]
  exact List.take_of_length_le (by rw[List.length_append,List.length_take,hfl];omega)
 have HO:=Lib.hid hown
 have HSRC:Hid (0<m→∃ad,B=some ad∧∀j v,(flatX M)[j]?=some v→w.cell? (ad.add j)=some v):=own2_src hv
 have HFL:=Lib.hid hfl
 have HFIT:=Lib.hid hfit
 have H:=Lib.hid h
 have HI0:=Lib.hid hi0
 have HT:=Lib.hid htot
 have HSP:Hid ((splice cur (i*2) (flatX M)).length=cap*2):=(splice_length _ _ _ hfit).trans hsz
 by_cases hlt:tot<n
 ·have hg2:decide ((tot:Int)<(n:Int))=true:=by simp;omega
  have hg3:decide (tot<n)=true:=by simp;omega
  have hs3:=fun w' k=>run_tail (P:=Tryz.prog) w' 107 106 i0 Tryz.underlying107 hi0 hz (some ⟨g,0,none⟩) n cap tot (by omega) k (tot:Int) rfl
  have ht3:=tailA_lt (g:=g) (off:=0) (i:=tot) (cap:=cap) (sz:=2) (by omega)
  rw[Nat.zero_add]at ht3
  rw[ht3]at hs3
  clear hown hsz hlen hlM hfl hR hi0 h hv hfit ht3 htot
  go_enter Tryz.func115,Tryz.ntmps115
  go_wp2_with (with_reducible refine stopAt 34 ?_)
  unfold Hid
  refine wpList_append_row_room rfl _ _ 107 rfl 106 i0 Tryz.underlying107 HI0.out hz g i cap rfl cur H.out.row B m d rfl (flatX M) HFL.out HSRC.out flatX_one hroom HFIT.out ?_
  rw[←HT.out]
  intro w2 hr2 hf2
  go_wp2_with (with_reducible refine stopClear ?_)
  unfold Hid
  refine wpList_clear_rows rfl _ 107 rfl 106 _ (sz:=2) Tryz.underlying107 ext_zero rfl (by decide) (some ⟨g,tot*2,none⟩) (n-tot) (cap-tot) rfl g (tot*2) _ 106 hr2.out (fun _=>rfl) (by have:=HSP.out;omega) ?_
  intro w3 c3 hr3 hl3 ht3 hf3
  have HOWN:=Lib.hid (HO.out w3 c3 hr3 hl3 ht3)
  have HF:=Lib.hid (hf2.out.trans hf3 fun b hb=>.inl hb)
  clear hr3 hl3 ht3 hf3 hr2 hf2
  go_wp2
  go_ret
  exact HOWN.out.got (HF.out.mono fun b hb=>by rw[hb];rfl) (.inl rfl)
 ·have hg2:decide ((tot:Int)<(n:Int))=false:=by simp;omega
  have hg3:decide (tot<n)=false:=by simp;omega
  clear hown hsz hlen hlM hfl hR hi0 h hv hfit htot
  go_enter Tryz.func115,Tryz.ntmps115
  go_wp2_with (with_reducible refine stopAt 34 ?_)
  unfold Hid
  refine wpList_append_row_room rfl _ _ 107 rfl 106 i0 Tryz.underlying107 HI0.out hz g i cap rfl cur H.out.row B m d rfl (flatX M) HFL.out HSRC.out flatX_one hroom HFIT.out ?_
  rw[←HT.out]
  intro w2 hr2 hf2
  go_wp2
  go_ret
  exact(HO.out w2 _ hr2.out rfl rfl).got (hf2.out.mono fun b hb=>by rw[hb];rfl) (.inl rfl)
theorem replace_end_grow(w:World){g cap n m d i:Nat}{l M:List Ex}{cur:List Value}{B:Option Addr}(h:Own2 w g cap n l cur)(hv:w.ownsRow 0 106 2 (.slice B m d) m (flatX M))(hi:i<n)(hroom:cap<i+m)(hbig:n+m≤4000000):
  Calls Tryz.prog 115 #[.slice (some ⟨g,0,none⟩) n cap,.int .i64 i,.int .i64 n,.slice B m d] w (Got w (.slice (some ⟨g,0,none⟩) n cap) (l.take i++M)):=by
 obtain⟨i0,hi0,hz0,hz,hzb⟩:=ext_info
 obtain⟨R,hR⟩:∃R,R=l.take i++M:=⟨_,rfl⟩
 rw[←hR]
 obtain⟨tot,htot⟩:∃t:Nat,t=i+m:=⟨_,rfl⟩
 have hcap:=h.max
 have hnc:=h.le
 have hlM:M.length=m:=by obtain⟨_,_,_,_,_,h1⟩:=own2_form hv;exact h1
 have hfl:(flatX M).length=m*2:=by rw[flatX_length,hlM]
 have hg1:¬((i:Int)=(n:Int)):=by omega
 have hg2:decide ((tot:Int)<(n:Int))=false:=by simp;omega
 have hg3:decide (tot<n)=false:=by simp;omega
 have hs1:=fun w' k k'=>run_mid (P:=Tryz.prog) w' 107 106 i0 Tryz.underlying107 hi0 hz (some ⟨g,0,none⟩) n cap i n (by omega) (by omega) k k' (i:Int) (n:Int) rfl rfl
 have hs2:=fun w' k=>run_head (P:=Tryz.prog) w' 107 106 i0 Tryz.underlying107 hi0 (some ⟨g,0,none⟩) n cap i (by omega) k (i:Int) rfl
 obtain⟨ad,rfl,hsrc⟩:=own2_src hv (by omega)
 have hpre:Own2 w g cap i (l.take i) cur:=⟨h.row,h.size,by omega,hcap,by rw[flatX_take,←h.cells,List.take_take,Nat.min_eq_left (by omega)],by rw[List.length_take,h.len];omega⟩
 have HP:=Lib.hid hpre.own
 have HSRC:=Lib.hid hsrc
 have HFL:=Lib.hid hfl
 have HI0:=Lib.hid hi0
 have HT:=Lib.hid htot
 have HR:=Lib.hid hR
 clear hlM hfl hR hi0 h hv htot hpre hsrc
 go_enter Tryz.func115,Tryz.ntmps115
 go_wp2_with (with_reducible refine stopAt 34 ?_)
 unfold Hid
 refine wpList_append_own_at w rfl _ _ 107 rfl 0 106 i0 _ 2 16 Tryz.underlying107 HI0.out hz0 hz hzb rfl (by decide) _ i (flatX (l.take i)) rfl HP.out ad m d (flatX M) rfl HFL.out HSRC.out flatX_one (by unfold maxLen;omega) (by omega) (Nat.zero_le _) ?_
 rw[←HT.out]
 intro v' w' ho hgr _ hat
 have HO:=Lib.hid ho
 have HG:=Lib.hid hgr
 have HA:=Lib.hid hat
 obtain⟨A',c',rfl,_,_⟩:∃A' c',v'=.slice A' tot c'∧tot≤c'∧c'≤9223372036854775807:=by
  rw[←flatX_append]at ho
  obtain⟨A',c',h1,h2,h3,_⟩:=own2_form ho
  exact⟨A',c',h1,h2,h3⟩
 clear ho hgr hat
 go_wp2
 go_ret
 have ho:=HO.out
 rw[←flatX_append,←HR.out]at ho
 exact got_at ho ((Far.refl _ w).grown HG.out fun k hk=>.inl hk) HA.out
theorem replace_fit(w:World){g cap n m d i j:Nat}{l M:List Ex}{cur:List Value}{B:Option Addr}(h:Own2 w g cap n l cur)(hv:w.ownsRow 0 106 2 (.slice B m d) m (flatX M))(hij:i<j)(hj:j<n)(hm:i+m≤j)(hbig:n+m≤4000000):
  Calls Tryz.prog 115 #[.slice (some ⟨g,0,none⟩) n cap,.int .i64 i,.int .i64 j,.slice B m d] w (Got w (.slice (some ⟨g,0,none⟩) n cap) (l.take i++M++l.drop j)):=by
 obtain⟨i0,hi0,hz0,hz,hzb⟩:=ext_info
 obtain⟨R,hR⟩:∃R,R=l.take i++M++l.drop j:=⟨_,rfl⟩
 rw[←hR]
 obtain⟨r,hr⟩:∃t:Nat,t=n-j:=⟨_,rfl⟩
 obtain⟨im,him⟩:∃t:Nat,t=i+m:=⟨_,rfl⟩
 obtain⟨tot,htot⟩:∃t:Nat,t=im+r:=⟨_,rfl⟩
 have hcap:=h.max
 have hnc:=h.le
 have hlen:=h.len
 have hsz:=h.size
 have hlM:M.length=m:=by obtain⟨_,_,_,_,_,h1⟩:=own2_form hv;exact h1
 have hfl:(flatX M).length=m*2:=by rw[flatX_length,hlM]
 have hdl:(flatX (l.drop j)).length=r*2:=by rw[flatX_length,List.length_drop,hlen,hr]
 have hadd1:(i:Int)+(m:Int)=(im:Int):=by omega
 have hadd2:(im:Int)+(r:Int)=(tot:Int):=by omega
 have hw1:IntKind.i64.wrap (im:Int)=(im:Int):=IntWalk.i64_in _ (by omega)
 have hw2:IntKind.i64.wrap (tot:Int)=(tot:Int):=IntWalk.i64_in _ (by omega)
 have hg1:¬((i:Int)=(j:Int)):=by omega
 have hg2:¬((j:Int)=(n:Int)):=by omega
 have hs1:=fun w' k k'=>run_mid (P:=Tryz.prog) w' 107 106 i0 Tryz.underlying107 hi0 hz (some ⟨g,0,none⟩) n cap i j (by omega) (by omega) k k' (i:Int) (j:Int) rfl rfl
 have hs2:=fun w' k=>run_head (P:=Tryz.prog) w' 107 106 i0 Tryz.underlying107 hi0 (some ⟨g,0,none⟩) n cap i (by omega) k (i:Int) rfl
 have hs3:=fun w' k=>run_tail (P:=Tryz.prog) w' 107 106 i0 Tryz.underlying107 hi0 hz (some ⟨g,0,none⟩) n cap j (by omega) k (j:Int) rfl
 have ht3:=tailA_lt (g:=g) (off:=0) (i:=j) (cap:=cap) (sz:=2) (by omega)
 rw[Nat.zero_add]at ht3
 rw[ht3,←hr]at hs3
 have hsrc2:∀k v,(flatX (l.drop j))[k]?=some v→cur[j*2+k]?=some v:=h.src j
 have hs4:=fun w' k=>run_head (P:=Tryz.prog) w' 107 106 i0 Tryz.underlying107 hi0 (some ⟨g,0,none⟩) n cap tot (by omega) k (tot:Int) rfl
 have hs5:=fun w' k=>run_tail (P:=Tryz.prog) w' 107 106 i0 Tryz.underlying107 hi0 hz (some ⟨g,0,none⟩) tot cap i (by omega) k (i:Int) rfl
 have ht5:=tailA_lt (g:=g) (off:=0) (i:=i) (cap:=cap) (sz:=2) (by omega)
 have hs6:=fun w' k=>run_tail (P:=Tryz.prog) w' 107 106 i0 Tryz.underlying107 hi0 hz (some ⟨g,0,none⟩) tot cap im (by omega) k (im:Int) rfl
 have ht6:=tailA_lt (g:=g) (off:=0) (i:=im) (cap:=cap) (sz:=2) (by omega)
 rw[Nat.zero_add]at ht5 ht6
 rw[ht5]at hs5
 rw[ht6]at hs6
 have hc4:(flatX M).length=Nat.min m (tot-i)*2:=by rw[hfl];simp only[Nat.min_def];split<;>omega
 have hc1:(flatX (l.drop j)).length=Nat.min r (tot-im)*2:=by rw[hdl];simp only[Nat.min_def];split<;>omega
 have hti:cur.take (i*2)=flatX (l.take i):=by rw[flatX_take,←h.cells,List.take_take,Nat.min_eq_left (by omega)]
 have hRl:R.length=tot:=by rw[hR,List.length_append,List.length_append,List.length_take,List.length_drop,hlen,hlM];omega
 have hf1:i*2+(flatX M).length≤cur.length:=by rw[hfl,hsz];omega
 have hf2:im*2+(flatX (l.drop j)).length≤cur.length:=by rw[hdl,hsz];omega
 have hg3:decide ((tot:Int)>(cap:Int))=false:=by simp;omega
 have hg6:decide (cap<tot)=false:=by simp;omega
 have hg7:decide ((cap:Int)<(tot:Int))=false:=by simp;omega
 have hg4:decide ((im:Int)≤(j:Int))=true:=by simp;omega
 have hg5:decide (im≤j)=true:=by simp;omega
 have hs7:=fun w' k=>run_tail (P:=Tryz.prog) w' 107 106 i0 Tryz.underlying107 hi0 hz (some ⟨g,0,none⟩) n cap tot (by omega) k (tot:Int) rfl
 have hown:∀(W:World) (c1:List Value),Row W g 106 c1→c1.length=(splice (splice cur (i*2) (flatX M)) (im*2) (flatX (l.drop j))).length→c1.take (tot*2)=(splice (splice cur (i*2) (flatX M)) (im*2) (flatX (l.drop j))).take (tot*2)→Own2 W g cap tot R c1:=fun W c1 h1 h2 h3=>by
  refine⟨h1,by rw[h2,splice_length _ _ _ (by rw[splice_length _ _ _ hf1];exact hf2),splice_length _ _ _ hf1,hsz],by omega,hcap,?_,hRl⟩
  rw[h3,take_splice2 cur (flatX M) (flatX (l.drop j)) (i*2) (im*2) (tot*2) (by rw[hfl];omega) (by rw[hdl];omega) (by rw[hsz];omega),hti,hR,flatX_append,flatX_append]
 have hsrc3:∀k v,(flatX (l.drop j))[k]?=some v→(splice cur (i*2) (flatX M))[j*2+k]?=some v:=fun k v hk=>by
  rw[splice_get_out _ _ _ hf1 (by rw[hfl];omega)];exact hsrc2 k v hk
 have HO:=Lib.hid hown
 have HSRC:Hid (0<m→∃ad,B=some ad∧∀j v,(flatX M)[j]?=some v→w.cell? (ad.add j)=some v):=own2_src hv
 have HSRC3:=Lib.hid hsrc3
 have C1:=Lib.hid hc1
 have C4:=Lib.hid hc4
 have F1:=Lib.hid hf1
 have F2:Hid (im*2+(flatX (l.drop j)).length≤(splice cur (i*2) (flatX M)).length):=by unfold Hid;rw[splice_length _ _ _ hf1];exact hf2
 have FS1:Hid ((splice (splice cur (i*2) (flatX M)) (im*2) (flatX (l.drop j))).length=cap*2):=by unfold Hid;rw[splice_length _ _ _ F2.out,splice_length _ _ _ hf1,hsz]
 have FL:=Lib.hid hfl
 have H:=Lib.hid h
 have HT:Hid (tot≤n∧n≤cap):=by unfold Hid;omega
 clear hown hsrc3 hc1 hc4 hf1 hf2 hfl hdl hR hlM hlen hsz hti hRl hi0 h hv hr him htot ht3 ht5 ht6 hsrc2
 go_enter Tryz.func115,Tryz.ntmps115
 go_wp2
 go_region
 go_wp2_with (with_reducible refine stopAt 97 ?_)
 unfold Hid
 refine wpList_copy_rows rfl _ _ 107 107 rfl 106 Tryz.underlying107 ext_size (by decide) (some ⟨g,i*2,none⟩) B (tot-i) (cap-i) m d rfl rfl g (i*2) _ 106 H.out.row (flatX M) C4.out (fun h0=>⟨rfl,HSRC.out (by have:=FL.out;omega)⟩) F1.out flatX_one ?_
 intro w2 hr2 hf2
 have c2:∀k v,(flatX (l.drop j))[k]?=some v→w2.drew.cell? ((⟨g,j*2,none⟩:Addr).add k)=some v:=fun k v hk=>by
  rw[Addr.add_lit];exact(hr2.out.cell _).trans (HSRC3.out k v hk)
 have C2:=Lib.hid c2
 clear c2
 go_wp2
 go_region_law (refine step_copy_rows rfl _ _ 107 107 rfl 106 Tryz.underlying107 ext_size (by decide) (some ⟨g,im*2,none⟩) (some ⟨g,j*2,none⟩) (tot-im) (cap-im) r (cap-j) (by simp[Act.eval,Act.put]) (by simp[Act.eval,Act.put]) g (im*2) _ 106 hr2.out (flatX (l.drop j)) C1.out (fun _=>⟨rfl,_,rfl,C2.out⟩) F2.out flatX_one ?_;intro w3 hr3 hf3)
 go_wp2_with (with_reducible refine stopClear ?_)
 unfold Hid
 refine wpList_clear_rows rfl _ 107 rfl 106 _ (sz:=2) Tryz.underlying107 ext_zero rfl (by decide) (tailA (some ⟨g,0,none⟩) tot cap 2) (n-tot) (cap-tot) rfl g (tot*2) _ 106 hr3.out (fun h0=>by rw[tailA_lt (by have:=HT.out;omega),Nat.zero_add]) (by have:=FS1.out;have:=HT.out;omega) ?_
 intro w4 c4 hr4 hl4 ht4 hf4
 have HOWN:=Lib.hid (HO.out w4 c4 hr4 hl4 ht4)
 have HF:=Lib.hid (((Far.drew (Far.refl (fun b=>b=g) w)).trans (hf2.out.drew) fun b hb=>.inl hb).trans (hf3.out.trans hf4 fun b hb=>.inl hb) fun b hb=>.inl hb)
 clear hr4 hl4 ht4 hf4 hr3 hf3 hr2 hf2
 go_wp2
 go_ret
 exact HOWN.out.got (HF.out.mono fun b hb=>by rw[hb];rfl) (.inl rfl)
theorem replace_wide(w:World){g cap n m d i j gv:Nat}{l M:List Ex}{cur curv:List Value}(h:Own2 w g cap n l cur)(hv2:Own2 w gv d m M curv)(hne:g≠gv)(hij:i<j)(hj:j<n)(hm:j<i+m)(hroom:i+m+(n-j)≤cap)(hbig:n+m≤4000000):
  Calls Tryz.prog 115 #[.slice (some ⟨g,0,none⟩) n cap,.int .i64 i,.int .i64 j,.slice (some ⟨gv,0,none⟩) m d] w (Got w (.slice (some ⟨g,0,none⟩) n cap) (l.take i++M++l.drop j)):=by
 have hv:=hv2.own
 obtain⟨i0,hi0,hz0,hz,hzb⟩:=ext_info
 obtain⟨R,hR⟩:∃R,R=l.take i++M++l.drop j:=⟨_,rfl⟩
 rw[←hR]
 obtain⟨r,hr⟩:∃t:Nat,t=n-j:=⟨_,rfl⟩
 obtain⟨im,him⟩:∃t:Nat,t=i+m:=⟨_,rfl⟩
 obtain⟨tot,htot⟩:∃t:Nat,t=im+r:=⟨_,rfl⟩
 have hcap:=h.max
 have hnc:=h.le
 have hlen:=h.len
 have hsz:=h.size
 have hlM:M.length=m:=by obtain⟨_,_,_,_,_,h1⟩:=own2_form hv;exact h1
 have hfl:(flatX M).length=m*2:=by rw[flatX_length,hlM]
 have hdl:(flatX (l.drop j)).length=r*2:=by rw[flatX_length,List.length_drop,hlen,hr]
 have hadd1:(i:Int)+(m:Int)=(im:Int):=by omega
 have hadd2:(im:Int)+(r:Int)=(tot:Int):=by omega
 have hw1:IntKind.i64.wrap (im:Int)=(im:Int):=IntWalk.i64_in _ (by omega)
 have hw2:IntKind.i64.wrap (tot:Int)=(tot:Int):=IntWalk.i64_in _ (by omega)
 have hg1:¬((i:Int)=(j:Int)):=by omega
 have hg2:¬((j:Int)=(n:Int)):=by omega
 have hs1:=fun w' k k'=>run_mid (P:=Tryz.prog) w' 107 106 i0 Tryz.underlying107 hi0 hz (some ⟨g,0,none⟩) n cap i j (by omega) (by omega) k k' (i:Int) (j:Int) rfl rfl
 have hs2:=fun w' k=>run_head (P:=Tryz.prog) w' 107 106 i0 Tryz.underlying107 hi0 (some ⟨g,0,none⟩) n cap i (by omega) k (i:Int) rfl
 have hs3:=fun w' k=>run_tail (P:=Tryz.prog) w' 107 106 i0 Tryz.underlying107 hi0 hz (some ⟨g,0,none⟩) n cap j (by omega) k (j:Int) rfl
 have ht3:=tailA_lt (g:=g) (off:=0) (i:=j) (cap:=cap) (sz:=2) (by omega)
 rw[Nat.zero_add]at ht3
 rw[ht3,←hr]at hs3
 have hsrc2:∀k v,(flatX (l.drop j))[k]?=some v→cur[j*2+k]?=some v:=h.src j
 have hs4:=fun w' k=>run_head (P:=Tryz.prog) w' 107 106 i0 Tryz.underlying107 hi0 (some ⟨g,0,none⟩) n cap tot (by omega) k (tot:Int) rfl
 have hs5:=fun w' k=>run_tail (P:=Tryz.prog) w' 107 106 i0 Tryz.underlying107 hi0 hz (some ⟨g,0,none⟩) tot cap i (by omega) k (i:Int) rfl
 have ht5:=tailA_lt (g:=g) (off:=0) (i:=i) (cap:=cap) (sz:=2) (by omega)
 have hs6:=fun w' k=>run_tail (P:=Tryz.prog) w' 107 106 i0 Tryz.underlying107 hi0 hz (some ⟨g,0,none⟩) tot cap im (by omega) k (im:Int) rfl
 have ht6:=tailA_lt (g:=g) (off:=0) (i:=im) (cap:=cap) (sz:=2) (by omega)
 rw[Nat.zero_add]at ht5 ht6
 rw[ht5]at hs5
 rw[ht6]at hs6
 have hc4:(flatX M).length=Nat.min m (tot-i)*2:=by rw[hfl];simp only[Nat.min_def];split<;>omega
 have hc1:(flatX (l.drop j)).length=Nat.min r (tot-im)*2:=by rw[hdl];simp only[Nat.min_def];split<;>omega
 have hti:cur.take (i*2)=flatX (l.take i):=by rw[flatX_take,←h.cells,List.take_take,Nat.min_eq_left (by omega)]
 have hRl:R.length=tot:=by rw[hR,List.length_append,List.length_append,List.length_take,List.length_drop,hlen,hlM];omega
 have hf1:i*2+(flatX M).length≤cur.length:=by rw[hfl,hsz];omega
 have hf2:im*2+(flatX (l.drop j)).length≤cur.length:=by rw[hdl,hsz];omega
 have hg3:decide ((tot:Int)>(cap:Int))=false:=by simp;omega
 have hg6:decide (cap<tot)=false:=by simp;omega
 have hg7:decide ((cap:Int)<(tot:Int))=false:=by simp;omega
 have hg4:decide ((im:Int)≤(j:Int))=false:=by simp;omega
 have hg5:decide (im≤j)=false:=by simp;omega
 have hov:∀(W:World),W=w.drew→∀lb cb,(callFunc 119 #[.slice (some ⟨g,im*2,none⟩) lb cb,.slice (some ⟨gv,0,none⟩) m d]).run Tryz.prog W=.ok (.value (.bool false)) W:=fun W e lb cb=>by
  subst e
  exact over_apart w.drew ⟨g,im*2,none⟩ ⟨gv,0,none⟩ lb cb m d hne _ _ _ _ (show w.shape? g= _ from h.shape) (show w.shape? gv= _ from hv2.shape) (by have:=hv2.le;omega) (h.row.free _) (h.row.free _)
 have hov:=hov _ rfl
 have hf3:i*2+(flatX M).length≤(splice cur (im*2) (flatX (l.drop j))).length:=by rw[splice_length _ _ _ hf2];exact hf1
 have hown:∀(W:World),Row W g 106 (splice (splice cur (im*2) (flatX (l.drop j))) (i*2) (flatX M))→Own2 W g cap tot R (splice (splice cur (im*2) (flatX (l.drop j))) (i*2) (flatX M)):=fun W h1=>by
  refine⟨h1,by rw[splice_length _ _ _ hf3,splice_length _ _ _ hf2,hsz],by omega,hcap,?_,hRl⟩
  rw[take_splice2r cur (flatX M) (flatX (l.drop j)) (i*2) (im*2) (tot*2) (by rw[hfl];omega) (by rw[hdl];omega) (by rw[hsz];omega),hti,hR,flatX_append,flatX_append]
 obtain⟨ad,had,hsrc⟩:=own2_src hv (by omega)
 injection had with had;subst had
 have HO:=Lib.hid hown
 have HSRC:=Lib.hid hsrc
 have HSRC2:=Lib.hid hsrc2
 have C1:=Lib.hid hc1
 have C4:=Lib.hid hc4
 have F2:=Lib.hid hf2
 have F3:=Lib.hid hf3
 have H:=Lib.hid h
 have hvl:=hv2.row.lt
 have HNE:=Lib.hid hne
 clear hown hsrc hc1 hc4 hf1 hf2 hf3 hfl hdl hR hlM hlen hsz hti hRl hi0 h hv hv2 hr him htot ht3 ht5 ht6 hne
 have c2:∀k v,(flatX (l.drop j))[k]?=some v→w.drew.drew.cell? ((⟨g,j*2,none⟩:Addr).add k)=some v:=fun k v hk=>by
  rw[Addr.add_lit];exact(H.out.row.cell _).trans (HSRC2.out k v hk)
 have C2:=Lib.hid c2
 clear c2 hsrc2
 go_enter Tryz.func115,Tryz.ntmps115
 go_wp2
 go_region
 go_wp2_with (simp only[hov])
 go_region_law (refine step_copy_rows rfl _ _ 107 107 rfl 106 Tryz.underlying107 ext_size (by decide) (some ⟨g,im*2,none⟩) (some ⟨g,j*2,none⟩) (tot-im) (cap-im) r (cap-j) (by simp[Act.eval,Act.put]) (by simp[Act.eval,Act.put]) g (im*2) _ 106 H.out.row (flatX (l.drop j)) C1.out (fun _=>⟨rfl,_,rfl,C2.out⟩) F2.out flatX_one ?_;intro w2 hr2 hf2)
 have c5:∀k v,(flatX M)[k]?=some v→w2.cell? ((⟨gv,0,none⟩:Addr).add k)=some v:=fun k v hk=>by
  have h5:=HSRC.out k v hk
  rw[Addr.add_lit]at h5⊢
  exact(World.cell?_of_block (w:=w.drew.drew) (hf2.out.block gv hvl (fun e=>HNE.out e.symm))).trans h5
 have C5:=Lib.hid c5
 clear c5
 go_wp2_with (with_reducible refine stopAt 135 ?_)
 unfold Hid
 refine wpList_copy_rows rfl _ _ 107 107 rfl 106 Tryz.underlying107 ext_size (by decide) (some ⟨g,i*2,none⟩) (some ⟨gv,0,none⟩) (tot-i) (cap-i) m d rfl rfl g (i*2) _ 106 hr2.out (flatX M) C4.out (fun h0=>⟨rfl,_,rfl,C5.out⟩) F3.out flatX_one ?_
 intro w3 hr3 hf3
 have HOWN:=Lib.hid (HO.out w3 hr3.out)
 have HF:=Lib.hid (((Far.drew (Far.drew (Far.refl (fun b=>b=g) w))).trans hf2.out fun b hb=>.inl hb).trans hf3.out fun b hb=>.inl hb)
 clear hr3 hf3 hr2 hf2
 go_wp2
 go_ret
 exact HOWN.out.got (HF.out.mono fun b hb=>by rw[hb];rfl) (.inl rfl)
theorem replace_grow(w:World){g cap n m d i j:Nat}{l M:List Ex}{cur:List Value}{B:Option Addr}(h:Own2 w g cap n l cur)(hv:w.ownsRow 0 106 2 (.slice B m d) m (flatX M))(hij:i<j)(hj:j<n)(hroom:cap<i+m+(n-j))(hbig:n+m≤4000000):
  Calls Tryz.prog 115 #[.slice (some ⟨g,0,none⟩) n cap,.int .i64 i,.int .i64 j,.slice B m d] w (Got w (.slice (some ⟨g,0,none⟩) n cap) (l.take i++M++l.drop j)):=by
 obtain⟨i0,hi0,hz0,hz,hzb⟩:=ext_info
 obtain⟨R,hR⟩:∃R,R=l.take i++M++l.drop j:=⟨_,rfl⟩
 rw[←hR]
 obtain⟨r,hr⟩:∃t:Nat,t=n-j:=⟨_,rfl⟩
 obtain⟨im,him⟩:∃t:Nat,t=i+m:=⟨_,rfl⟩
 obtain⟨tot,htot⟩:∃t:Nat,t=im+r:=⟨_,rfl⟩
 have hcap:=h.max
 have hnc:=h.le
 have hlen:=h.len
 have hsz:=h.size
 have hlM:M.length=m:=by obtain⟨_,_,_,_,_,h1⟩:=own2_form hv;exact h1
 have hfl:(flatX M).length=m*2:=by rw[flatX_length,hlM]
 have hdl:(flatX (l.drop j)).length=r*2:=by rw[flatX_length,List.length_drop,hlen,hr]
 have hadd1:(i:Int)+(m:Int)=(im:Int):=by omega
 have hadd2:(im:Int)+(r:Int)=(tot:Int):=by omega
 have hw1:IntKind.i64.wrap (im:Int)=(im:Int):=IntWalk.i64_in _ (by omega)
 have hw2:IntKind.i64.wrap (tot:Int)=(tot:Int):=IntWalk.i64_in _ (by omega)
 have hg1:¬((i:Int)=(j:Int)):=by omega
 have hg2:¬((j:Int)=(n:Int)):=by omega
 have hs1:=fun w' k k'=>run_mid (P:=Tryz.prog) w' 107 106 i0 Tryz.underlying107 hi0 hz (some ⟨g,0,none⟩) n cap i j (by omega) (by omega) k k' (i:Int) (j:Int) rfl rfl
 have hs2:=fun w' k=>run_head (P:=Tryz.prog) w' 107 106 i0 Tryz.underlying107 hi0 (some ⟨g,0,none⟩) n cap i (by omega) k (i:Int) rfl
 have hs3:=fun w' k=>run_tail (P:=Tryz.prog) w' 107 106 i0 Tryz.underlying107 hi0 hz (some ⟨g,0,none⟩) n cap j (by omega) k (j:Int) rfl
 have ht3:=tailA_lt (g:=g) (off:=0) (i:=j) (cap:=cap) (sz:=2) (by omega)
 rw[Nat.zero_add]at ht3
 rw[ht3,←hr]at hs3
 have hsrc2:∀k v,(flatX (l.drop j))[k]?=some v→cur[j*2+k]?=some v:=h.src j
 obtain⟨q,hq⟩:∃t:Nat,t=tot-i:=⟨_,rfl⟩
 have hsub:(tot:Int)-(i:Int)=(q:Int):=by omega
 have hw3:IntKind.i64.wrap (q:Int)=(q:Int):=IntWalk.i64_in _ (by omega)
 have hg3:decide ((tot:Int)>(cap:Int))=true:=by simp;omega
 have hg6:decide (cap<tot)=true:=by simp;omega
 have hg7:decide ((cap:Int)<(tot:Int))=true:=by simp;omega
 have hs5:=fun b C w' k=>run_tail (P:=Tryz.prog) w' 107 106 i0 Tryz.underlying107 hi0 hz (some ⟨b,0,none⟩) tot C i (by omega) k (i:Int) rfl
 have hs6:=fun b C w' k=>run_tail (P:=Tryz.prog) w' 107 106 i0 Tryz.underlying107 hi0 hz (some ⟨b,0,none⟩) tot C im (by omega) k (im:Int) rfl
 have hc4:(flatX M).length=Nat.min m (tot-i)*2:=by rw[hfl];simp only[Nat.min_def];split<;>omega
 have hc1:(flatX (l.drop j)).length=Nat.min r (tot-im)*2:=by rw[hdl];simp only[Nat.min_def];split<;>omega
 have hti:cur.take (i*2)=flatX (l.take i):=by rw[flatX_take,←h.cells,List.take_take,Nat.min_eq_left (by omega)]
 have htl:(flatX (l.take i)).length=i*2:=by rw[flatX_length,List.length_take,hlen];omega
 have hRl:R.length=tot:=by rw[hR,List.length_append,List.length_append,List.length_take,List.length_drop,hlen,hlM];omega
 have hc0:∀k v,(flatX (l.take i))[k]?=some v→w.cell? ((⟨g,0,none⟩:Addr).add k)=some v:=fun k v hk=>by
  rw[Addr.add_lit,Nat.zero_add,h.row.cell]
  rw[←hti,List.getElem?_take]at hk
  split at hk
  ·exact hk
  ·cases hk
 have hc2:∀k v,(flatX (l.drop j))[k]?=some v→w.cell? ((⟨g,j*2,none⟩:Addr).add k)=some v:=fun k v hk=>by
  rw[Addr.add_lit];exact(h.row.cell _).trans (hsrc2 k v hk)
 have hc6:∀C (c0:List Value),tot≤C→c0.length=C*2→i*2+(flatX M).length≤c0.length∧im*2+(flatX (l.drop j)).length≤(splice c0 (i*2) (flatX M)).length:=fun C c0 h1 h2=>by
  have h3:i*2+(flatX M).length≤c0.length:=by rw[hfl,h2];omega
  exact⟨h3,by rw[splice_length _ _ _ h3,hdl,h2];omega⟩
 have hc7:∀C (c0:List Value),tot≤C→C≤maxLen→c0.length=C*2→c0.take (i*2)=flatX (l.take i)→∀b (W:World),Row W b 106 (splice (splice c0 (i*2) (flatX M)) (im*2) (flatX (l.drop j)))→Own2 W b C tot R (splice (splice c0 (i*2) (flatX M)) (im*2) (flatX (l.drop j))):=fun C c0 h1 hm h2 h3 b W hrw=>by
  refine⟨hrw,?_,h1,by unfold maxLen at hm;omega,?_,hRl⟩
  ·rw[splice_length _ _ _ (hc6 C c0 h1 h2).2,splice_length _ _ _ (hc6 C c0 h1 h2).1,h2]
  ·rw[take_splice2 c0 (flatX M) (flatX (l.drop j)) (i*2) (im*2) (tot*2) (by rw[hfl];omega) (by rw[hdl];omega) (by rw[h2];omega),h3,hR,flatX_append,flatX_append]
 obtain⟨ad,rfl,hsrc⟩:=own2_src hv (by omega)
 have hadl:ad.block<w.heap.size:=by
  have hml:0<(flatX M).length:=by rw[hfl];omega
  have h1:=hsrc 0 _ (List.getElem?_eq_getElem hml)
  have h2:=block_lt_of_cell h1
  simpa [Addr.add]using h2
 have C0:=Lib.hid hc0
 have C1:=Lib.hid hc1
 have C2:=Lib.hid hc2
 have C4:=Lib.hid hc4
 have C5:=Lib.hid hsrc
 have C6:=Lib.hid hc6
 have C7:=Lib.hid hc7
 have CT:=Lib.hid htl
 have CI:Hid (i<im∧im<tot∧i+q=tot∧0<q∧tot≤4000000∧cap<tot):=by unfold Hid;omega
 have HI0:=Lib.hid hi0
 have hgl:=h.row.lt
 have had:=fun(ad:Addr) k=>show (ad.add k).block=ad.block by unfold Addr.add;split<;>rfl
 have HAD:=Lib.hid had
 clear hc0 hc1 hc2 hc4 hc6 hc7 hti htl hR hRl h hv htot him hlen hsz ht3 hq hsrc hsrc2 hfl hdl hlM hr had
 go_enter Tryz.func115,Tryz.ntmps115
 go_wp2
 go_region
 go_wp2_with (with_reducible refine stopAt 67 ?_)
 unfold Hid
 refine wpList_append_zeros_grow rfl _ _ 107 3 rfl 106 i0 _ .i64 .i64 Tryz.underlying107 Tryz.underlying3 HI0.out hz0 hz (by decide) hzb rfl (some ⟨g,0,none⟩) i cap rfl (flatX (l.take i)) CT.out (fun e=>by cases e) (fun ad e=>by injection e with e;subst e;exact C0.out) q (q:Int) rfl rfl CI.out.2.2.2.1 (by have:=CI.out;omega) (by unfold maxLen;have:=CI.out;omega) (by have:=CI.out;omega) ?_
 rw[CI.out.2.2.1]
 intro w2 C c0 hC1 hC2 hc0 hct hr2 hs2' hb2
 have ht3:=tailA_lt (g:=w.heap.size) (off:=0) (i:=im) (cap:=C) (sz:=2) (by have:=CI.out;omega)
 have ht4:=tailA_lt (g:=w.heap.size) (off:=0) (i:=i) (cap:=C) (sz:=2) (by have:=CI.out;omega)
 rw[Nat.zero_add]at ht3 ht4
 have hs6':=hs6 w.heap.size C
 have hs5':=hs5 w.heap.size C
 rw[ht3]at hs6'
 rw[ht4]at hs5'
 have D0:=Lib.hid (hC1)
 have D1:=Lib.hid hC2
 have D2:=Lib.hid hc0
 have D3:=Lib.hid hct
 have D4:=Lib.hid hr2
 have D6:=Lib.hid (show Below w.heap.size w w2 from ⟨hb2.os,hb2.tape,hb2.output,hb2.size,hb2.block⟩)
 have c5:∀j v,(flatX M)[j]?=some v→w2.cell? (ad.add j)=some v:=fun j v hj=>by
  rw[D6.out.cell (by rw[HAD.out];exact hadl)];exact C5.out j v hj
 have C5':=Lib.hid c5
 have c2:∀k v,(flatX (l.drop j))[k]?=some v→w2.cell? ((⟨g,j*2,none⟩:Addr).add k)=some v:=fun j v hj=>by
  rw[D6.out.cell (by rw[Addr.add_lit];exact hgl)];exact C2.out j v hj
 have C2':=Lib.hid c2
 clear hC1 hC2 hc0 hct hr2 hb2 c5 c2 ht3 ht4 hs6 hs5 hs2'
 go_wp2_with (with_reducible refine stopAt 72 ?_)
 unfold Hid
 refine wpList_copy_rows rfl _ _ 107 107 rfl 106 Tryz.underlying107 ext_size (by decide) (some ⟨w.heap.size,i*2,none⟩) (some ad) (tot-i) (C-i) m d rfl rfl w.heap.size (i*2) _ 106 D4.out (flatX M) C4.out (fun _=>⟨rfl,_,rfl,C5'.out⟩) (C6.out C c0 D0.out D2.out).1 flatX_one ?_
 intro w3 hr3 hf3
 have c2:∀k v,(flatX (l.drop j))[k]?=some v→w3.drew.cell? ((⟨g,j*2,none⟩:Addr).add k)=some v:=fun k v hk=>by
  have h5:=C2'.out k v hk
  rw[Addr.add_lit]at h5⊢
  exact(World.cell?_of_block (hf3.out.block g (by have:=D6.out.size;omega) (by omega))).trans h5
 have C2'':=Lib.hid c2
 clear c2
 go_wp2
 go_region_law (refine step_copy_rows rfl _ _ 107 107 rfl 106 Tryz.underlying107 ext_size (by decide) (some ⟨w.heap.size,im*2,none⟩) (some ⟨g,j*2,none⟩) (tot-im) (C-im) r (cap-j) (by simp[Act.eval,Act.put]) (by simp[Act.eval,Act.put]) w.heap.size (im*2) _ 106 hr3.out (flatX (l.drop j)) C1.out (fun _=>⟨rfl,_,rfl,C2''.out⟩) (C6.out C c0 D0.out D2.out).2 flatX_one ?_;intro w4 hr4 hf4)
 go_wp2
 go_ret
 have own:=C7.out C c0 D0.out D1.out D2.out D3.out _ _ hr4.out
 exact own.got ((Far.of_below D6.out _).trans ((hf3.out.drew).trans hf4.out fun b hb=>.inl hb) fun b hb=>.inr (by omega)) (.inr (Nat.le_refl _))
theorem replace_any(w:World){v u:Value}{n m i j:Nat}{l M:List Ex}(h:w.ownsRow 0 106 2 v n (flatX l))(hv:w.ownsRow 0 106 2 u m (flatX M))(hne:∀k,v.ownBlock=some k→u.ownBlock≠some k)(hij:i≤j)(hj:j≤n)(hm:i=j→0<m)(hbig:n+m≤4000000):
  Calls Tryz.prog 115 #[v,.int .i64 i,.int .i64 j,u] w (Got w v (l.take i++M++l.drop j)):=by
 by_cases e:i=j
 ·subst e
  exact replace_none w h hv hne hj (hm rfl) hbig
 have hl:l.length=n:=by obtain⟨_,_,_,_,_,h1⟩:=own2_form h;exact h1
 rcases own2_of h with⟨_,h0,_⟩|⟨g,cap,cur,rfl,h1⟩
 ·omega
 obtain⟨B,d,rfl,hmd,hdm,hlM⟩:=own2_form hv
 by_cases e2:j=n
 ·subst e2
  rw[List.drop_of_length_le (by omega),List.append_nil]
  rcases Nat.lt_or_ge cap (i+m)with h3|h3
  ·exact replace_end_grow w h1 hv (by omega) h3 hbig
  ·exact replace_end_room w h1 hv (by omega) h3
 ·rcases Nat.lt_or_ge cap (i+m+(n-j))with h3|h3
  ·exact replace_grow w h1 hv (by omega) (by omega) h3 hbig
  ·rcases Nat.lt_or_ge j (i+m)with h4|h4
   ·rcases own2_of hv with⟨_,h0,_⟩|⟨gv,cv,curv,e3,h2⟩
    ·omega
    ·injection e3 with e3 e4 e5
     subst e3 e5
     exact replace_wide w h1 h2 (fun e=>hne g rfl (by rw[e];rfl)) (by omega) (by omega) h4 h3 hbig
   ·exact replace_fit w h1 hv (by omega) (by omega) h4 hbig
def spCells(s:Sp)(v:Value):List Value:=[.int .i64 s.first,.int .i64 s.blocks,v]
def Spc(w:World)(G:Nat→Prop)(p:Nat)(s:Sp):Prop:=
 s.ok∧∃v,Row w p 109 (spCells s v)∧w.ownsRow 0 106 2 v s.fr.length (flatX s.fr)∧∀k,G k↔k=p∨v.ownBlock=some k
theorem own2_row{w:World}{v:Value}{n:Nat}{l:List Ex}(h:w.ownsRow 0 106 2 v n (flatX l)){k:Nat}(hk:v.ownBlock=some k):∃cs,Row w k 106 cs:=by
 rcases own2_of h with⟨rfl,_⟩|⟨g,cap,cur,rfl,h1⟩
 ·cases hk
 ·injection hk with hk;subst hk;exact⟨_,h1.row⟩
theorem own2_far{w w':World}{F:Nat→Prop}{v:Value}{n:Nat}{l:List Ex}(h:w.ownsRow 0 106 2 v n (flatX l))(hf:Far F w w')(hn:∀k,v.ownBlock=some k→¬F k):w'.ownsRow 0 106 2 v n (flatX l):=by
 obtain⟨h1,h2⟩:=h
 refine⟨h1,?_⟩
 rcases h2 with h2|⟨g,cap,cur,rfl,hg,hh,r⟩
 ·exact .inl h2
 ·exact .inr ⟨g,cap,cur,rfl,hg,hf.row (g:=g) (cs:=cur.toList) (by unfold Row;simpa using hh) (hn g rfl),r⟩
theorem own2_below{w w':World}{v:Value}{n:Nat}{l:List Ex}(h:w.ownsRow 0 106 2 v n (flatX l))(hb:Below w.heap.size w w'):w'.ownsRow 0 106 2 v n (flatX l):=
 own2_far h (Far.of_below hb fun _=>False) fun _ _ hf=>hf
theorem own2_at{w:World}{A:Option Addr}{n c:Nat}{l:List Ex}(h:w.ownsRow 0 106 2 (.slice A n c) n (flatX l)){i:Nat}(hi:i<n):
  ∃g,A=some ⟨g,0,none⟩∧g<w.heap.size∧w.cell? ⟨g,i*2,none⟩=some (.int .i64 (xAt l i).1)∧w.cell? ⟨g,i*2+1,none⟩=some (.int .i64 (xAt l i).2):=by
 rcases own2_of h with⟨_,h0,_⟩|⟨g,cap,cur,e,h1⟩
 ·omega
 ·injection e with e1 e2 e3
  exact⟨g,e1,h1.row.lt,(h1.at_ hi).1,(h1.at_ hi).2⟩
section
variable {w w' : World} {G : Nat → Prop} {p : Nat} {s : Sp}
theorem Spc.lt(h:Spc w G p s){k:Nat}(hk:G k):k<w.heap.size:=by
 obtain⟨_,v,hr,ho,hG⟩:=h
 rcases(hG k).1 hk with rfl|hk
 ·exact hr.lt
 ·exact(ho.lt k hk).2
theorem Spc.mine(h:Spc w G p s):G p:=by obtain⟨_,v,hr,ho,hG⟩:=h;exact(hG p).2 (.inl rfl)
theorem Spc.far{F:Nat→Prop}(h:Spc w G p s)(hf:Far F w w')(hn:∀k,G k→¬F k):Spc w' G p s:=by
 obtain⟨h0,v,hr,ho,hG⟩:=h
 exact⟨h0,v,hf.row hr (hn p ((hG p).2 (.inl rfl))),own2_far ho hf fun k hk=>hn k ((hG k).2 (.inr hk)),hG⟩
theorem Spc.below(h:Spc w G p s)(hb:Below w.heap.size w w'):Spc w' G p s:=h.far (Far.of_below hb fun _=>False) fun _ _ hf=>hf
theorem Spc.types(h:Spc w G p s){k:Nat}{t:TypeId}{cs:List Value}(hr:Row w k t cs)(h1:t≠109)(h2:t≠106):¬G k:=by
 obtain⟨_,v,hrp,ho,hG⟩:=h
 have typed:∀{g:Nat} {a b:TypeId} {xs ys:List Value},Row w g a xs→Row w g b ys→a=b:=fun {g a b xs ys} h k=>by
  unfold Row at h k;rw[h]at k;injection k with k;injection k
 intro hk
 rcases(hG k).1 hk with rfl|hk
 ·exact h1 (typed hr hrp)
 ·obtain⟨ds,hd⟩:=own2_row ho hk
  exact h2 (typed hr hd)
end
theorem end_any(f n:Nat)(w:World)(h:f+n≤4000000):Calls Tryz.prog 101 #[.agg #[.int .i64 f,.int .i64 n]] w fun e w'=>e=.returned (.int .i64 ((f+n:Nat):Int))∧Below w.heap.size w w':=by
 obtain⟨u,hu⟩:∃u,f+n=u:=⟨_,rfl⟩
 rw[hu]
 have hadd:(f:Int)+(n:Int)=(u:Int):=by omega
 have hw:IntKind.i64.wrap (u:Int)=(u:Int):=IntWalk.i64_in _ (by omega)
 have HB:=Lib.hid ((Below.refl w.heap.size w).alloc (Nat.le_refl _) (.cells #[.int .i64 f,.int .i64 n] 106))
 go_enter Tryz.func101,Tryz.ntmps101
 go_wp2
 go_ret
 exact⟨rfl,HB.out⟩
theorem holds_any(a b:Nat)(f n:Int)(w:World)(h:a+b≤4000000)(hf:I64 f):Calls Tryz.prog 99 #[.agg #[.int .i64 a,.int .i64 b],.int .i64 f,.int .i64 n] w fun e w'=>e=.returned (.bool (decide ((a:Int)≤f)&&decide (n≤((a+b:Nat):Int)-f)))∧Below w.heap.size w w':=by
 have bf:=hf.bounds
 have HB:=Lib.hid ((Below.refl w.heap.size w).alloc (Nat.le_refl _) (.cells #[.int .i64 a,.int .i64 b] 106))
 by_cases h1:(a:Int)≤f
 ·have g1:decide ((a:Int)≤f)=true:=by simpa using h1
  have g2:decide (f≥(a:Int))=true:=by simpa using h1
  have he:=end_any a b (w.alloc (.cells #[.int .i64 a,.int .i64 b] 106)) h
  obtain⟨u,hu⟩:∃u,a+b=u:=⟨_,rfl⟩
  rw[hu]at he⊢
  have hw:IntKind.i64.wrap ((u:Int)-f)=(u:Int)-f:=IntWalk.i64_in _ (by omega)
  have HE:=Lib.hid he
  rw[g1]
  clear he h1
  go_enter Tryz.func99,Tryz.ntmps99
  go_wp2_with fail
  refine HE.out.mono ?_
  rintro e w2 ⟨rfl,hb⟩
  have HB2:=Lib.hid (HB.out.trans (hb.mono (by simp)))
  clear hb
  go_wp2
  go_ret
  exact⟨by simp,HB2.out⟩
 ·have g1:decide ((a:Int)≤f)=false:=by simpa using h1
  have g2:decide (f≥(a:Int))=false:=by simpa using h1
  rw[g1]
  clear h1
  go_enter Tryz.func99,Tryz.ntmps99
  go_wp2
  go_ret
  exact⟨by simp,HB.out⟩
def newSp(f n:Nat):Sp:=⟨f,n,if n=0 then []else [(f,n)]⟩
theorem newSp_ok{f n:Nat}(hf:f≤1000000)(hn:n≤1000000):(newSp f n).ok:=by
 refine⟨hf,hn,?_⟩
 unfold newSp
 by_cases h:n=0
 ·simp[h,Canon]
 ·simp[h,Canon];omega
theorem spnew_any(f n:Nat)(w:World)(hf:f≤1000000)(hn:n≤1000000):Calls Tryz.prog 25 #[.int .i64 f,.int .i64 n] w fun e w'=>∃p G,e=.returned (.pointer (some ⟨p,0,none⟩))∧Spc w' G p (newSp f n)∧(∀k,G k→w.heap.size≤k)∧Below w.heap.size w w':=by
 have g1:decide ((f:Int)<0)=false:=by simp
 have g2:decide ((f:Int)>1000000)=false:=by simp;omega
 have g3:decide ((n:Int)<0)=false:=by simp
 have g4:decide ((n:Int)>1000000)=false:=by simp;omega
 have HOK:=Lib.hid (newSp_ok hf hn)
 by_cases h:n=0
 ·subst h
  have hb:=(Below.refl w.heap.size w).alloc (Nat.le_refl _) (.cells #[.int .i64 f,.int .i64 0,.slice none 0 0] 109)
  have hr:Row (w.alloc (.cells #[.int .i64 f,.int .i64 0,.slice none 0 0] 109)) w.heap.size 109 (spCells (newSp f 0) (.slice none 0 0)):=heap_alloc_new _ _
  have HX:Hid (∃p G,Ending.returned (.pointer (some ⟨w.heap.size,0,none⟩))=Ending.returned (.pointer (some ⟨p,0,none⟩))∧Spc (w.alloc (.cells #[.int .i64 f,.int .i64 0,.slice none 0 0] 109)) G p (newSp f 0)∧(∀k,G k→w.heap.size≤k)∧Below w.heap.size w (w.alloc (.cells #[.int .i64 f,.int .i64 0,.slice none 0 0] 109))):=
   ⟨_,fun k=>k=w.heap.size,rfl,⟨HOK.out,_,hr,World.ownsRow_nil _ _ _ _,fun k=>⟨.inl,fun h=>h.elim id fun e=>by cases e⟩⟩,fun k hk=>by omega,hb⟩
  clear hb hr
  go_enter Tryz.func25,Tryz.ntmps25
  go_wp2
  go_ret
  exact HX.out
 ·have g5:decide ((n:Int)>0)=true:=by simp;omega
  have g6:decide (0<n)=true:=by simp;omega
  have hx:∀W,W=(w.alloc (.cells #[.int .i64 f,.int .i64 n,.slice (some ⟨w.heap.size+1,0,none⟩) 1 1] 109)).alloc (.cells #[.int .i64 f,.int .i64 n] 106)→
    (∃p G,Ending.returned (.pointer (some ⟨w.heap.size,0,none⟩))=Ending.returned (.pointer (some ⟨p,0,none⟩))∧Spc W G p (newSp f n)∧(∀k,G k→w.heap.size≤k)∧Below w.heap.size w W):=by
   rintro W rfl
   have hb:=((Below.refl w.heap.size w).alloc (Nat.le_refl _) (.cells #[.int .i64 f,.int .i64 n,.slice (some ⟨w.heap.size+1,0,none⟩) 1 1] 109)).alloc (by simp) (.cells #[.int .i64 f,.int .i64 n] 106)
   have hr0:Row (w.alloc (.cells #[.int .i64 f,.int .i64 n,.slice (some ⟨w.heap.size+1,0,none⟩) 1 1] 109)) w.heap.size 109 [.int .i64 f,.int .i64 n,.slice (some ⟨w.heap.size+1,0,none⟩) 1 1]:=heap_alloc_new _ _
   have hr:=hr0.alloc (.cells #[.int .i64 f,.int .i64 n] 106)
   have he:Row ((w.alloc (.cells #[.int .i64 f,.int .i64 n,.slice (some ⟨w.heap.size+1,0,none⟩) 1 1] 109)).alloc (.cells #[.int .i64 f,.int .i64 n] 106)) (w.heap.size+1) 106 [.int .i64 f,.int .i64 n]:=by
    have:=heap_alloc_new (w.alloc (.cells #[.int .i64 f,.int .i64 n,.slice (some ⟨w.heap.size+1,0,none⟩) 1 1] 109)) (.cells #[.int .i64 f,.int .i64 n] 106)
    rw[World.size_alloc]at this
    exact this
   have hfr:(newSp f n).fr=[(f,n)]:=by unfold newSp;simp[h]
   refine⟨_,fun k=>k=w.heap.size∨k=w.heap.size+1,rfl,⟨HOK.out,.slice (some ⟨w.heap.size+1,0,none⟩) 1 1,hr,?_,fun k=>?_⟩,fun k hk=>by omega,hb⟩
   ·rw[hfr]
    exact(Own2.own (cap:=1) ⟨he,rfl,Nat.le_refl _,by omega,rfl,rfl⟩)
   ·simp only[Value.ownBlock]
    constructor
    ·rintro(h|h)
     ·exact .inl h
     ·exact .inr (by rw[h])
    ·rintro(h|h)
     ·exact .inl h
     ·injection h with h;exact .inr h.symm
  have HX:=Lib.hid hx
  clear hx h hf hn
  go_enter Tryz.func25,Tryz.ntmps25
  go_wp2
  go_ret
  exact HX.out _ rfl
theorem sumB_take{l:List Ex}{k:Nat}(hk:k<l.length):sumB (l.take (k+1))=sumB (l.take k)+(xAt l k).2:=by
 rw[List.take_add_one,List.getElem?_eq_getElem hk,xAt_eq hk,sumB_append]
 simp[sumB]
theorem sumB_le{l:List Ex}(k:Nat):sumB (l.take k)≤sumB l:=by
 conv=>rhs;rw[←List.take_append_drop k l,sumB_append]
 omega
theorem free_any(p:Nat)(s:Sp)(G:Nat→Prop)(w:World)(h:Spc w G p s):Calls Tryz.prog 38 #[.pointer (some ⟨p,0,none⟩)] w fun e w'=>e=.returned (.int .i64 (sumB s.fr:Nat))∧Below w.heap.size w w':=by
 obtain⟨h0,v,hr,ho,hG⟩:=h
 obtain⟨A,c,rfl,hnc,hcm,_⟩:=own2_form ho
 have c2:w.cell? ⟨p,2,none⟩=some (.slice A s.fr.length c):=hr.cell 2
 have hpl:=hr.lt
 obtain⟨n,hn⟩:∃n,s.fr.length=n:=⟨_,rfl⟩
 have hlen:=h0.len
 have hsum:sumB s.fr≤4000000:=by have:=h0.2.2.sum;have:=h0.2.1;omega
 generalize hl:s.fr=l at*
 have HN:=Lib.hid hn
 rw[hn]at c2 hlen
 have HO:Hid (w.ownsRow 0 106 2 (.slice A n c) n (flatX l)):=by rw[←hn];exact ho
 have HS:=Lib.hid hsum
 have HSUM:Hid (sumB (l.take n)=sumB l):=by unfold Hid;rw[List.take_of_length_le (by omega)]
 clear h0 hr ho hG hn hsum
 go_enter Tryz.func38,Tryz.ntmps38
 go_wp2
 go_loopw [3,13] (fun sv iv wr=>∃k:Nat,k≤n∧iv=.int .i64 k∧sv=.int .i64 (sumB (l.take k):Nat)∧Below w.heap.size w wr) (fun _ iv _=>n-(intOf iv).toNat)
 case atStart=>exact⟨0,by omega,rfl,rfl,Below.refl _ _⟩
 case round=>
  obtain⟨k,hk,rfl,rfl,hbw⟩:=hrel
  have HBW:=Lib.hid hbw
  by_cases hlt:k<n
  ·obtain⟨g,rfl,hg,hc0,hc1⟩:=own2_at (own2_below HO.out hbw) hlt
   obtain⟨a,ha⟩:∃a,(xAt l k).1=a:=⟨_,rfl⟩
   obtain⟨b,hb⟩:∃b,(xAt l k).2=b:=⟨_,rfl⟩
   have hst:=sumB_take (l:=l) (k:=k) (by have:=HN.out;omega)
   have hle:=sumB_le (l:=l) (k+1)
   rw[ha]at hc0
   rw[hb]at hc1 hst
   obtain⟨t,ht⟩:∃t,sumB (l.take k)=t:=⟨_,rfl⟩
   obtain⟨u,hu⟩:∃u,sumB (l.take (k+1))=u:=⟨_,rfl⟩
   rw[ht]
   rw[ht,hu]at hst
   rw[hu]at hle
   have hadd:(t:Int)+(b:Int)=(u:Int):=by omega
   have hw1:IntKind.i64.wrap (u:Int)=(u:Int):=IntWalk.i64_in _ (by have:=HS.out;omega)
   have HU:=Lib.hid hu
   clear hst hle ha hb ht hu hbw
   go_wp2
   have HB2:=Lib.hid (HBW.out.alloc (by have:=HBW.out.size;omega) (.cells #[.int .i64 a,.int .i64 b] 106))
   go_roundw
   case rel=>exact⟨k+1,by omega,by go_num,by rw[HU.out],HB2.out⟩
   case measure=>simp[intOf];omega
  ·obtain rfl:k=n:=by omega
   rw[HSUM.out]
   clear hbw
   go_wp2
   go_ret
   exact⟨rfl,HBW.out⟩
theorem clone_any{v:Value}{n:Nat}{l:List Ex}(w:World)(h:w.ownsRow 0 106 2 v n (flatX l))(hn:n≤4000000):Calls Tryz.prog 97 #[v] w fun e w'=>∃v',e=.returned v'∧w'.ownsRow w.heap.size 106 2 v' n (flatX l)∧Below w.heap.size w w':=by
 rcases own2_of h with⟨rfl,rfl,rfl⟩|⟨g,cap,cur,rfl,h1⟩
 ·have heq:=Lib.run_eql_slice_nil (P:=Tryz.prog) w 107 106 none 0 0 0 0 Tryz.underlying107
  clear h
  go_enter Tryz.func97,Tryz.ntmps97
  go_wp2
  go_ret
  exact⟨_,rfl,World.ownsRow_nil _ _ _ _,Below.refl _ _⟩
 ·obtain⟨i0,hi0,hz0,hz,hzb⟩:=ext_info
  have heq:=Lib.run_eql_slice_nil (P:=Tryz.prog) w 107 106 (some ⟨g,0,none⟩) n cap 0 0 Tryz.underlying107
  have hfl:(flatX l).length=n*2:=by rw[flatX_length,h1.len]
  have hsrc:∀j v,(flatX l)[j]?=some v→(w.alloc (.cells #[] 106)).cell? ((⟨g,0,none⟩:Addr).add j)=some v:=fun j v hj=>by
   rw[Addr.add_lit,Nat.zero_add,(h1.row.alloc _).cell]
   have:=h1.src 0 j v (by simpa using hj);simpa using this
  have HS:=Lib.hid hsrc
  have HFL:=Lib.hid hfl
  have HI0:=Lib.hid hi0
  have hcap:=h1.max
  clear h h1 hsrc hfl hi0
  go_enter Tryz.func97,Tryz.ntmps97
  go_wp2_with (with_reducible refine stopAt 7 ?_)
  unfold Hid
  refine wpList_append_own_at _ rfl _ _ 107 rfl w.heap.size 106 i0 _ 2 16 Tryz.underlying107 HI0.out hz0 hz hzb rfl (by decide) _ 0 [] rfl (World.ownsRow_made w #[] 0 (Nat.le_refl _) (by decide) rfl) ⟨g,0,none⟩ n cap (flatX l) rfl HFL.out HS.out flatX_one (by unfold maxLen;omega) (by omega) (by simp) ?_
  intro v' w' ho hgr _ _
  rw[Nat.zero_add,List.nil_append]at ho
  have HO:=Lib.hid ho
  have HB:Hid (Below w.heap.size w w'):=((Below.refl w.heap.size w).alloc (Nat.le_refl _) (.cells #[] 106)).grown hgr (by simp) fun k hk=>by injection hk with hk;subst hk;exact Nat.le_refl _
  obtain⟨A',c',rfl⟩:∃A' c',v'=.slice A' n c':=by
   rcases ho.2 with⟨rfl,rfl⟩|⟨g',cap',cur',rfl,_⟩
   ·exact⟨_,_,rfl⟩
   ·exact⟨_,_,rfl⟩
  clear ho hgr
  go_wp2
  go_ret
  exact⟨_,rfl,HO.out,HB.out⟩
theorem extents_any(p:Nat)(s:Sp)(G:Nat→Prop)(w:World)(h:Spc w G p s):Calls Tryz.prog 84 #[.pointer (some ⟨p,0,none⟩)] w fun e w'=>∃v',e=.returned v'∧w'.ownsRow w.heap.size 106 2 v' s.fr.length (flatX s.fr)∧Below w.heap.size w w':=by
 obtain⟨h0,v,hr,ho,hG⟩:=h
 have c2:w.cell? ⟨p,2,none⟩=some v:=hr.cell 2
 have hlen:=h0.len
 have hcl:=clone_any w ho (by omega)
 have HC:=Lib.hid hcl
 obtain⟨A,c,rfl,_,_,_⟩:=own2_form ho
 generalize s.fr.length=n at*
 clear h0 hr ho hG hcl
 go_enter Tryz.func84,Tryz.ntmps84
 go_wp2_with fail
 refine HC.out.mono ?_
 rintro e w2 ⟨v',rfl,ho,hb⟩
 have HO:=Lib.hid ho
 have HB:=Lib.hid hb
 obtain⟨A',c',rfl⟩:∃A' c',v'=.slice A' n c':=by
  rcases ho.2 with⟨rfl,rfl⟩|⟨g',cap',cur',rfl,_⟩
  ·exact⟨_,_,rfl⟩
  ·exact⟨_,_,rfl⟩
 clear ho hb
 go_wp2
 go_ret
 exact⟨_,rfl,HO.out,HB.out⟩
theorem nclos_any(b1 b2 p n c i:Nat)(A:Option Addr)(l:List Ex)(at_:Int)(W:World)(h1:W.cell? ⟨b1,0,none⟩=some (.pointer (some ⟨p,0,none⟩)))(h2:W.cell? ⟨b2,0,none⟩=some (.int .i64 at_))(h3:W.cell? ⟨p,2,none⟩=some (.slice A n c))
  (ho:W.ownsRow 0 106 2 (.slice A n c) n (flatX l)) (hi:i<n) (hs:(xAt l i).1+(xAt l i).2≤4000000):
  Calls Tryz.prog 114 #[.int .i64 i,.pointer (some ⟨b1,0,none⟩),.pointer (some ⟨b2,0,none⟩)] W fun e w'=>e=.returned (.bool (decide (at_<((xAt l i).1+(xAt l i).2:Nat))))∧Below W.heap.size W w':=by
 obtain⟨g,rfl,hg,hc0,hc1⟩:=own2_at ho hi
 generalize(xAt l i).1=a at*
 generalize(xAt l i).2=b at*
 have l1:=block_lt_of_cell h1
 have l2:=block_lt_of_cell h2
 have l3:=block_lt_of_cell h3
 obtain⟨u,hu⟩:∃u,a+b=u:=⟨_,rfl⟩
 have HE:Hid (∀w,Calls Tryz.prog 101 #[.agg #[.int .i64 a,.int .i64 b]] w fun e w'=>e=.returned (.int .i64 (u:Nat))∧Below w.heap.size w w'):=fun w=>by have:=end_any a b w hs;rwa [hu]at this
 rw[hu]
 have i0:(0:Int)≤(i:Int):=by omega
 have i1:(i:Int)<(n:Int):=by omega
 clear hu hs ho
 go_enter Tryz.func114,Tryz.ntmps114
 go_wp2
 go_region_held3 (fun w'=>w'.cell? ⟨b1,0,none⟩=some (.pointer (some ⟨p,0,none⟩))∧w'.cell? ⟨b2,0,none⟩=some (.int .i64 at_)∧w'.cell? ⟨p,2,none⟩=some (.slice (some ⟨g,0,none⟩) n c)∧w'.cell? ⟨g,i*2,none⟩=some (.int .i64 a)∧w'.cell? ⟨g,i*2+1,none⟩=some (.int .i64 b))
  (first|go_keep|(go_split_ands;refine⟨?_,?_,?_,?_,?_⟩<;>(first|assumption|(rw[hb3.cell (by first|(simp;done)|(simp;omega))];assumption)))) ((go_at_call 101;refine(HE.out _).mono ?_;rintro e w2 ⟨rfl,hb3⟩))
 have HB:Hid (Below W.heap.size W w2):=(below_drewN (Below.refl W.heap.size W) 1).trans hb3
 clear hb3
 go_wp2
 go_ret
 refine⟨?_,HB.out⟩
 first|rfl|(simp only[gt_iff_lt])
theorem tclos_any(b1:Nat)(a b:Nat)(n:Int)(W:World)(h1:W.cell? ⟨b1,0,none⟩=some (.int .i64 n)):
  Calls Tryz.prog 104 #[.agg #[.int .i64 a,.int .i64 b],.pointer (some ⟨b1,0,none⟩)] W fun e w'=>e=.returned (.bool (decide (n≤(b:Int))))∧Below W.heap.size W w':=by
 have l1:=block_lt_of_cell h1
 have h2:(W.alloc (.cells #[.int .i64 a,.int .i64 b] 106)).cell? ⟨b1,0,none⟩=some (.int .i64 n):=Lib.cell?_alloc_some _ h1
 have HB:=Lib.hid ((Below.refl W.heap.size W).alloc (Nat.le_refl _) (.cells #[.int .i64 a,.int .i64 b] 106))
 go_enter Tryz.func104,Tryz.ntmps104
 go_wp2
 go_ret
 refine⟨?_,HB.out⟩
 first|rfl|(simp only[ge_iff_le])
theorem search_any(n:Nat)(q:Nat→Bool)(fs:Array Value)(w:World)(hn:n≤2000000)(hmono:∀i j,i≤j→j<n→q i=true→q j=true)
  (hp:∀W k,k<n→Below w.heap.size w W→Calls Tryz.prog 114 (#[.int .i64 (k:Nat)]++fs) W fun e w'=>e=.returned (.bool (q k))∧Below w.heap.size w w'):
  Calls Tryz.prog 113 #[.int .i64 n,.func (.func 114) #[] fs] w fun e w'=>∃i:Nat,e=.returned (.int .i64 i)∧i≤n∧(∀k,k<i→q k=false)∧(i<n→q i=true)∧Below w.heap.size w w':=by
 have HP:=Lib.hid hp
 have HM:=Lib.hid hmono
 clear hp hmono
 go_enter Tryz.func113,Tryz.ntmps113
 go_wp2
 go_loopw [5,6] (fun iv jv wr=>∃i j:Nat,i≤j∧j≤n∧iv=.int .i64 i∧jv=.int .i64 j∧Below w.heap.size w wr∧Hid (∀k,k<i→q k=false)∧Hid (j<n→q j=true)) (fun iv jv _=>(intOf jv).toNat-(intOf iv).toNat)
 case atStart=>exact⟨0,n,by omega,Nat.le_refl _,rfl,rfl,Below.refl _ _,fun k hk=>absurd hk (by omega),fun h=>absurd h (by omega)⟩
 case round=>
  obtain⟨i,j,hij,hj,rfl,rfl,hbw,HI,HJ⟩:=hrel
  have HBW:=Lib.hid hbw
  by_cases hlt:i<j
  ·obtain⟨ij,hsum⟩:∃ij:Nat,ij=i+j:=⟨_,rfl⟩
   obtain⟨h,hh⟩:∃h:Nat,h=ij/2:=⟨_,rfl⟩
   have hhi:i≤h:=by omega
   have hhj:h<j:=by omega
   have hadd:(i:Int)+(j:Int)=(ij:Int):=by omega
   have hw1:IntKind.i64.wrap (ij:Int)=(ij:Int):=IntWalk.i64_in _ (by omega)
   have hdiv:(ij:Int)/2=(h:Int):=by omega
   clear hbw hsum hh
   go_wp2_with fail
   refine(HP.out wr h (by omega) HBW.out).mono ?_
   rintro e w2 ⟨rfl,hb2⟩
   have HB2:=Lib.hid hb2
   clear hb2
   cases hq:q h with
   |true=>
    have HQ:Hid (∀k,k<h→k<i→q k=false):=fun k _ hk=>HI.out k hk
    have HQ2:Hid (h<n→q h=true):=fun _=>hq
    clear hq
    go_wp2
    go_roundw
    case rel=>exact⟨i,h,hhi,by omega,rfl,rfl,HB2.out,HI.out,HQ2.out⟩
    case measure=>simp[intOf];omega
   |false=>
    have HQ:Hid (∀k,k<h+1→q k=false):=fun k hk=>by
     rcases Nat.lt_or_ge k h with h1|h1
     ·cases hk2:q k with
      |false=>rfl
      |true=>have:=HM.out k h (by omega) (by omega) hk2;rw[hq]at this;cases this
     ·obtain rfl:k=h:=by omega
      exact hq
    clear hq
    go_wp2
    go_roundw
    case rel=>exact⟨h+1,j,by omega,hj,by go_num,rfl,HB2.out,HQ.out,HJ.out⟩
    case measure=>simp[intOf];omega
  ·obtain rfl:i=j:=by omega
   clear hbw
   go_wp2
   go_ret
   exact⟨i,rfl,hj,HI.out,HJ.out,HBW.out⟩
def nextZ(l:List Ex)(a:Int):Nat:=l.findIdx fun x=>decide (a<((x.1+x.2:Nat):Int))
theorem nextZ_nat(l:List Ex)(a:Nat):nextZ l (a:Int)=nextI l a:=by
 unfold nextZ nextI
 congr 1;funext x
 rw[Bool.eq_iff_iff];simp only[decide_eq_true_eq];omega
theorem spnext_any(p:Nat)(s:Sp)(G:Nat→Prop)(a:Int)(w:World)(h:Spc w G p s):Calls Tryz.prog 98 #[.pointer (some ⟨p,0,none⟩),.int .i64 a] w fun e w'=>e=.returned (.int .i64 (nextZ s.fr a:Nat))∧Below w.heap.size w w':=by
 obtain⟨h0,v,hr,ho,hG⟩:=h
 obtain⟨A,c,rfl,hnc,hcm,_⟩:=own2_form ho
 have hlen:=h0.len
 have hcan:=h0.2.2
 have hhi:s.first+s.blocks≤4000000:=by have:=h0.1;have:=h0.2.1;omega
 generalize s.first+s.blocks=hi at*
 generalize s.first=lo at*
 generalize hl:s.fr=l at*
 obtain⟨n,hn⟩:∃n,l.length=n:=⟨_,rfl⟩
 rw[hn]at ho hlen hnc
 have hB:=((Below.refl w.heap.size w).alloc (Nat.le_refl _) (.cells #[.pointer (some ⟨p,0,none⟩)] 63)).alloc (by simp) (.cells #[.int .i64 a] 3)
 have k1:((w.alloc (.cells #[.pointer (some ⟨p,0,none⟩)] 63)).alloc (.cells #[.int .i64 a] 3)).cell? ⟨w.heap.size,0,none⟩=some (.pointer (some ⟨p,0,none⟩)):=by
  have h1:Row (w.alloc (.cells #[.pointer (some ⟨p,0,none⟩)] 63)) w.heap.size 63 [.pointer (some ⟨p,0,none⟩)]:=heap_alloc_new _ _
  exact(h1.alloc _).cell 0
 have k2:((w.alloc (.cells #[.pointer (some ⟨p,0,none⟩)] 63)).alloc (.cells #[.int .i64 a] 3)).cell? ⟨w.heap.size+1,0,none⟩=some (.int .i64 a):=by
  have h1:Row ((w.alloc (.cells #[.pointer (some ⟨p,0,none⟩)] 63)).alloc (.cells #[.int .i64 a] 3)) (w.heap.size+1) 3 [.int .i64 a]:=by
   have:=heap_alloc_new (w.alloc (.cells #[.pointer (some ⟨p,0,none⟩)] 63)) (.cells #[.int .i64 a] 3)
   rw[World.size_alloc]at this
   exact this
  exact h1.cell 0
 have k3:((w.alloc (.cells #[.pointer (some ⟨p,0,none⟩)] 63)).alloc (.cells #[.int .i64 a] 3)).cell? ⟨p,2,none⟩=some (.slice A n c):=((hr.alloc _).alloc _).cell 2|>.trans (by rw[←hn,←hl];rfl)
 have k4:=own2_below ho hB
 generalize hW:(w.alloc (.cells #[.pointer (some ⟨p,0,none⟩)] 63)).alloc (.cells #[.int .i64 a] 3)=W at*
 have hq:∀W' k,k<n→Below W.heap.size W W'→Calls Tryz.prog 114 (#[.int .i64 (k:Nat)]++#[.pointer (some ⟨w.heap.size,0,none⟩),.pointer (some ⟨w.heap.size+1,0,none⟩)]) W' fun e w'=>e=.returned (.bool (decide (a<((xAt l k).1+(xAt l k).2:Nat))))∧Below W.heap.size W w':=fun W' k hk hb=>by
  refine(nclos_any w.heap.size (w.heap.size+1) p n c k A l a W' ?_ ?_ ?_ (own2_below k4 hb) hk ?_).mono fun e w' h=>⟨h.1,hb.trans (h.2.mono hb.size)⟩
  ·exact(hb.cell (block_lt_of_cell k1)).trans k1
  ·exact(hb.cell (block_lt_of_cell k2)).trans k2
  ·exact(hb.cell (block_lt_of_cell k3)).trans k3
  ·have:=hcan.getD (show k<l.length by omega);omega
 have hsea:=search_any n (fun k=>decide (a<((xAt l k).1+(xAt l k).2:Nat))) #[.pointer (some ⟨w.heap.size,0,none⟩),.pointer (some ⟨w.heap.size+1,0,none⟩)] W (by omega) (fun i j hij hj hi1=>by
   simp only[decide_eq_true_eq]at hi1⊢
   rcases Nat.lt_or_ge i j with h1|h1
   ·have:=hcan.ends h1 (by omega);omega
   ·obtain rfl:i=j:=by omega
    exact hi1) hq
 have hres:Calls Tryz.prog 113 #[.int .i64 n,.func (.func 114) #[] #[.pointer (some ⟨w.heap.size,0,none⟩),.pointer (some ⟨w.heap.size+1,0,none⟩)]] W fun e w'=>e=.returned (.int .i64 (nextZ l a:Nat))∧Below w.heap.size w w':=hsea.mono fun e w' h=>by
  obtain⟨i,rfl,h1,h2,h3,h4⟩:=h
  have:nextZ l a=i:=findIdx_unique (by omega) h2 (fun h=>h3 (by omega))
  rw[this]
  exact⟨rfl,hB.trans (h4.mono hB.size)⟩
 have HR:=Lib.hid hres
 have K1:=Lib.hid k1
 generalize nextZ l a=z at*
 subst hW
 clear hres hsea hq hcan h0 hr ho k4 hB hn k1 hl hG
 go_enter Tryz.func98,Tryz.ntmps98
 go_wp2_with fail
 refine HR.out.mono ?_
 rintro e w2 ⟨rfl,hb⟩
 have HB:=Lib.hid hb
 clear hb
 go_wp2
 go_ret
 exact⟨rfl,HB.out⟩
theorem indexf_any(b1:Nat)(m:Int)(A:Option Addr)(n c:Nat)(l:List Ex)(w:World)(h1:w.cell? ⟨b1,0,none⟩=some (.int .i64 m))(ho:w.ownsRow 0 106 2 (.slice A n c) n (flatX l))(hl:l.length=n)(hn:n≤2000000):
  Calls Tryz.prog 103 #[.slice A n c,.func (.func 104) #[] #[.pointer (some ⟨b1,0,none⟩)]] w fun e w'=>
   (∃i:Nat,i<n∧(∀k,k<i→decide (m≤((xAt l k).2:Int))=false)∧decide (m≤((xAt l i).2:Int))=true∧e=.returned (.int .i64 i)∧Below w.heap.size w w')∨((∀k,k<n→decide (m≤((xAt l k).2:Int))=false)∧e=.returned (.int .i64 (-1))∧Below w.heap.size w w'):=by
 have HO:=Lib.hid ho
 have H1:=Lib.hid h1
 have hb1:=block_lt_of_cell h1
 clear ho h1
 go_enter Tryz.func103,Tryz.ntmps103
 go_wp2
 go_loopw [5,8] (fun _ iv wr=>∃k:Nat,k≤n∧iv=.int .i64 k∧Below w.heap.size w wr∧Hid (∀j,j<k→decide (m≤((xAt l j).2:Int))=false)) (fun _ iv _=>n-(intOf iv).toNat)
 case atStart=>exact⟨0,by omega,rfl,Below.refl _ _,fun j hj=>absurd hj (by omega)⟩
 case round=>
  obtain⟨k,hk,rfl,hbw,HK⟩:=hrel
  have HBW:=Lib.hid hbw
  by_cases hlt:k<n
  ·obtain⟨g,rfl,hg,hc0,hc1⟩:=own2_at (own2_below HO.out hbw) hlt
   have hclo:=tclos_any b1 (xAt l k).1 (xAt l k).2 m wr ((hbw.cell hb1).trans H1.out)
   have HX:Hid (xAt l k=((xAt l k).1,(xAt l k).2)):=rfl
   generalize(xAt l k).1=a at*
   cases hq:decide (m≤((xAt l k).2:Int))with
   |true=>
    rw[hq]at hclo
    have HC:=Lib.hid hclo
    have HQ:=Lib.hid hq
    generalize(xAt l k).2=b at hc1 HC
    clear hbw hclo hq
    go_wp2_with fail
    refine HC.out.mono ?_
    rintro e w2 ⟨rfl,hb2⟩
    have HB2:=Lib.hid (HBW.out.trans (hb2.mono HBW.out.size))
    clear hb2
    go_wp2
    go_ret
    exact .inl ⟨k,hlt,HK.out,HQ.out,rfl,HB2.out⟩
   |false=>
    rw[hq]at hclo
    have HC:=Lib.hid hclo
    have HQ:Hid (∀j,j<k+1→decide (m≤((xAt l j).2:Int))=false):=fun j hj=>by
     rcases Nat.lt_or_ge j k with h1|h1
     ·exact HK.out j h1
     ·obtain rfl:j=k:=by omega
      exact hq
    generalize(xAt l k).2=b at hc1 HC
    clear hbw hclo hq
    go_wp2_with fail
    refine HC.out.mono ?_
    rintro e w2 ⟨rfl,hb2⟩
    have HB2:=Lib.hid (HBW.out.trans (hb2.mono HBW.out.size))
    clear hb2
    go_wp2
    go_roundw
    case rel=>exact⟨k+1,by omega,by go_num,HB2.out,HQ.out⟩
    case measure=>simp[intOf];omega
  ·obtain rfl:k=n:=by omega
   clear hbw
   go_wp2
   go_ret
   exact .inr ⟨HK.out,rfl,HBW.out⟩
theorem own2_base{w:World}{B B':Nat}{v:Value}{n:Nat}{xs:List Value}(h:w.ownsRow B 106 2 v n xs)(hb:B'≤B):w.ownsRow B' 106 2 v n xs:=by
 obtain⟨h1,h2⟩:=h
 refine⟨h1,?_⟩
 rcases h2 with h2|⟨g,cap,cur,rfl,hg,r⟩
 ·exact .inl h2
 ·exact .inr ⟨g,cap,cur,rfl,by omega,r⟩
def SpV(w:World)(G:Nat→Prop)(p:Nat)(s:Sp)(v:Value):Prop:=
 s.ok∧Row w p 109 (spCells s v)∧w.ownsRow 0 106 2 v s.fr.length (flatX s.fr)∧∀k,G k↔k=p∨v.ownBlock=some k
theorem SpV.apart{w:World}{G:Nat→Prop}{p:Nat}{s:Sp}{v:Value}(h:SpV w G p s v):v.ownBlock≠some p:=by
 intro e
 obtain⟨cs,hc⟩:=own2_row h.2.2.1 e
 have hr:=h.2.1
 unfold Row at hr hc;rw[hr]at hc;injection hc with hc;injection hc with _ hc;exact absurd hc (by decide)
theorem spc_stays{w w5 w6:World}{G:Nat→Prop}{p:Nat}{s:Sp}{v:Value}{R:List Ex}{e:Ending}(h:SpV w G p s v)(hb:Below w.heap.size w w5)(hg:Got w5 v R e w6):Row w6 p 109 (spCells s v):=by
 obtain⟨v',_,_,hf,_⟩:=hg
 exact hf.row (h.2.1.below hb h.2.1.lt) h.apart
theorem spc_put{w w5 w6:World}{G:Nat→Prop}{p:Nat}{s:Sp}{v v':Value}{R:List Ex}(h:SpV w G p s v)(hb:Below w.heap.size w w5)(hg:Got w5 v R (.returned v') w6)(hok:({s with fr:=R}:Sp).ok):
  ∃G',Spc (w6.setCell ⟨p,2,none⟩ v') G' p {s with fr:=R}∧Far G w (w6.setCell ⟨p,2,none⟩ v')∧∀k,G' k→G k∨w.heap.size≤k:=by
 have hr6:=spc_stays h hb hg
 obtain⟨v2,e,ho,hf,hk⟩:=hg
 injection e with e;subst e
 have hne:v'.ownBlock≠some p:=by
  intro e
  obtain⟨cs,hc⟩:=own2_row ho e
  unfold Row at hr6 hc;rw[hr6]at hc;injection hc with hc;injection hc with _ hc;exact absurd hc (by decide)
 have hset:Far (fun k=>k=p) w6 (w6.setCell ⟨p,2,none⟩ v'):=(Far.refl (fun k=>k=p) w6).set (p:=⟨p,2,none⟩) (.inl rfl) v'
 refine⟨fun k=>k=p∨v'.ownBlock=some k,⟨hok,v',hr6.set 2 v',own2_far ho hset fun k hk' e=>hne (by rw[hk',e]),fun k=>Iff.rfl⟩,?_,fun k hk'=>?_⟩
 ·refine((Far.of_below hb G).trans hf fun k hk'=>.inl ((h.2.2.2 k).2 (.inr hk'))).trans hset fun k hk'=>.inl ((h.2.2.2 k).2 (.inl hk'))
 ·rcases hk' with rfl|hk'
  ·exact .inl ((h.2.2.2 k).2 (.inl rfl))
  ·rcases hk k hk' with h1|h1
   ·exact .inl ((h.2.2.2 k).2 (.inr h1))
   ·exact .inr (Nat.le_trans hb.size h1)
theorem box4{w w':World}{x y a b:Value}(h:Below (w.heap.size+2) ((w.alloc (.cells #[x,y] 106)).alloc (.cells #[a,b] 106)) w'):
  w'.cell? ⟨w.heap.size,0,none⟩=some x∧w'.cell? ⟨w.heap.size,1,none⟩=some y∧w'.cell? ⟨w.heap.size+1,0,none⟩=some a∧w'.cell? ⟨w.heap.size+1,1,none⟩=some b:=by
 have r1:Row (w.alloc (.cells #[x,y] 106)) w.heap.size 106 [x,y]:=heap_alloc_new _ _
 have r2:Row ((w.alloc (.cells #[x,y] 106)).alloc (.cells #[a,b] 106)) (w.heap.size+1) 106 [a,b]:=by
  have:=heap_alloc_new (w.alloc (.cells #[x,y] 106)) (.cells #[a,b] 106)
  rw[World.size_alloc]at this
  exact this
 have r1':=(r1.alloc (.cells #[a,b] 106)).below h (by omega)
 have r2':=r2.below h (by omega)
 exact⟨r1'.cell 0,r1'.cell 1,r2'.cell 0,r2'.cell 1⟩
theorem newsX{w:World}{t:TypeId}{a b k:Nat}(hk:w.heap.size=k):∀j v,(flatX [(a,b)])[j]?=some v→(w.alloc (.cells #[.int .i64 a,.int .i64 b] t)).cell? ((⟨k,0,none⟩:Addr).add j)=some v:=by
 subst hk
 intro j v hj
 have r1:Row (w.alloc (.cells #[.int .i64 a,.int .i64 b] t)) w.heap.size t [.int .i64 a,.int .i64 b]:=heap_alloc_new _ _
 rw[Addr.add_lit,Nat.zero_add,r1.cell];exact hj
theorem own2_keep{w w':World}{B:Nat}{v:Value}{n:Nat}{xs:List Value}(h:w.ownsRow B 106 2 v n xs)(hb:Below w.heap.size w w'):w'.ownsRow B 106 2 v n xs:=by
 obtain⟨h1,h2⟩:=h
 refine⟨h1,?_⟩
 rcases h2 with h2|⟨g,cap,cur,rfl,hg,hh,r⟩
 ·exact .inl h2
 ·exact .inr ⟨g,cap,cur,rfl,hg,(hb.block g (Array.getElem?_eq_some_iff.1 hh).1).trans hh,r⟩
section
variable {w w1 w2 : World} {x y a b u : Value} {m : Nat} {l : List Value}
abbrev S6 (w:World) (x y a b u:Value) (m:Nat) (l:List Value) (w1:World):Prop:=
 Below (w.heap.size+2) ((w.alloc (.cells #[x,y] 106)).alloc (.cells #[a,b] 106)) w1∧w1.ownsRow (w.heap.size+2) 106 2 u m l∧w.heap.size+2≤w1.heap.size∧w1.cell? ⟨w.heap.size,0,none⟩=some x∧w1.cell? ⟨w.heap.size,1,none⟩=some y∧w1.cell? ⟨w.heap.size+1,0,none⟩=some a∧w1.cell? ⟨w.heap.size+1,1,none⟩=some b
theorem s6_of(h:Below (w.heap.size+2) ((w.alloc (.cells #[x,y] 106)).alloc (.cells #[a,b] 106)) w1)(ho:w1.ownsRow (w.heap.size+2) 106 2 u m l)(hs:w.heap.size+2≤w1.heap.size):S6 w x y a b u m l w1:=by
 obtain⟨k0,k1,k2,k3⟩:=box4 h
 exact⟨h,ho,hs,k0,k1,k2,k3⟩
theorem s5_of{w3 w4:World}(h:Below (w.heap.size+2) ((w.alloc (.cells #[x,y] 106)).alloc (.cells #[a,b] 106)) w3)(hb:Below w3.heap.size w3 w4):
  Below w3.heap.size w3 w4∧w4.cell? ⟨w.heap.size,0,none⟩=some x∧w4.cell? ⟨w.heap.size,1,none⟩=some y∧w4.cell? ⟨w.heap.size+1,0,none⟩=some a∧w4.cell? ⟨w.heap.size+1,1,none⟩=some b:=by
 obtain⟨k0,k1,k2,k3⟩:=box4 (h.trans (hb.mono (by have:=h.size;simp at this;omega)))
 exact⟨hb,k0,k1,k2,k3⟩
theorem s6_call(h:Below (w.heap.size+2) ((w.alloc (.cells #[x,y] 106)).alloc (.cells #[a,b] 106)) w1)(ho:w1.ownsRow (w.heap.size+2) 106 2 u m l)(hs:w.heap.size+2≤w1.heap.size)(hb:Below w1.heap.size w1 w2):S6 w x y a b u m l w2:=
 s6_of (h.trans (hb.mono hs)) (own2_keep ho hb) (Nat.le_trans hs hb.size)
theorem s6_alloc(h:Below (w.heap.size+2) ((w.alloc (.cells #[x,y] 106)).alloc (.cells #[a,b] 106)) w1)(ho:w1.ownsRow (w.heap.size+2) 106 2 u m l)(hs:w.heap.size+2≤w1.heap.size)(o:Obj):S6 w x y a b u m l (w1.alloc o):=
 s6_call h ho hs ((Below.refl _ _).alloc (Nat.le_refl _) o)
theorem s6_app(h:Below (w.heap.size+2) ((w.alloc (.cells #[x,y] 106)).alloc (.cells #[a,b] 106)) w1)(ho:w1.ownsRow (w.heap.size+2) 106 2 u m l)(hs:w.heap.size+2≤w1.heap.size)(hk:w2.ownsRow (w.heap.size+2) 106 2 u m l)(hg:w1.grownBy w2 u.ownBlock):S6 w x y a b u m l w2:=
 s6_of (h.grown hg hs fun k hk=>(ho.lt k hk).1) hk (Nat.le_trans hs hg.size)
end
theorem cut_any(p:Nat)(s:Sp)(G:Nat→Prop)(i f n':Nat)(w:World)(h:Spc w G p s)(hi:i<s.fr.length)(h1:(xAt s.fr i).1≤f)(h2:f+n'≤(xAt s.fr i).1+(xAt s.fr i).2)(hn:1≤n'):
  Calls Tryz.prog 100 #[.pointer (some ⟨p,0,none⟩),.int .i64 i,.agg #[.int .i64 f,.int .i64 n']] w fun e w'=>∃G',e=.returned (.tuple #[])∧Spc w' G' p {s with fr:=cutL s.fr i f n'}∧Far G w w'∧∀k,G' k→G k∨w.heap.size≤k:=by
 obtain⟨hok,v,hr,ho,hG⟩:=h
 obtain⟨i0,hi0,hz0,hz,hzb⟩:=ext_info
 obtain⟨A,c,rfl,hnc,hcm,_⟩:=own2_form ho
 have hspec:=cut_spec hok.2.2 hi h1 h2 hn
 have hbnd:=hok.2.2.getD hi
 have hhi:s.first+s.blocks≤4000000:=by have:=hok.1;have:=hok.2.1;omega
 have hlen:=hok.len
 have c2:w.cell? ⟨p,2,none⟩=some (.slice A s.fr.length c):=hr.cell 2
 have hpl:=hr.lt
 obtain⟨g,rfl,hg,hc0,hc1⟩:=own2_at ho hi
 obtain⟨A,hA⟩:∃A:Option Addr,A=some ⟨g,0,none⟩:=⟨_,rfl⟩
 obtain⟨N,hN⟩:∃N,N=s.fr.length:=⟨_,rfl⟩
 have H0:SpV w G p s (.slice (some ⟨g,0,none⟩) N c):=by subst hN;exact⟨hok,hr,ho,hG⟩
 obtain⟨R,hR⟩:∃R,R=cutL s.fr i f n':=⟨_,rfl⟩
 have HOK0:Hid (({s with fr:=cutL s.fr i f n'}:Sp).ok):=⟨hok.1,hok.2.1,hspec.1⟩
 unfold cutL at hR
 rw[←hN]at c2 hi hlen
 obtain⟨a,ha⟩:∃a,(xAt s.fr i).1=a:=⟨_,rfl⟩
 obtain⟨b,hb⟩:∃b,(xAt s.fr i).2=b:=⟨_,rfl⟩
 have hx:xAt s.fr i=(a,b):=Prod.ext ha hb
 rw[hx]at hR
 rw[ha,hb]at h2 hbnd
 rw[ha]at h1 hc0
 rw[hb]at hc1
 have hcut:cutL s.fr i f n'=R:=by unfold cutL;rw[hx,hR]
 rw[hcut]at HOK0⊢
 have HOK:=HOK0
 have HA:=Lib.hid hA
 subst hA
 have H:=Lib.hid H0
 have HN:Hid (i<N∧N≤1000000∧s.fr.length=N):=⟨hi,hlen,hN.symm⟩
 have HI0:=Lib.hid hi0
 obtain⟨u1,hu1⟩:∃u,f+n'=u:=⟨_,rfl⟩
 obtain⟨u2,hu2⟩:∃u,a+b=u:=⟨_,rfl⟩
 have HE1:Hid (∀W,Calls Tryz.prog 101 #[.agg #[.int .i64 f,.int .i64 n']] W fun e w'=>e=.returned (.int .i64 (u1:Nat))∧Below W.heap.size W w'):=fun W=>by have:=end_any f n' W (by omega);rwa [hu1]at this
 have HE2:Hid (∀W,Calls Tryz.prog 101 #[.agg #[.int .i64 a,.int .i64 b]] W fun e w'=>e=.returned (.int .i64 (u2:Nat))∧Below W.heap.size W w'):=fun W=>by have:=end_any a b W (by omega);rwa [hu2]at this
 have hu12:u1≤u2:=by omega
 have hu2b:u2≤4000000:=by omega
 have hfb:f≤4000000:=by omega
 have ii0:(0:Int)≤(i:Int):=by omega
 have ii1:(i:Int)<(N:Int):=by omega
 have hiw:IntKind.i64.wrap ((i:Int)+1)=(i:Int)+1:=IntWalk.i64_in _ (by omega)
 have HRaw:=Lib.hid hR
 have HU:=Lib.hid hu1
 have HU2:=Lib.hid hu2
 clear hspec hbnd hok hr ho hG H0 hN ha hb hx hcut HOK0 hR hi0 hu1 hu2 hhi
 by_cases hl:a<f
 ·obtain⟨q,hq⟩:∃q,f-a=q:=⟨_,rfl⟩
  have hsub:(f:Int)-(a:Int)=(q:Int):=by omega
  have hqw:IntKind.i64.wrap (q:Int)=(q:Int):=IntWalk.i64_in _ (by omega)
  have gl:decide ((a:Int)<(f:Int))=true:=by simp;omega
  have gl2:decide (a<f)=true:=by simp;omega
  have HQ:=Lib.hid hq
  have HL:Hid (a<f):=hl
  clear hq
  go_enter Tryz.func100,Tryz.ntmps100
  go_wp2_with (with_reducible refine stopAt 30 ?_)
  unfold Hid
  refine wpList_append_own_at _ rfl _ _ 107 rfl (w.heap.size+2) 106 i0 _ 2 16 Tryz.underlying107 HI0.out hz0 hz hzb rfl (by decide) _ 0 [] rfl (World.ownsRow_nil _ _ _ _) ⟨w.heap.size+2,0,none⟩ 1 1 (flatX [(a,q)]) rfl rfl (newsX (by simp)) flatX_one (by decide) (by decide) (by simp) ?_
  intro v1 w3 ho1 hg1 _ _
  rw[List.nil_append]at ho1
  have HB3:Hid (Below (w.heap.size+2) ((w.alloc (.cells #[.int .i64 f,.int .i64 n'] 106)).alloc (.cells #[.int .i64 a,.int .i64 b] 106)) w3):=((Below.refl _ _).alloc (by simp) _).grown hg1 (by simp) fun k hk=>by cases hk
  have HU3:=Lib.hid ho1
  obtain⟨B1,d1,rfl⟩:∃B1 d1,v1=.slice B1 1 d1:=by
   obtain⟨B1,d1,h1,_⟩:=own2_form (own2_base ho1 (Nat.zero_le _));exact⟨B1,d1,h1⟩
  clear ho1 hg1
  go_wp2
  have HW3:Hid (Below w.heap.size w w3):=(((Below.refl w.heap.size w).alloc (Nat.le_refl _) _).alloc (by simp) _).trans (HB3.out.mono (by omega))
  by_cases hrr:u1<u2
  ·skip
   have gr:decide ((u1:Int)<(u2:Int))=true:=by simp;omega
   have gr2:decide (u1<u2)=true:=by simp;omega
   obtain⟨t,ht⟩:∃t,u2-u1=t:=⟨_,rfl⟩
   have hsubt:(u2:Int)-(u1:Int)=(t:Int):=by omega
   have htw:IntKind.i64.wrap (t:Int)=(t:Int):=IntWalk.i64_in _ (by omega)
   have HT:=Lib.hid ht
   clear ht
   have HR:Hid (s.fr.take i++([(a,q)]++[(u1,t)])++s.fr.drop (i+1)=R):=by
    unfold Hid;rw[HRaw.out];unfold leftX;dsimp only;rw[if_pos HL.out,if_pos (by rw[HU.out];have:=HU2.out;omega)];rw[HQ.out];rw[HU.out,HU2.out,HT.out]
   have hs3:w.heap.size+2≤w3.heap.size:=by have:=HB3.out.size;simp at this;omega
   go_region_held3 (fun w'=>Below w3.heap.size w3 w'∧w'.cell? ⟨w.heap.size,0,none⟩=some (.int .i64 f)∧w'.cell? ⟨w.heap.size,1,none⟩=some (.int .i64 n')∧w'.cell? ⟨w.heap.size+1,0,none⟩=some (.int .i64 a)∧w'.cell? ⟨w.heap.size+1,1,none⟩=some (.int .i64 b))
    (first
     |(exact s5_of HB3.out (below_drewN (Below.refl _ _) 1))
     |(exact s5_of HB3.out hacc))
    ((go_split_ands;go_at_call 101;(first|(with_reducible refine(HE1.out _).mono ?_)|(with_reducible refine(HE2.out _).mono ?_));rintro e w4 ⟨rfl,hb3⟩;have hacc:Below w3.heap.size w3 w4:=Below.trans (by assumption) (Below.mono hb3 (Below.size (by assumption)))))
   have HB34:=Lib.hid hacc
   clear hacc
   have hu4:w4.ownsRow (w.heap.size+2) 106 2 (.slice B1 1 d1) 1 (flatX [(a,q)]):=own2_keep HU3.out HB34.out
   have hb4:Below (w.heap.size+2) ((w.alloc (.cells #[.int .i64 f,.int .i64 n'] 106)).alloc (.cells #[.int .i64 a,.int .i64 b] 106)) w4:=HB3.out.trans (HB34.out.mono hs3)
   obtain⟨m0,m1,m2,m3⟩:=box4 hb4
   have hs4:w.heap.size+2≤w4.heap.size:=by have:=hb4.size;simp at this;omega
   have HB4:=Lib.hid hb4
   have HU4:=Lib.hid hu4
   clear hb4 hu4
   go_wp2
   go_region_held3 (fun w'=>Below (w.heap.size+2) ((w.alloc (.cells #[.int .i64 f,.int .i64 n'] 106)).alloc (.cells #[.int .i64 a,.int .i64 b] 106)) w'∧w'.ownsRow (w.heap.size+2) 106 2 (.slice B1 1 d1) 1 (flatX [(a,q)])∧w.heap.size+2≤w'.heap.size∧w'.cell? ⟨w.heap.size,0,none⟩=some (.int .i64 f)∧w'.cell? ⟨w.heap.size,1,none⟩=some (.int .i64 n')∧w'.cell? ⟨w.heap.size+1,0,none⟩=some (.int .i64 a)∧w'.cell? ⟨w.heap.size+1,1,none⟩=some (.int .i64 b))
    (first
     |(exact⟨below_drewN HB4.out 1,HU4.out,hs4,m0,m1,m2,m3⟩)
     |(exact hacc)
     |(go_split_ands;exact s6_alloc (by assumption) (by assumption) (by assumption) _)
     |(exact hacc2))
    (first
     |(go_split_ands;go_at_call 101;(first|(with_reducible refine(HE1.out _).mono ?_)|(with_reducible refine(HE2.out _).mono ?_));rintro e w5 ⟨rfl,hb3⟩;have hacc:=s6_call (by assumption) (by assumption) (by assumption) hb3)
     |(go_split_ands;refine step_append_keep rfl _ _ 107 rfl (w.heap.size+2) 106 i0 _ 2 16 Tryz.underlying107 HI0.out hz0 hz hzb rfl (by decide) (.slice B1 1 d1) 1 (flatX [(a,q)]) (by first|rfl|simp) (by assumption) _ 1 1 (flatX [(u1,t)]) (by first|rfl|simp) rfl (newsX (by first|rfl|simp)) flatX_one (by decide) (by decide) (by assumption) ?_;intro v5 w5 hox hgx hkx;have hacc2:=s6_app (by assumption) (by assumption) (by assumption) hkx hgx))
   generalize hm5:1+1=m5 at hox
   have hm5':m5≤2:=by omega
   rw[←flatX_append]at hox
   obtain⟨B5,d5,rfl⟩:∃B5 d5,v5=.slice B5 m5 d5:=by
    obtain⟨B5,d5,h1,_⟩:=own2_form (own2_base hox.out (Nat.zero_le _));exact⟨B5,d5,h1⟩
   have HU5:Hid (w5.ownsRow 0 106 2 (.slice B5 m5 d5) m5 (flatX ([(a,q)]++[(u1,t)]))):=own2_base hox.out (Nat.zero_le _)
   have HLT:Hid (∀k,(Value.slice B5 m5 d5).ownBlock=some k→w.heap.size≤k):=fun k hk=>by have:=(hox.out.lt k hk).1;omega
   have HB5:Hid (Below w.heap.size w w5):=(((Below.refl w.heap.size w).alloc (Nat.le_refl _) _).alloc (by simp) _).trans (hacc2.1.mono (by omega))
   clear hm5 hox hacc2 hgx hkx hacc m0 m1 m2 m3 hs4
   have hov5:=own2_below H.out.2.2.1 HB5.out
   have hrw5:Row w5 p 109 (spCells s (.slice (some ⟨g,0,none⟩) N c)):=H.out.2.1.below HB5.out hpl
   have hrep:=replace_any w5 (i:=i) (j:=i+1) hov5 HU5.out (fun k hk e=>by have h1:=(H.out.2.2.1.lt k hk).2;have h2:=HLT.out k e;omega) (by omega) (by have:=HN.out;omega) (by omega) (by have:=HN.out;omega)
   have hR:s.fr.take i++([(a,q)]++[(u1,t)])++s.fr.drop (i+1)=R:=HR.out
   rw[hR]at hrep
   have hcast:((i+1:Nat):Int)=(i:Int)+1:=by omega
   rw[hcast]at hrep
   have HREP:=Lib.hid hrep
   have c5:w5.cell? ⟨p,2,none⟩=some (.slice (some ⟨g,0,none⟩) N c):=hrw5.cell 2
   have HC:Hid (∀v' w6,Got w5 (.slice (some ⟨g,0,none⟩) N c) R (.returned v') w6→∃G',Spc (w6.setCell ⟨p,2,none⟩ v') G' p {s with fr:=R}∧Far G w (w6.setCell ⟨p,2,none⟩ v')∧∀k,G' k→G k∨w.heap.size≤k):=fun v' w6 hg=>spc_put H.out HB5.out hg HOK.out
   have HC2:Hid (∀v' w6,Got w5 (.slice (some ⟨g,0,none⟩) N c) R (.returned v') w6→w6.cell? ⟨p,2,none⟩=some (.slice (some ⟨g,0,none⟩) N c)∧w6.frozen? ⟨p,2,none⟩=false):=fun v' w6 hg=>by have:=spc_stays H.out HB5.out hg;exact⟨this.cell 2,this.free 2⟩
   have hpl5:p<w5.heap.size:=hrw5.lt
   clear hrep hov5 hrw5 hR hcast
   go_wp2_with fail
   refine HREP.out.mono ?_
   rintro e w6 hg
   obtain⟨v',rfl,hg1,hg2,hg3⟩:=id hg
   have HX:=Lib.hid (HC.out v' w6 hg)
   obtain⟨c6,f6⟩:=HC2.out v' w6 hg
   obtain⟨A',c',rfl,_,_,_⟩:=own2_form hg1
   clear hg hg1 hg2 hg3
   go_wp2
   go_end0
   obtain⟨G',h1,h2,h3⟩:=HX.out
   exact⟨G',rfl,h1,h2,h3⟩
  ·skip
   have gr:decide ((u1:Int)<(u2:Int))=false:=by simp;omega
   have gr2:decide (u1<u2)=false:=by simp;omega
   have HR:Hid (s.fr.take i++([(a,q)]++[])++s.fr.drop (i+1)=R):=by
    unfold Hid;rw[HRaw.out];unfold leftX;dsimp only;rw[if_pos HL.out,if_neg (by rw[HU.out];have:=HU2.out;omega)];rw[HQ.out]
   have hs3:w.heap.size+2≤w3.heap.size:=by have:=HB3.out.size;simp at this;omega
   go_region_held3 (fun w'=>Below w3.heap.size w3 w'∧w'.cell? ⟨w.heap.size,0,none⟩=some (.int .i64 f)∧w'.cell? ⟨w.heap.size,1,none⟩=some (.int .i64 n')∧w'.cell? ⟨w.heap.size+1,0,none⟩=some (.int .i64 a)∧w'.cell? ⟨w.heap.size+1,1,none⟩=some (.int .i64 b))
    (first
     |(exact s5_of HB3.out (below_drewN (Below.refl _ _) 1))
     |(exact s5_of HB3.out hacc))
    ((go_split_ands;go_at_call 101;(first|(with_reducible refine(HE1.out _).mono ?_)|(with_reducible refine(HE2.out _).mono ?_));rintro e w4 ⟨rfl,hb3⟩;have hacc:Below w3.heap.size w3 w4:=Below.trans (by assumption) (Below.mono hb3 (Below.size (by assumption)))))
   have HB34:=Lib.hid hacc
   clear hacc
   have HU5:Hid (w4.ownsRow 0 106 2 (.slice B1 1 d1) 1 (flatX ([(a,q)]++[]))):=by unfold Hid;rw[List.append_nil];exact own2_base (own2_keep HU3.out HB34.out) (Nat.zero_le _)
   have HLT:Hid (∀k,(Value.slice B1 1 d1).ownBlock=some k→w.heap.size≤k):=fun k hk=>by have:=(HU3.out.lt k hk).1;omega
   have HB5:Hid (Below w.heap.size w w4):=HW3.out.trans (HB34.out.mono (by omega))
   generalize w4=w5 at*
   have hov5:=own2_below H.out.2.2.1 HB5.out
   have hrw5:Row w5 p 109 (spCells s (.slice (some ⟨g,0,none⟩) N c)):=H.out.2.1.below HB5.out hpl
   have hrep:=replace_any w5 (i:=i) (j:=i+1) hov5 HU5.out (fun k hk e=>by have h1:=(H.out.2.2.1.lt k hk).2;have h2:=HLT.out k e;omega) (by omega) (by have:=HN.out;omega) (by omega) (by have:=HN.out;omega)
   have hR:s.fr.take i++([(a,q)]++[])++s.fr.drop (i+1)=R:=HR.out
   rw[hR]at hrep
   have hcast:((i+1:Nat):Int)=(i:Int)+1:=by omega
   rw[hcast]at hrep
   have HREP:=Lib.hid hrep
   have c5:w5.cell? ⟨p,2,none⟩=some (.slice (some ⟨g,0,none⟩) N c):=hrw5.cell 2
   have HC:Hid (∀v' w6,Got w5 (.slice (some ⟨g,0,none⟩) N c) R (.returned v') w6→∃G',Spc (w6.setCell ⟨p,2,none⟩ v') G' p {s with fr:=R}∧Far G w (w6.setCell ⟨p,2,none⟩ v')∧∀k,G' k→G k∨w.heap.size≤k):=fun v' w6 hg=>spc_put H.out HB5.out hg HOK.out
   have HC2:Hid (∀v' w6,Got w5 (.slice (some ⟨g,0,none⟩) N c) R (.returned v') w6→w6.cell? ⟨p,2,none⟩=some (.slice (some ⟨g,0,none⟩) N c)∧w6.frozen? ⟨p,2,none⟩=false):=fun v' w6 hg=>by have:=spc_stays H.out HB5.out hg;exact⟨this.cell 2,this.free 2⟩
   have hpl5:p<w5.heap.size:=hrw5.lt
   clear hrep hov5 hrw5 hR hcast
   go_wp2_with fail
   refine HREP.out.mono ?_
   rintro e w6 hg
   obtain⟨v',rfl,hg1,hg2,hg3⟩:=id hg
   have HX:=Lib.hid (HC.out v' w6 hg)
   obtain⟨c6,f6⟩:=HC2.out v' w6 hg
   obtain⟨A',c',rfl,_,_,_⟩:=own2_form hg1
   clear hg hg1 hg2 hg3
   go_wp2
   go_end0
   obtain⟨G',h1,h2,h3⟩:=HX.out
   exact⟨G',rfl,h1,h2,h3⟩
 ·have gl:decide ((a:Int)<(f:Int))=false:=by simp;omega
  have gl2:decide (a<f)=false:=by simp;omega
  have HL:Hid (¬a<f):=hl
  have HB3:Hid (Below (w.heap.size+2) ((w.alloc (.cells #[.int .i64 f,.int .i64 n'] 106)).alloc (.cells #[.int .i64 a,.int .i64 b] 106)) ((w.alloc (.cells #[.int .i64 f,.int .i64 n'] 106)).alloc (.cells #[.int .i64 a,.int .i64 b] 106))):=Below.refl _ _
  have HU3:Hid (((w.alloc (.cells #[.int .i64 f,.int .i64 n'] 106)).alloc (.cells #[.int .i64 a,.int .i64 b] 106)).ownsRow (w.heap.size+2) 106 2 (.slice none 0 0) 0 (flatX [])):=World.ownsRow_nil _ _ _ _
  go_enter Tryz.func100,Tryz.ntmps100
  go_wp2
  generalize hW3:(w.alloc (.cells #[.int .i64 f,.int .i64 n'] 106)).alloc (.cells #[.int .i64 a,.int .i64 b] 106)=w3 at HU3⊢
  have HB3:Hid (Below (w.heap.size+2) ((w.alloc (.cells #[.int .i64 f,.int .i64 n'] 106)).alloc (.cells #[.int .i64 a,.int .i64 b] 106)) w3):=hW3▸HB3.out
  clear hW3
  have HW3:Hid (Below w.heap.size w w3):=(((Below.refl w.heap.size w).alloc (Nat.le_refl _) _).alloc (by simp) _).trans (HB3.out.mono (by omega))
  by_cases hrr:u1<u2
  ·skip
   have gr:decide ((u1:Int)<(u2:Int))=true:=by simp;omega
   have gr2:decide (u1<u2)=true:=by simp;omega
   obtain⟨t,ht⟩:∃t,u2-u1=t:=⟨_,rfl⟩
   have hsubt:(u2:Int)-(u1:Int)=(t:Int):=by omega
   have htw:IntKind.i64.wrap (t:Int)=(t:Int):=IntWalk.i64_in _ (by omega)
   have HT:=Lib.hid ht
   clear ht
   have HR:Hid (s.fr.take i++([]++[(u1,t)])++s.fr.drop (i+1)=R):=by
    unfold Hid;rw[HRaw.out];unfold leftX;dsimp only;rw[if_neg HL.out,if_pos (by rw[HU.out];have:=HU2.out;omega)];rw[HU.out,HU2.out,HT.out]
   have hs3:w.heap.size+2≤w3.heap.size:=by have:=HB3.out.size;simp at this;omega
   go_region_held3 (fun w'=>Below w3.heap.size w3 w'∧w'.cell? ⟨w.heap.size,0,none⟩=some (.int .i64 f)∧w'.cell? ⟨w.heap.size,1,none⟩=some (.int .i64 n')∧w'.cell? ⟨w.heap.size+1,0,none⟩=some (.int .i64 a)∧w'.cell? ⟨w.heap.size+1,1,none⟩=some (.int .i64 b))
    (first
     |(exact s5_of HB3.out (below_drewN (Below.refl _ _) 1))
     |(exact s5_of HB3.out hacc))
    ((go_split_ands;go_at_call 101;(first|(with_reducible refine(HE1.out _).mono ?_)|(with_reducible refine(HE2.out _).mono ?_));rintro e w4 ⟨rfl,hb3⟩;have hacc:Below w3.heap.size w3 w4:=Below.trans (by assumption) (Below.mono hb3 (Below.size (by assumption)))))
   have HB34:=Lib.hid hacc
   clear hacc
   have hu4:w4.ownsRow (w.heap.size+2) 106 2 (.slice none 0 0) 0 (flatX []):=own2_keep HU3.out HB34.out
   have hb4:Below (w.heap.size+2) ((w.alloc (.cells #[.int .i64 f,.int .i64 n'] 106)).alloc (.cells #[.int .i64 a,.int .i64 b] 106)) w4:=HB3.out.trans (HB34.out.mono hs3)
   obtain⟨m0,m1,m2,m3⟩:=box4 hb4
   have hs4:w.heap.size+2≤w4.heap.size:=by have:=hb4.size;simp at this;omega
   have HB4:=Lib.hid hb4
   have HU4:=Lib.hid hu4
   clear hb4 hu4
   go_wp2
   go_region_held3 (fun w'=>Below (w.heap.size+2) ((w.alloc (.cells #[.int .i64 f,.int .i64 n'] 106)).alloc (.cells #[.int .i64 a,.int .i64 b] 106)) w'∧w'.ownsRow (w.heap.size+2) 106 2 (.slice none 0 0) 0 (flatX [])∧w.heap.size+2≤w'.heap.size∧w'.cell? ⟨w.heap.size,0,none⟩=some (.int .i64 f)∧w'.cell? ⟨w.heap.size,1,none⟩=some (.int .i64 n')∧w'.cell? ⟨w.heap.size+1,0,none⟩=some (.int .i64 a)∧w'.cell? ⟨w.heap.size+1,1,none⟩=some (.int .i64 b))
    (first
     |(exact⟨below_drewN HB4.out 1,HU4.out,hs4,m0,m1,m2,m3⟩)
     |(exact hacc)
     |(go_split_ands;exact s6_alloc (by assumption) (by assumption) (by assumption) _)
     |(exact hacc2))
    (first
     |(go_split_ands;go_at_call 101;(first|(with_reducible refine(HE1.out _).mono ?_)|(with_reducible refine(HE2.out _).mono ?_));rintro e w5 ⟨rfl,hb3⟩;have hacc:=s6_call (by assumption) (by assumption) (by assumption) hb3)
     |(go_split_ands;refine step_append_keep rfl _ _ 107 rfl (w.heap.size+2) 106 i0 _ 2 16 Tryz.underlying107 HI0.out hz0 hz hzb rfl (by decide) (.slice none 0 0) 0 (flatX []) (by first|rfl|simp) (by assumption) _ 1 1 (flatX [(u1,t)]) (by first|rfl|simp) rfl (newsX (by first|rfl|simp)) flatX_one (by decide) (by decide) (by assumption) ?_;intro v5 w5 hox hgx hkx;have hacc2:=s6_app (by assumption) (by assumption) (by assumption) hkx hgx))
   generalize hm5:0+1=m5 at hox
   have hm5':m5≤2:=by omega
   rw[←flatX_append]at hox
   obtain⟨B5,d5,rfl⟩:∃B5 d5,v5=.slice B5 m5 d5:=by
    obtain⟨B5,d5,h1,_⟩:=own2_form (own2_base hox.out (Nat.zero_le _));exact⟨B5,d5,h1⟩
   have HU5:Hid (w5.ownsRow 0 106 2 (.slice B5 m5 d5) m5 (flatX ([]++[(u1,t)]))):=own2_base hox.out (Nat.zero_le _)
   have HLT:Hid (∀k,(Value.slice B5 m5 d5).ownBlock=some k→w.heap.size≤k):=fun k hk=>by have:=(hox.out.lt k hk).1;omega
   have HB5:Hid (Below w.heap.size w w5):=(((Below.refl w.heap.size w).alloc (Nat.le_refl _) _).alloc (by simp) _).trans (hacc2.1.mono (by omega))
   clear hm5 hox hacc2 hgx hkx hacc m0 m1 m2 m3 hs4
   have hov5:=own2_below H.out.2.2.1 HB5.out
   have hrw5:Row w5 p 109 (spCells s (.slice (some ⟨g,0,none⟩) N c)):=H.out.2.1.below HB5.out hpl
   have hrep:=replace_any w5 (i:=i) (j:=i+1) hov5 HU5.out (fun k hk e=>by have h1:=(H.out.2.2.1.lt k hk).2;have h2:=HLT.out k e;omega) (by omega) (by have:=HN.out;omega) (by omega) (by have:=HN.out;omega)
   have hR:s.fr.take i++([]++[(u1,t)])++s.fr.drop (i+1)=R:=HR.out
   rw[hR]at hrep
   have hcast:((i+1:Nat):Int)=(i:Int)+1:=by omega
   rw[hcast]at hrep
   have HREP:=Lib.hid hrep
   have c5:w5.cell? ⟨p,2,none⟩=some (.slice (some ⟨g,0,none⟩) N c):=hrw5.cell 2
   have HC:Hid (∀v' w6,Got w5 (.slice (some ⟨g,0,none⟩) N c) R (.returned v') w6→∃G',Spc (w6.setCell ⟨p,2,none⟩ v') G' p {s with fr:=R}∧Far G w (w6.setCell ⟨p,2,none⟩ v')∧∀k,G' k→G k∨w.heap.size≤k):=fun v' w6 hg=>spc_put H.out HB5.out hg HOK.out
   have HC2:Hid (∀v' w6,Got w5 (.slice (some ⟨g,0,none⟩) N c) R (.returned v') w6→w6.cell? ⟨p,2,none⟩=some (.slice (some ⟨g,0,none⟩) N c)∧w6.frozen? ⟨p,2,none⟩=false):=fun v' w6 hg=>by have:=spc_stays H.out HB5.out hg;exact⟨this.cell 2,this.free 2⟩
   have hpl5:p<w5.heap.size:=hrw5.lt
   clear hrep hov5 hrw5 hR hcast
   go_wp2_with fail
   refine HREP.out.mono ?_
   rintro e w6 hg
   obtain⟨v',rfl,hg1,hg2,hg3⟩:=id hg
   have HX:=Lib.hid (HC.out v' w6 hg)
   obtain⟨c6,f6⟩:=HC2.out v' w6 hg
   obtain⟨A',c',rfl,_,_,_⟩:=own2_form hg1
   clear hg hg1 hg2 hg3
   go_wp2
   go_end0
   obtain⟨G',h1,h2,h3⟩:=HX.out
   exact⟨G',rfl,h1,h2,h3⟩
  ·skip
   have gr:decide ((u1:Int)<(u2:Int))=false:=by simp;omega
   have gr2:decide (u1<u2)=false:=by simp;omega
   have HR:Hid (s.fr.take i++([]++[])++s.fr.drop (i+1)=R):=by
    unfold Hid;rw[HRaw.out];unfold leftX;dsimp only;rw[if_neg HL.out,if_neg (by rw[HU.out];have:=HU2.out;omega)]
   have hs3:w.heap.size+2≤w3.heap.size:=by have:=HB3.out.size;simp at this;omega
   go_region_held3 (fun w'=>Below w3.heap.size w3 w'∧w'.cell? ⟨w.heap.size,0,none⟩=some (.int .i64 f)∧w'.cell? ⟨w.heap.size,1,none⟩=some (.int .i64 n')∧w'.cell? ⟨w.heap.size+1,0,none⟩=some (.int .i64 a)∧w'.cell? ⟨w.heap.size+1,1,none⟩=some (.int .i64 b))
    (first
     |(exact s5_of HB3.out (below_drewN (Below.refl _ _) 1))
     |(exact s5_of HB3.out hacc))
    ((go_split_ands;go_at_call 101;(first|(with_reducible refine(HE1.out _).mono ?_)|(with_reducible refine(HE2.out _).mono ?_));rintro e w4 ⟨rfl,hb3⟩;have hacc:Below w3.heap.size w3 w4:=Below.trans (by assumption) (Below.mono hb3 (Below.size (by assumption)))))
   have HB34:=Lib.hid hacc
   clear hacc
   have HU5:Hid (w4.ownsRow 0 106 2 (.slice none 0 0) 0 (flatX ([]++[]))):=by unfold Hid;rw[List.append_nil];exact own2_base (own2_keep HU3.out HB34.out) (Nat.zero_le _)
   have HLT:Hid (∀k,(Value.slice none 0 0).ownBlock=some k→w.heap.size≤k):=fun k hk=>by have:=(HU3.out.lt k hk).1;omega
   have HB5:Hid (Below w.heap.size w w4):=HW3.out.trans (HB34.out.mono (by omega))
   generalize w4=w5 at*
   have hov5:=own2_below H.out.2.2.1 HB5.out
   have hrw5:Row w5 p 109 (spCells s (.slice (some ⟨g,0,none⟩) N c)):=H.out.2.1.below HB5.out hpl
   have hrep:=replace_any w5 (i:=i) (j:=i+1) hov5 HU5.out (fun k hk e=>by have h1:=(H.out.2.2.1.lt k hk).2;have h2:=HLT.out k e;omega) (by omega) (by have:=HN.out;omega) (by omega) (by have:=HN.out;omega)
   have hR:s.fr.take i++([]++[])++s.fr.drop (i+1)=R:=HR.out
   rw[hR]at hrep
   have hcast:((i+1:Nat):Int)=(i:Int)+1:=by omega
   rw[hcast]at hrep
   have HREP:=Lib.hid hrep
   have c5:w5.cell? ⟨p,2,none⟩=some (.slice (some ⟨g,0,none⟩) N c):=hrw5.cell 2
   have HC:Hid (∀v' w6,Got w5 (.slice (some ⟨g,0,none⟩) N c) R (.returned v') w6→∃G',Spc (w6.setCell ⟨p,2,none⟩ v') G' p {s with fr:=R}∧Far G w (w6.setCell ⟨p,2,none⟩ v')∧∀k,G' k→G k∨w.heap.size≤k):=fun v' w6 hg=>spc_put H.out HB5.out hg HOK.out
   have HC2:Hid (∀v' w6,Got w5 (.slice (some ⟨g,0,none⟩) N c) R (.returned v') w6→w6.cell? ⟨p,2,none⟩=some (.slice (some ⟨g,0,none⟩) N c)∧w6.frozen? ⟨p,2,none⟩=false):=fun v' w6 hg=>by have:=spc_stays H.out HB5.out hg;exact⟨this.cell 2,this.free 2⟩
   have hpl5:p<w5.heap.size:=hrw5.lt
   clear hrep hov5 hrw5 hR hcast
   go_wp2_with fail
   refine HREP.out.mono ?_
   rintro e w6 hg
   obtain⟨v',rfl,hg1,hg2,hg3⟩:=id hg
   have HX:=Lib.hid (HC.out v' w6 hg)
   obtain⟨c6,f6⟩:=HC2.out v' w6 hg
   obtain⟨A',c',rfl,_,_,_⟩:=own2_form hg1
   clear hg hg1 hg2 hg3
   go_wp2
   go_end0
   obtain⟨G',h1,h2,h3⟩:=HX.out
   exact⟨G',rfl,h1,h2,h3⟩
def Next(w:World)(G:Nat→Prop)(p:Nat)(s:Sp)(w':World):Prop:=∃G',Spc w' G' p s∧Far G w w'∧∀k,G' k→G k∨w.heap.size≤k
theorem Next.of_below{w w':World}{G:Nat→Prop}{p:Nat}{s:Sp}(h:Spc w G p s)(hb:Below w.heap.size w w'):Next w G p s w':=⟨G,h.below hb,Far.of_below hb G,fun _ hk=>.inl hk⟩
theorem Next.behind{w w1 w':World}{G:Nat→Prop}{p:Nat}{s:Sp}(hb:Below w.heap.size w w1)(h:Next w1 G p s w'):Next w G p s w':=by
 obtain⟨G',h1,h2,h3⟩:=h
 exact⟨G',h1,(Far.of_below hb G).trans h2 fun b hb'=>.inl hb',fun k hk=>(h3 k hk).imp id fun h=>Nat.le_trans hb.size h⟩
def takeS(s:Sp)(n:Int):Sp×Nat×Nat:=
 if n<1 then (s,0,1)else if fitI s.fr n.toNat<s.fr.length then ({s with fr:=cutL s.fr (fitI s.fr n.toNat) (xAt s.fr (fitI s.fr n.toNat)).1 n.toNat},(xAt s.fr (fitI s.fr n.toNat)).1,0)else (s,0,5)
def giveS(s:Sp)(f n:Int):Sp×Nat:=
 if n<1∨¬((s.first:Int)≤f∧n≤((s.first+s.blocks:Nat):Int)-f)∨(nextI s.fr f.toNat<s.fr.length∧(xAt s.fr (nextI s.fr f.toNat)).1<f.toNat+n.toNat)then (s,1)else ({s with fr:=joinL s.fr (nextI s.fr f.toNat) f.toNat n.toNat},0)
theorem take_any(p:Nat)(s:Sp)(G:Nat→Prop)(n:Int)(w:World)(h:Spc w G p s)(hn:I64 n):
  Calls Tryz.prog 87 #[.pointer (some ⟨p,0,none⟩),.int .i64 n] w fun e w'=>e=.returned (.tuple #[.int .i64 ((takeS s n).2.1:Nat),.int .i64 ((takeS s n).2.2:Nat)])∧Next w G p (takeS s n).1 w':=by
 have hB:=(Below.refl w.heap.size w).alloc (Nat.le_refl _) (.cells #[.int .i64 n] 3)
 by_cases h1:n<1
 ·have g1:decide (n<1)=true:=by simpa using h1
  have HN:Hid (Next w G p (takeS s n).1 (w.alloc (.cells #[.int .i64 n] 3))):=by unfold Hid takeS;rw[if_pos h1];exact Next.of_below h hB
  have e:(takeS s n).2=(0,1):=by unfold takeS;rw[if_pos h1]
  rw[e]
  clear h hB h1 e
  go_enter Tryz.func87,Tryz.ntmps87
  go_wp2
  go_ret2
  exact⟨rfl,HN.out⟩
 ·have g1:decide (n<1)=false:=by simpa using h1
  obtain⟨m,rfl⟩:∃m:Nat,n=(m:Int):=⟨n.toNat,by omega⟩
  have hm:1≤m:=by omega
  have hsp:=h.below hB
  obtain⟨hok,v,hr,ho,hG⟩:=id hsp
  obtain⟨A,c,rfl,hnc,hcm,_⟩:=own2_form ho
  have hlen:=hok.len
  have c2:(w.alloc (.cells #[.int .i64 (m:Int)] 3)).cell? ⟨p,2,none⟩=some (.slice A s.fr.length c):=hr.cell 2
  have k1:(w.alloc (.cells #[.int .i64 (m:Int)] 3)).cell? ⟨w.heap.size,0,none⟩=some (.int .i64 (m:Int)):=by
   have r1:Row (w.alloc (.cells #[.int .i64 (m:Int)] 3)) w.heap.size 3 [.int .i64 (m:Int)]:=heap_alloc_new _ _
   exact r1.cell 0
  have hidx:=indexf_any w.heap.size (m:Int) A s.fr.length c s.fr _ k1 ho rfl (by omega)
  have HSP:=Lib.hid hsp
  have HB:=Lib.hid hB
  have HO:=Lib.hid ho
  have htoN:((m:Int)).toNat=m:=Int.toNat_natCast m
  have hpl:p<w.heap.size:=by obtain⟨_,v,hr,_⟩:=h;exact hr.lt
  obtain⟨N,hN⟩:∃N,N=s.fr.length:=⟨_,rfl⟩
  have HN:=Lib.hid hN
  have HTS:takeS s (m:Int)=if fitI s.fr m<s.fr.length then ({s with fr:=cutL s.fr (fitI s.fr m) (xAt s.fr (fitI s.fr m)).1 m},(xAt s.fr (fitI s.fr m)).1,0)else (s,0,5):=by unfold takeS;rw[if_neg h1,htoN]
  by_cases hfl:fitI s.fr m<s.fr.length
  ·rw[if_pos hfl]at HTS
   rw[HTS]
   dsimp only
   have hge:=findIdx_at hfl
   have hidx2:=hidx.mono (R':=fun e w'=>e=.returned (.int .i64 (fitI s.fr m:Nat))∧Below (w.alloc (.cells #[.int .i64 (m:Int)] 3)).heap.size (w.alloc (.cells #[.int .i64 (m:Int)] 3)) w') (fun e w2 hh=>by
    rcases hh with⟨i,hi,hlow,hat,rfl,hb2⟩|⟨hno,rfl,hb2⟩
    ·have hfit:fitI s.fr m=i:=findIdx_unique (by omega) (fun k hk=>by have:=hlow k hk;simp only[decide_eq_false_iff_not]at this⊢;omega) (fun _=>by simp only[decide_eq_true_eq]at hat⊢;omega)
     rw[hfit];exact⟨rfl,hb2⟩
    ·have h2:=hno _ hfl
     simp only[decide_eq_true_eq,decide_eq_false_iff_not]at hge h2
     unfold fitI at h2;omega)
   have hge2:m≤(xAt s.fr (fitI s.fr m)).2:=by unfold fitI;simpa using hge
   generalize fitI s.fr m=i at*
   obtain⟨a,ha⟩:∃a,(xAt s.fr i).1=a:=⟨_,rfl⟩
   have HAT:Hid (∀W,Below (w.alloc (.cells #[.int .i64 (m:Int)] 3)).heap.size (w.alloc (.cells #[.int .i64 (m:Int)] 3)) W→∃g,A=some ⟨g,0,none⟩∧g<W.heap.size∧W.cell? ⟨g,i*2,none⟩=some (.int .i64 (a:Nat))):=fun W hb=>by
    obtain⟨g,h1,h2,h3,_⟩:=own2_at (own2_below HO.out hb) hfl
    rw[ha]at h3;exact⟨g,h1,h2,h3⟩
   have HCUT:Hid (∀w2,Below (w.alloc (.cells #[.int .i64 (m:Int)] 3)).heap.size (w.alloc (.cells #[.int .i64 (m:Int)] 3)) w2→Calls Tryz.prog 100 #[.pointer (some ⟨p,0,none⟩),.int .i64 i,.agg #[.int .i64 a,.int .i64 m]] w2 fun e w'=>e=.returned (.tuple #[])∧Next w G p {s with fr:=cutL s.fr i a m} w'):=fun w2 hb2=>
    (cut_any p s G i a m w2 (HSP.out.below hb2) hfl (by rw[ha];exact Nat.le_refl _) (by rw[ha];omega) hm).mono fun e w' ⟨G',h1,h2⟩=>⟨h1,Next.behind (HB.out.trans (hb2.mono HB.out.size)) ⟨G',h2⟩⟩
   rw[ha]
   generalize cutL s.fr i a m=R at*
   rw[←hN]at c2 hlen hidx2 hfl
   have HIDX:=Lib.hid hidx2
   have gi:decide ((i:Int)<0)=false:=by simp
   have ii0:(0:Int)≤(i:Int):=by omega
   have ii1:(i:Int)<(N:Int):=by omega
   clear hidx hidx2 hsp hok hr ho hG h h1 hB htoN hN hge hge2 ha HTS hfl
   go_enter Tryz.func87,Tryz.ntmps87
   go_wp2_with fail
   refine HIDX.out.mono ?_
   rintro e w2 ⟨rfl,hb2⟩
   obtain⟨g,rfl,hg,hc0⟩:=HAT.out w2 hb2
   have hcut:=HCUT.out w2 hb2
   have HC2:=Lib.hid hcut
   have c2':=(hb2.cell (p:=⟨p,2,none⟩) (by simp;omega)).trans c2
   have k1':=(hb2.cell (p:=⟨w.heap.size,0,none⟩) (by simp)).trans k1
   clear hcut hb2 HIDX HAT HCUT c2 k1 HO HSP
   go_wp2_with fail
   refine HC2.out.mono ?_
   rintro e w3 ⟨rfl,hx⟩
   have HX:=Lib.hid hx
   clear hx
   go_wp2
   go_ret2
   exact⟨rfl,HX.out⟩
  ·rw[if_neg hfl]at HTS
   rw[HTS]
   dsimp only
   have hidx2:=hidx.mono (R':=fun e w'=>e=.returned (.int .i64 (-1))∧Next w G p s w') (fun e w2 hh=>by
    rcases hh with⟨i,hi,hlow,hat,rfl,hb2⟩|⟨hno,rfl,hb2⟩
    ·have hfit:fitI s.fr m=i:=findIdx_unique (by omega) (fun k hk=>by have:=hlow k hk;simp only[decide_eq_false_iff_not]at this⊢;omega) (fun _=>by simp only[decide_eq_true_eq]at hat⊢;omega)
     omega
    ·exact⟨rfl,Next.behind HB.out (Next.of_below HSP.out hb2)⟩)
   rw[←hN]at c2 hlen hidx2
   have HIDX:=Lib.hid hidx2
   clear hidx hidx2 hsp hok hr ho hG h h1 hB htoN hN HTS hfl
   go_enter Tryz.func87,Tryz.ntmps87
   go_wp2_with fail
   refine HIDX.out.mono ?_
   rintro e w2 ⟨rfl,hx⟩
   have HX:=Lib.hid hx
   clear hx HIDX
   go_wp2
   go_ret2
   exact⟨rfl,HX.out⟩
section
variable {l : List Ex} {i f n : Nat}
theorem touchL_t(h0:0<i)(h:(xAt l (i-1)).1+(xAt l (i-1)).2=f):touchL l i f=true:=by simp[touchL,h0,h]
theorem touchL_f(h:0<i→(xAt l (i-1)).1+(xAt l (i-1)).2≠f):touchL l i f=false:=by
 unfold touchL
 by_cases h0:0<i
 ·simp[h0,h h0]
 ·simp[h0]
theorem touchR_t(h0:i<l.length)(h:(xAt l i).1=f):touchR l i f=true:=by simp[touchR,h0,h]
theorem touchR_f(h:i<l.length→(xAt l i).1≠f):touchR l i f=false:=by
 unfold touchR
 by_cases h0:i<l.length
 ·simp[h0,h h0]
 ·simp[h0]
end
theorem join_l0(p:Nat)(s:Sp)(G:Nat→Prop)(i f n':Nat)(w:World)(h:Spc w G p s)(hi:i=nextI s.fr f)(h1:s.first≤f)(h2:f+n'≤s.first+s.blocks)(hn:1≤n')(hno:∀b,f≤b→b<f+n'→¬hasB s.fr b)(hl0:¬0<i):
  Calls Tryz.prog 102 #[.pointer (some ⟨p,0,none⟩),.int .i64 i,.agg #[.int .i64 f,.int .i64 n']] w fun e w'=>∃G',e=.returned (.tuple #[])∧Spc w' G' p {s with fr:=joinL s.fr i f n'}∧Far G w w'∧∀k,G' k→G k∨w.heap.size≤k:=by
 obtain⟨hok,v,hr,ho,hG⟩:=h
 have hspec:=join_spec hok.2.2 hn h1 h2 hno
 rw[←hi]at hspec
 have hiN:i≤s.fr.length:=by rw[hi];exact List.findIdx_le_length
 clear hi hno
 have hhi:s.first+s.blocks≤2000000:=by have:=hok.1;have:=hok.2.1;omega
 have hbnd:∀k,k<s.fr.length→(xAt s.fr k).1+(xAt s.fr k).2≤2000000:=fun k hk=>by have:=hok.2.2.getD hk;omega
 obtain⟨A,c,rfl,hnc,hcm,_⟩:=own2_form ho
 have hlen:=hok.len
 have c2:w.cell? ⟨p,2,none⟩=some (.slice A s.fr.length c):=hr.cell 2
 have hpl:=hr.lt
 have hok0:=hok
 have hat:∀k,k<s.fr.length→∃g,A=some ⟨g,0,none⟩∧g<w.heap.size∧w.cell? ⟨g,k*2,none⟩=some (.int .i64 (xAt s.fr k).1)∧w.cell? ⟨g,k*2+1,none⟩=some (.int .i64 (xAt s.fr k).2):=fun k hk=>own2_at ho hk
 have HAT:=Lib.hid hat
 obtain⟨N,hN⟩:∃N,N=s.fr.length:=⟨_,rfl⟩
 have H0:SpV w G p s (.slice A N c):=by subst hN;exact⟨hok,hr,ho,hG⟩
 obtain⟨R,hR⟩:∃R,R=joinL s.fr i f n':=⟨_,rfl⟩
 have HOK:Hid (({s with fr:=R}:Sp).ok):=by rw[hR];exact⟨hok.1,hok.2.1,hspec.1⟩
 rw[←hR]
 have HR:=Lib.hid hR
 have H:=Lib.hid H0
 have HN:Hid (s.fr.length=N):=hN.symm
 have HBND:=Lib.hid hbnd
 rw[←hN]at c2 hlen hiN
 have hf4:f+n'≤2000000:=by omega
 have HB0:Hid (Below w.heap.size w (w.alloc (.cells #[.int .i64 f,.int .i64 n'] 106))):=(Below.refl _ _).alloc (Nat.le_refl _) _
 clear hspec hok hr ho hG hat H0 hN hR hhi hbnd hok0 h1 h2
 have lg:decide ((0:Int)<(i:Int))=false:=by simp;omega
 have lg1:decide ((i:Int)>0)=false:=by simp;omega
 have lg2:decide (0<i)=false:=by simp;omega
 have HTL:Hid (0<i→(xAt s.fr (i-1)).1+(xAt s.fr (i-1)).2≠f):=fun hh=>absurd hh hl0
 have HFE:Hid (f+n'=f+n'):=rfl
 go_enter Tryz.func102,Tryz.ntmps102
 go_wp2
 go_quiet (fail)
 have hboxp:Row ((w.alloc (.cells #[.int .i64 f,.int .i64 n'] 106)).drewN nq) w.heap.size 106 [.int .i64 f,.int .i64 n']:=heap_alloc_new _ _
 have HBp:Hid (Below w.heap.size w ((w.alloc (.cells #[.int .i64 f,.int .i64 n'] 106)).drewN nq)):=below_drewN HB0.out nq
 generalize(w.alloc (.cells #[.int .i64 f,.int .i64 n'] 106)).drewN nq=wp at*
 go_wp2
 by_cases hrN:i<N
 ·obtain⟨g2,hA2,hg2,hd0,hd1⟩:=HAT.out (i) (by rw[HN.out];exact hrN)
  have hbn2:=HBND.out (i) (by rw[HN.out];exact hrN)
  subst hA2
  obtain⟨a2,ha2⟩:∃a2,(xAt s.fr (i)).1=a2:=⟨_,rfl⟩
  obtain⟨b2,hb2⟩:∃b2,(xAt s.fr (i)).2=b2:=⟨_,rfl⟩
  rw[ha2]at hd0
  rw[hb2]at hd1
  rw[ha2,hb2]at hbn2
  have HA2:=Lib.hid ha2
  have HB2':=Lib.hid hb2
  obtain⟨u2,hu2⟩:∃u2,f+n'=u2:=⟨_,rfl⟩
  have HE2:Hid (∀W,Calls Tryz.prog 101 #[.agg #[.int .i64 f,.int .i64 n']] W fun e w'=>e=.returned (.int .i64 (u2:Nat))∧Below W.heap.size W w'):=fun W=>by have:=end_any (f) (n') W (by omega);rwa [hu2]at this
  have HU2:=Lib.hid hu2
  have c5p:wp.cell? ⟨p,2,none⟩=some (.slice (some ⟨g2,0,none⟩) N c):=(H.out.2.1.below HBp.out hpl).cell 2
  have b0p:wp.cell? ⟨w.heap.size,0,none⟩=some (.int .i64 f):=hboxp.cell 0
  have b1p:wp.cell? ⟨w.heap.size,1,none⟩=some (.int .i64 n'):=hboxp.cell 1
  have d0p:=(HBp.out.cell (p:=⟨g2,(i)*2,none⟩) hg2).trans hd0
  have d1p:=(HBp.out.cell (p:=⟨g2,(i)*2+1,none⟩) hg2).trans hd1
  have hszp:w.heap.size<wp.heap.size:=hboxp.lt
  have hplp:p<wp.heap.size:=by omega
  have hg2p:g2<wp.heap.size:=by omega
  have ri1:((i:Int):Int)<(N:Int):=by omega
  have ri0:(0:Int)≤((i:Int):Int):=by omega
  have rg:decide (((i:Int):Int)<(N:Int))=true:=by simp;omega
  have rgn:decide (i<N)=true:=by simp;omega
  clear hu2 ha2 hb2
  by_cases hrt:a2=u2
  ·have rt:decide (a2=u2)=true:=by simp;omega
   have rt2:(a2==u2)=true:=by simp;omega
   have rt3:((a2:Int)==(u2:Int))=true:=by simp;omega
   obtain⟨n2,hn2⟩:∃n2,n2=n'+b2:=⟨_,rfl⟩
   have hadd2:(n':Int)+(b2:Int)=(n2:Int):=by omega
   have hw2:IntKind.i64.wrap (n2:Int)=(n2:Int):=IntWalk.i64_in _ (by omega)
   have hwi:IntKind.i64.wrap (((i:Int):Int)+1)=((i:Int):Int)+1:=IntWalk.i64_in _ (by omega)
   have HTR:Hid (touchR s.fr (i) (f+n')=true):=touchR_t (by rw[HN.out];exact hrN) (by rw[HA2.out];have:=HU2.out;have:=HFE.out;omega)
   have HN2:=Lib.hid hn2
   clear hn2
   go_region_held3 (fun w'=>Below wp.heap.size wp w'∧w'.cell? ⟨p,2,none⟩=some (.slice (some ⟨g2,0,none⟩) N c)∧w'.cell? ⟨w.heap.size,0,none⟩=some (.int .i64 f)∧w'.cell? ⟨w.heap.size,1,none⟩=some (.int .i64 n')∧w'.cell? ⟨g2,(i)*2,none⟩=some (.int .i64 a2)∧w'.cell? ⟨g2,(i)*2+1,none⟩=some (.int .i64 b2))
    (first
     |(exact⟨below_drewN (Below.refl _ _) 1,c5p,b0p,b1p,d0p,d1p⟩)
     |(exact⟨hacc,(hacc.cell hplp).trans c5p,(hacc.cell hszp).trans b0p,(hacc.cell hszp).trans b1p,(hacc.cell hg2p).trans d0p,(hacc.cell hg2p).trans d1p⟩))
    ((go_split_ands;go_at_call 101;(with_reducible refine(HE2.out _).mono ?_);rintro e wr5 ⟨rfl,hb3⟩;have hacc:Below wp.heap.size wp wr5:=Below.trans (by assumption) (Below.mono hb3 (Below.size (by assumption)))))
   have hbox5:=hboxp.below hacc hszp
   have HB5r:=Lib.hid (HBp.out.trans (hacc.mono HBp.out.size))
   have HACC:=Lib.hid hacc
   clear hacc
   have c5q:=(HACC.out.cell (p:=⟨p,2,none⟩) hplp).trans c5p
   have d0q:=(HACC.out.cell (p:=⟨g2,(i)*2,none⟩) hg2p).trans d0p
   have d1q:=(HACC.out.cell (p:=⟨g2,(i)*2+1,none⟩) hg2p).trans d1p
   have b1q:=(HACC.out.cell (p:=⟨w.heap.size,1,none⟩) hszp).trans b1p
   have fbq:=hbox5.free 1
   generalize wr5=wr6 at*
   go_wp2
   go_region
   have hbox:Row (wr6.setCell ⟨w.heap.size,1,none⟩ (.int .i64 n2)).drew w.heap.size 106 [.int .i64 f,.int .i64 n2]:=(hbox5.set 1 (.int .i64 n2)).drewN 1
   have HBq:Hid (Below w.heap.size w (wr6.setCell ⟨w.heap.size,1,none⟩ (.int .i64 n2)).drew):=below_drewN (HB5r.out.setCell (p:=⟨w.heap.size,1,none⟩) (Nat.le_refl _) _) 1
   clear c5q d0q d1q b1q fbq HACC HB5r hbox5
   generalize(wr6.setCell ⟨w.heap.size,1,none⟩ (.int .i64 n2)).drew=wq at*
   go_wp2
   have HEQ:Hid (s.fr.take (i)++[(f,n2)]++s.fr.drop (i+1)=R):=by
    unfold Hid;rw[HR.out];unfold joinL;rw[touchL_f HTL.out,HTR.out]
    dsimp only;rw[HN2.out,HB2'.out]
   have hsz:w.heap.size<wq.heap.size:=hbox.lt
   have c5:wq.cell? ⟨p,2,none⟩=some (.slice (some ⟨g2,0,none⟩) N c):=(H.out.2.1.below HBq.out hpl).cell 2
   have b0:wq.cell? ⟨w.heap.size,0,none⟩=some (.int .i64 f):=hbox.cell 0
   have b1:wq.cell? ⟨w.heap.size,1,none⟩=some (.int .i64 n2):=hbox.cell 1
   have hplq:p<wq.heap.size:=by omega
   have HB5:∀W,W=wq.drew.alloc (.cells #[.int .i64 f,.int .i64 n2] 106)→Hid (Below w.heap.size w W):=fun W e=>by subst e;exact(below_drewN HBq.out 1).alloc (by have:=HBq.out.size;exact this) _
   have HREP:∀W,W=wq.drew.alloc (.cells #[.int .i64 f,.int .i64 n2] 106)→Hid (Calls Tryz.prog 115 #[.slice (some ⟨g2,0,none⟩) N c,.int .i64 ((i:Int)),.int .i64 ((i:Int)+1),.slice (some ⟨wq.heap.size,0,none⟩) 1 1] W (Got W (.slice (some ⟨g2,0,none⟩) N c) R)):=fun W e=>by
    have hov:=own2_below H.out.2.2.1 (HB5 W e).out
    rw[HN.out]at hov
    have hnew:Own2 W wq.heap.size 1 1 [(f,n2)] [.int .i64 f,.int .i64 n2]:=⟨by subst e;exact heap_alloc_new wq.drew _,rfl,Nat.le_refl _,by omega,rfl,rfl⟩
    have hrep:=replace_any W (i:=i) (j:=i+1) hov hnew.own (fun k hk e2=>by have h1:=(H.out.2.2.1.lt k hk).2;(have e3:wq.heap.size=k:=by simpa [Value.ownBlock]using e2);omega) (by omega) (by omega) (by omega) (by omega)
    rw[HEQ.out]at hrep
    have ecast:((i:Nat):Int)=(i:Int):=by omega
    have ecast2:((i+1:Nat):Int)=(i:Int)+1:=by omega
    first|rw[ecast,ecast2]at hrep|rw[ecast]at hrep
    exact hrep
   have HREP:=HREP _ rfl
   have HB5:=HB5 _ rfl
   have HC:Hid (∀v' w6,Got (wq.drew.alloc (.cells #[.int .i64 f,.int .i64 n2] 106)) (.slice (some ⟨g2,0,none⟩) N c) R (.returned v') w6→∃G',Spc (w6.setCell ⟨p,2,none⟩ v') G' p {s with fr:=R}∧Far G w (w6.setCell ⟨p,2,none⟩ v')∧∀k,G' k→G k∨w.heap.size≤k):=fun v' w6 hg=>spc_put H.out HB5.out hg HOK.out
   clear HTR rt rt2 rt3 ri0 ri1 rg rgn c5p b0p b1p hplp hg2p hszp d0p d1p hd0 hd1 HE2 HU2 HA2 HB2' hbn2 hg2
   have HC2:Hid (∀v' w6,Got (wq.drew.alloc (.cells #[.int .i64 f,.int .i64 n2] 106)) (.slice (some ⟨g2,0,none⟩) N c) R (.returned v') w6→w6.cell? ⟨p,2,none⟩=some (.slice (some ⟨g2,0,none⟩) N c)∧w6.frozen? ⟨p,2,none⟩=false):=fun v' w6 hg=>by have:=spc_stays H.out HB5.out hg;exact⟨this.cell 2,this.free 2⟩
   go_wp2
   go_region_with (go_at_call 115;refine HREP.out.mono ?_;rintro e w6 hg;obtain⟨v',rfl,hg1,hg2,hg3⟩:=id hg;have HX:=Lib.hid (HC.out v' w6 hg);obtain⟨c6,f6⟩:=HC2.out v' w6 hg;obtain⟨A',c',rfl,_,_,_⟩:=own2_form hg1;clear hg hg1 hg2 hg3)
   all_goals(go_wp2;go_end0;obtain⟨G',h1,h2,h3⟩:=HX.out;exact⟨G',rfl,h1,h2,h3⟩)
  ·have rt:decide (a2=u2)=false:=by simp;omega
   have rt2:(a2==u2)=false:=by simp;omega
   have rt3:((a2:Int)==(u2:Int))=false:=by simp;omega
   have HTR:Hid (touchR s.fr (i) (f+n')=false):=touchR_f fun _=>by rw[HA2.out];have:=HU2.out;have:=HFE.out;omega
   go_wp2
   go_region_held3 (fun w'=>Below wp.heap.size wp w'∧w'.cell? ⟨p,2,none⟩=some (.slice (some ⟨g2,0,none⟩) N c)∧w'.cell? ⟨w.heap.size,0,none⟩=some (.int .i64 f)∧w'.cell? ⟨w.heap.size,1,none⟩=some (.int .i64 n')∧w'.cell? ⟨g2,(i)*2,none⟩=some (.int .i64 a2)∧w'.cell? ⟨g2,(i)*2+1,none⟩=some (.int .i64 b2))
    (first
     |(exact⟨below_drewN (Below.refl _ _) 1,c5p,b0p,b1p,d0p,d1p⟩)
     |(exact⟨hacc,(hacc.cell hplp).trans c5p,(hacc.cell hszp).trans b0p,(hacc.cell hszp).trans b1p,(hacc.cell hg2p).trans d0p,(hacc.cell hg2p).trans d1p⟩))
    ((go_split_ands;go_at_call 101;(with_reducible refine(HE2.out _).mono ?_);rintro e wr5 ⟨rfl,hb3⟩;have hacc:Below wp.heap.size wp wr5:=Below.trans (by assumption) (Below.mono hb3 (Below.size (by assumption)))))
   have hbox5:=hboxp.below hacc hszp
   have HB5r:=Lib.hid (HBp.out.trans (hacc.mono HBp.out.size))
   have HACC:=Lib.hid hacc
   clear hacc
   generalize wr5=wq at*
   have HBq:=HB5r
   have hbox:=hbox5
   go_wp2
   have HEQ:Hid (s.fr.take (i)++[(f,n')]++s.fr.drop (i)=R):=by
    unfold Hid;rw[HR.out];unfold joinL;rw[touchL_f HTL.out,HTR.out]
   have hsz:w.heap.size<wq.heap.size:=hbox.lt
   have c5:wq.cell? ⟨p,2,none⟩=some (.slice (some ⟨g2,0,none⟩) N c):=(H.out.2.1.below HBq.out hpl).cell 2
   have b0:wq.cell? ⟨w.heap.size,0,none⟩=some (.int .i64 f):=hbox.cell 0
   have b1:wq.cell? ⟨w.heap.size,1,none⟩=some (.int .i64 n'):=hbox.cell 1
   have hplq:p<wq.heap.size:=by omega
   have HB5:∀W,W=wq.drew.alloc (.cells #[.int .i64 f,.int .i64 n'] 106)→Hid (Below w.heap.size w W):=fun W e=>by subst e;exact(below_drewN HBq.out 1).alloc (by have:=HBq.out.size;exact this) _
   have HREP:∀W,W=wq.drew.alloc (.cells #[.int .i64 f,.int .i64 n'] 106)→Hid (Calls Tryz.prog 115 #[.slice (some ⟨g2,0,none⟩) N c,.int .i64 ((i:Int)),.int .i64 ((i:Int)),.slice (some ⟨wq.heap.size,0,none⟩) 1 1] W (Got W (.slice (some ⟨g2,0,none⟩) N c) R)):=fun W e=>by
    have hov:=own2_below H.out.2.2.1 (HB5 W e).out
    rw[HN.out]at hov
    have hnew:Own2 W wq.heap.size 1 1 [(f,n')] [.int .i64 f,.int .i64 n']:=⟨by subst e;exact heap_alloc_new wq.drew _,rfl,Nat.le_refl _,by omega,rfl,rfl⟩
    have hrep:=replace_any W (i:=i) (j:=i) hov hnew.own (fun k hk e2=>by have h1:=(H.out.2.2.1.lt k hk).2;(have e3:wq.heap.size=k:=by simpa [Value.ownBlock]using e2);omega) (by omega) (by omega) (by omega) (by omega)
    rw[HEQ.out]at hrep
    have ecast:((i:Nat):Int)=(i:Int):=by omega
    have ecast2:((i:Nat):Int)=(i:Int):=by omega
    first|rw[ecast,ecast2]at hrep|rw[ecast]at hrep
    exact hrep
   have HREP:=HREP _ rfl
   have HB5:=HB5 _ rfl
   have HC:Hid (∀v' w6,Got (wq.drew.alloc (.cells #[.int .i64 f,.int .i64 n'] 106)) (.slice (some ⟨g2,0,none⟩) N c) R (.returned v') w6→∃G',Spc (w6.setCell ⟨p,2,none⟩ v') G' p {s with fr:=R}∧Far G w (w6.setCell ⟨p,2,none⟩ v')∧∀k,G' k→G k∨w.heap.size≤k):=fun v' w6 hg=>spc_put H.out HB5.out hg HOK.out
   clear HTR rt rt2 rt3 ri0 ri1 rg rgn c5p b0p b1p hplp hg2p hszp d0p d1p hd0 hd1 HE2 HU2 HA2 HB2' hbn2 hg2
   have HC2:Hid (∀v' w6,Got (wq.drew.alloc (.cells #[.int .i64 f,.int .i64 n'] 106)) (.slice (some ⟨g2,0,none⟩) N c) R (.returned v') w6→w6.cell? ⟨p,2,none⟩=some (.slice (some ⟨g2,0,none⟩) N c)∧w6.frozen? ⟨p,2,none⟩=false):=fun v' w6 hg=>by have:=spc_stays H.out HB5.out hg;exact⟨this.cell 2,this.free 2⟩
   go_wp2
   go_region_with (go_at_call 115;refine HREP.out.mono ?_;rintro e w6 hg;obtain⟨v',rfl,hg1,hg2,hg3⟩:=id hg;have HX:=Lib.hid (HC.out v' w6 hg);obtain⟨c6,f6⟩:=HC2.out v' w6 hg;obtain⟨A',c',rfl,_,_,_⟩:=own2_form hg1;clear hg hg1 hg2 hg3)
   all_goals(go_wp2;go_end0;obtain⟨G',h1,h2,h3⟩:=HX.out;exact⟨G',rfl,h1,h2,h3⟩)
 ·have rg:decide (((i:Int):Int)<(N:Int))=false:=by simp;omega
  have rgn:decide (i<N)=false:=by simp;omega
  have HTR:Hid (touchR s.fr (i) (f+n')=false):=touchR_f fun hh=>by rw[HN.out]at hh;omega
  have c5p:wp.cell? ⟨p,2,none⟩=some (.slice A N c):=(H.out.2.1.below HBp.out hpl).cell 2
  have hplp:p<wp.heap.size:=by have:=hboxp.lt;omega
  go_quiet (fail)
  have hbox:=hboxp.drewN nq
  have HBq:Hid (Below w.heap.size w (wp.drewN nq)):=below_drewN HBp.out nq
  generalize wp.drewN nq=wq at*
  go_wp2
  have HEQ:Hid (s.fr.take (i)++[(f,n')]++s.fr.drop (i)=R):=by
   unfold Hid;rw[HR.out];unfold joinL;rw[touchL_f HTL.out,HTR.out]
  have hsz:w.heap.size<wq.heap.size:=hbox.lt
  have c5:wq.cell? ⟨p,2,none⟩=some (.slice A N c):=(H.out.2.1.below HBq.out hpl).cell 2
  have b0:wq.cell? ⟨w.heap.size,0,none⟩=some (.int .i64 f):=hbox.cell 0
  have b1:wq.cell? ⟨w.heap.size,1,none⟩=some (.int .i64 n'):=hbox.cell 1
  have hplq:p<wq.heap.size:=by omega
  have HB5:∀W,W=wq.drew.alloc (.cells #[.int .i64 f,.int .i64 n'] 106)→Hid (Below w.heap.size w W):=fun W e=>by subst e;exact(below_drewN HBq.out 1).alloc (by have:=HBq.out.size;exact this) _
  have HREP:∀W,W=wq.drew.alloc (.cells #[.int .i64 f,.int .i64 n'] 106)→Hid (Calls Tryz.prog 115 #[.slice A N c,.int .i64 ((i:Int)),.int .i64 ((i:Int)),.slice (some ⟨wq.heap.size,0,none⟩) 1 1] W (Got W (.slice A N c) R)):=fun W e=>by
   have hov:=own2_below H.out.2.2.1 (HB5 W e).out
   rw[HN.out]at hov
   have hnew:Own2 W wq.heap.size 1 1 [(f,n')] [.int .i64 f,.int .i64 n']:=⟨by subst e;exact heap_alloc_new wq.drew _,rfl,Nat.le_refl _,by omega,rfl,rfl⟩
   have hrep:=replace_any W (i:=i) (j:=i) hov hnew.own (fun k hk e2=>by have h1:=(H.out.2.2.1.lt k hk).2;(have e3:wq.heap.size=k:=by simpa [Value.ownBlock]using e2);omega) (by omega) (by omega) (by omega) (by omega)
   rw[HEQ.out]at hrep
   have ecast:((i:Nat):Int)=(i:Int):=by omega
   have ecast2:((i:Nat):Int)=(i:Int):=by omega
   first|rw[ecast,ecast2]at hrep|rw[ecast]at hrep
   exact hrep
  have HREP:=HREP _ rfl
  have HB5:=HB5 _ rfl
  have HC:Hid (∀v' w6,Got (wq.drew.alloc (.cells #[.int .i64 f,.int .i64 n'] 106)) (.slice A N c) R (.returned v') w6→∃G',Spc (w6.setCell ⟨p,2,none⟩ v') G' p {s with fr:=R}∧Far G w (w6.setCell ⟨p,2,none⟩ v')∧∀k,G' k→G k∨w.heap.size≤k):=fun v' w6 hg=>spc_put H.out HB5.out hg HOK.out
  have HC2:Hid (∀v' w6,Got (wq.drew.alloc (.cells #[.int .i64 f,.int .i64 n'] 106)) (.slice A N c) R (.returned v') w6→w6.cell? ⟨p,2,none⟩=some (.slice A N c)∧w6.frozen? ⟨p,2,none⟩=false):=fun v' w6 hg=>by have:=spc_stays H.out HB5.out hg;exact⟨this.cell 2,this.free 2⟩
  go_wp2
  go_region_with (go_at_call 115;refine HREP.out.mono ?_;rintro e w6 hg;obtain⟨v',rfl,hg1,hg2,hg3⟩:=id hg;have HX:=Lib.hid (HC.out v' w6 hg);obtain⟨c6,f6⟩:=HC2.out v' w6 hg;obtain⟨A',c',rfl,_,_,_⟩:=own2_form hg1;clear hg hg1 hg2 hg3)
  all_goals(go_wp2;go_end0;obtain⟨G',h1,h2,h3⟩:=HX.out;exact⟨G',rfl,h1,h2,h3⟩)
theorem join_l1(p:Nat)(s:Sp)(G:Nat→Prop)(i f n':Nat)(w:World)(h:Spc w G p s)(hi:i=nextI s.fr f)(h1:s.first≤f)(h2:f+n'≤s.first+s.blocks)(hn:1≤n')(hno:∀b,f≤b→b<f+n'→¬hasB s.fr b)(hl0:0<i)(hlt0:(xAt s.fr (i-1)).1+(xAt s.fr (i-1)).2≠f):
  Calls Tryz.prog 102 #[.pointer (some ⟨p,0,none⟩),.int .i64 i,.agg #[.int .i64 f,.int .i64 n']] w fun e w'=>∃G',e=.returned (.tuple #[])∧Spc w' G' p {s with fr:=joinL s.fr i f n'}∧Far G w w'∧∀k,G' k→G k∨w.heap.size≤k:=by
 obtain⟨hok,v,hr,ho,hG⟩:=h
 have hspec:=join_spec hok.2.2 hn h1 h2 hno
 rw[←hi]at hspec
 have hiN:i≤s.fr.length:=by rw[hi];exact List.findIdx_le_length
 clear hi hno
 have hhi:s.first+s.blocks≤2000000:=by have:=hok.1;have:=hok.2.1;omega
 have hbnd:∀k,k<s.fr.length→(xAt s.fr k).1+(xAt s.fr k).2≤2000000:=fun k hk=>by have:=hok.2.2.getD hk;omega
 obtain⟨A,c,rfl,hnc,hcm,_⟩:=own2_form ho
 have hlen:=hok.len
 have c2:w.cell? ⟨p,2,none⟩=some (.slice A s.fr.length c):=hr.cell 2
 have hpl:=hr.lt
 have hok0:=hok
 have hat:∀k,k<s.fr.length→∃g,A=some ⟨g,0,none⟩∧g<w.heap.size∧w.cell? ⟨g,k*2,none⟩=some (.int .i64 (xAt s.fr k).1)∧w.cell? ⟨g,k*2+1,none⟩=some (.int .i64 (xAt s.fr k).2):=fun k hk=>own2_at ho hk
 have HAT:=Lib.hid hat
 obtain⟨N,hN⟩:∃N,N=s.fr.length:=⟨_,rfl⟩
 have H0:SpV w G p s (.slice A N c):=by subst hN;exact⟨hok,hr,ho,hG⟩
 obtain⟨R,hR⟩:∃R,R=joinL s.fr i f n':=⟨_,rfl⟩
 have HOK:Hid (({s with fr:=R}:Sp).ok):=by rw[hR];exact⟨hok.1,hok.2.1,hspec.1⟩
 rw[←hR]
 have HR:=Lib.hid hR
 have H:=Lib.hid H0
 have HN:Hid (s.fr.length=N):=hN.symm
 have HBND:=Lib.hid hbnd
 rw[←hN]at c2 hlen hiN
 have hf4:f+n'≤2000000:=by omega
 have HB0:Hid (Below w.heap.size w (w.alloc (.cells #[.int .i64 f,.int .i64 n'] 106))):=(Below.refl _ _).alloc (Nat.le_refl _) _
 clear hspec hok hr ho hG hat H0 hN hR hhi hbnd hok0 h1 h2
 obtain⟨j,rfl⟩:∃j,i=j+1:=⟨i-1,by omega⟩
 obtain⟨g0,rfl,hg0,lc0,lc1⟩:=HAT.out j (by rw[HN.out];omega)
 have hbn0:=HBND.out j (by rw[HN.out];omega)
 obtain⟨a0,ha0⟩:∃a0,(xAt s.fr j).1=a0:=⟨_,rfl⟩
 obtain⟨b0,hb0⟩:∃b0,(xAt s.fr j).2=b0:=⟨_,rfl⟩
 rw[ha0]at lc0
 rw[hb0]at lc1
 rw[ha0,hb0]at hbn0
 have HA0:=Lib.hid ha0
 have HB0':=Lib.hid hb0
 obtain⟨u0,hu0⟩:∃u0,a0+b0=u0:=⟨_,rfl⟩
 have HE0:Hid (∀W,Calls Tryz.prog 101 #[.agg #[.int .i64 a0,.int .i64 b0]] W fun e w'=>e=.returned (.int .i64 (u0:Nat))∧Below W.heap.size W w'):=fun W=>by have:=end_any a0 b0 W (by omega);rwa [hu0]at this
 have HU0:=Lib.hid hu0
 have hboxb:Row (w.alloc (.cells #[.int .i64 f,.int .i64 n'] 106)) w.heap.size 106 [.int .i64 f,.int .i64 n']:=heap_alloc_new _ _
 have lj0:(0:Int)≤(j:Int):=by omega
 have lj1:(j:Int)<(N:Int):=by omega
 have lw1:IntKind.i64.wrap ((j:Int)+1-1)=(j:Int):=by rw[show (j:Int)+1-1=j by omega];exact IntWalk.i64_in _ (by omega)
 have lw2:IntKind.i64.wrap (j:Int)=(j:Int):=IntWalk.i64_in _ (by omega)
 clear hu0 ha0 hb0
 have hlt:¬u0=f:=by rw[Nat.add_sub_cancel,HA0.out,HB0'.out,HU0.out]at hlt0;exact hlt0
 clear hlt0
 have lt1:decide (u0=f)=false:=by simp;omega
 have lt2:(u0==f)=false:=by simp;omega
 have lt3:((u0:Int)==(f:Int))=false:=by simp;omega
 have HTL:Hid (0<j+1→(xAt s.fr (j+1-1)).1+(xAt s.fr (j+1-1)).2≠f):=fun _=>by rw[Nat.add_sub_cancel,HA0.out,HB0'.out,HU0.out];exact hlt
 have HFE:Hid (f+n'=f+n'):=rfl
 go_enter Tryz.func102,Tryz.ntmps102
 go_wp2
 generalize w.alloc (.cells #[.int .i64 f,.int .i64 n'] 106)=wb at*
 have HBb:=HB0
 have c5b:wb.cell? ⟨p,2,none⟩=some (.slice (some ⟨g0,0,none⟩) N c):=(H.out.2.1.below HBb.out hpl).cell 2
 have b0b:wb.cell? ⟨w.heap.size,0,none⟩=some (.int .i64 f):=hboxb.cell 0
 have lc0b:=(HBb.out.cell (p:=⟨g0,j*2,none⟩) hg0).trans lc0
 have lc1b:=(HBb.out.cell (p:=⟨g0,j*2+1,none⟩) hg0).trans lc1
 have hszb:w.heap.size<wb.heap.size:=hboxb.lt
 have hplb:p<wb.heap.size:=by omega
 have hg0b:g0<wb.heap.size:=by omega
 go_region_held3 (fun w'=>Below wb.heap.size wb w'∧w'.cell? ⟨p,2,none⟩=some (.slice (some ⟨g0,0,none⟩) N c)∧w'.cell? ⟨w.heap.size,0,none⟩=some (.int .i64 f)∧w'.cell? ⟨g0,j*2,none⟩=some (.int .i64 a0)∧w'.cell? ⟨g0,j*2+1,none⟩=some (.int .i64 b0))
  (first
   |(exact⟨below_drewN (Below.refl _ _) 1,c5b,b0b,lc0b,lc1b⟩)
   |(exact⟨hacc,(hacc.cell hplb).trans c5b,(hacc.cell hszb).trans b0b,(hacc.cell hg0b).trans lc0b,(hacc.cell hg0b).trans lc1b⟩))
  ((go_split_ands;go_at_call 101;(with_reducible refine(HE0.out _).mono ?_);rintro e wr2 ⟨rfl,hb3⟩;have hacc:Below wb.heap.size wb wr2:=Below.trans (by assumption) (Below.mono hb3 (Below.size (by assumption)))))
 have hbox2:=hboxb.below hacc hszb
 have HB2r:=Lib.hid (HBb.out.trans (hacc.mono HBb.out.size))
 have HACC0:=Lib.hid hacc
 clear hacc
 generalize wr2=wp at*
 have hboxp:=hbox2
 have HBp:=HB2r
 clear HACC0 hbox2 HB2r c5b b0b lc0b lc1b hszb hplb hg0b hboxb HBb HB0 lt1 lt2 lt3 HE0 HU0 HA0 HB0' lc0 lc1
 go_wp2
 by_cases hrN:(j+1)<N
 ·obtain⟨g2,hA2,hg2,hd0,hd1⟩:=HAT.out ((j+1)) (by rw[HN.out];exact hrN)
  have hbn2:=HBND.out ((j+1)) (by rw[HN.out];exact hrN)
  obtain rfl:g2=g0:=by injection hA2 with hA2;injection hA2 with hA2;exact hA2.symm
  obtain⟨a2,ha2⟩:∃a2,(xAt s.fr ((j+1))).1=a2:=⟨_,rfl⟩
  obtain⟨b2,hb2⟩:∃b2,(xAt s.fr ((j+1))).2=b2:=⟨_,rfl⟩
  rw[ha2]at hd0
  rw[hb2]at hd1
  rw[ha2,hb2]at hbn2
  have HA2:=Lib.hid ha2
  have HB2':=Lib.hid hb2
  obtain⟨u2,hu2⟩:∃u2,f+n'=u2:=⟨_,rfl⟩
  have HE2:Hid (∀W,Calls Tryz.prog 101 #[.agg #[.int .i64 f,.int .i64 n']] W fun e w'=>e=.returned (.int .i64 (u2:Nat))∧Below W.heap.size W w'):=fun W=>by have:=end_any (f) (n') W (by omega);rwa [hu2]at this
  have HU2:=Lib.hid hu2
  have c5p:wp.cell? ⟨p,2,none⟩=some (.slice (some ⟨g2,0,none⟩) N c):=(H.out.2.1.below HBp.out hpl).cell 2
  have b0p:wp.cell? ⟨w.heap.size,0,none⟩=some (.int .i64 f):=hboxp.cell 0
  have b1p:wp.cell? ⟨w.heap.size,1,none⟩=some (.int .i64 n'):=hboxp.cell 1
  have d0p:=(HBp.out.cell (p:=⟨g2,((j+1))*2,none⟩) hg2).trans hd0
  have d1p:=(HBp.out.cell (p:=⟨g2,((j+1))*2+1,none⟩) hg2).trans hd1
  have hszp:w.heap.size<wp.heap.size:=hboxp.lt
  have hplp:p<wp.heap.size:=by omega
  have hg2p:g2<wp.heap.size:=by omega
  have ri1:((j:Int)+1:Int)<(N:Int):=by omega
  have ri0:(0:Int)≤((j:Int)+1:Int):=by omega
  have rg:decide (((j:Int)+1:Int)<(N:Int))=true:=by simp;omega
  have rgn:decide ((j+1)<N)=true:=by simp;omega
  clear hu2 ha2 hb2
  by_cases hrt:a2=u2
  ·have rt:decide (a2=u2)=true:=by simp;omega
   have rt2:(a2==u2)=true:=by simp;omega
   have rt3:((a2:Int)==(u2:Int))=true:=by simp;omega
   obtain⟨n2,hn2⟩:∃n2,n2=n'+b2:=⟨_,rfl⟩
   have hadd2:(n':Int)+(b2:Int)=(n2:Int):=by omega
   have hw2:IntKind.i64.wrap (n2:Int)=(n2:Int):=IntWalk.i64_in _ (by omega)
   have hwi:IntKind.i64.wrap (((j:Int)+1:Int)+1)=((j:Int)+1:Int)+1:=IntWalk.i64_in _ (by omega)
   have HTR:Hid (touchR s.fr ((j+1)) (f+n')=true):=touchR_t (by rw[HN.out];exact hrN) (by rw[HA2.out];have:=HU2.out;have:=HFE.out;omega)
   have HN2:=Lib.hid hn2
   clear hn2
   go_region_held3 (fun w'=>Below wp.heap.size wp w'∧w'.cell? ⟨p,2,none⟩=some (.slice (some ⟨g2,0,none⟩) N c)∧w'.cell? ⟨w.heap.size,0,none⟩=some (.int .i64 f)∧w'.cell? ⟨w.heap.size,1,none⟩=some (.int .i64 n')∧w'.cell? ⟨g2,((j+1))*2,none⟩=some (.int .i64 a2)∧w'.cell? ⟨g2,((j+1))*2+1,none⟩=some (.int .i64 b2))
    (first
     |(exact⟨below_drewN (Below.refl _ _) 1,c5p,b0p,b1p,d0p,d1p⟩)
     |(exact⟨hacc,(hacc.cell hplp).trans c5p,(hacc.cell hszp).trans b0p,(hacc.cell hszp).trans b1p,(hacc.cell hg2p).trans d0p,(hacc.cell hg2p).trans d1p⟩))
    ((go_split_ands;go_at_call 101;(with_reducible refine(HE2.out _).mono ?_);rintro e wr5 ⟨rfl,hb3⟩;have hacc:Below wp.heap.size wp wr5:=Below.trans (by assumption) (Below.mono hb3 (Below.size (by assumption)))))
   have hbox5:=hboxp.below hacc hszp
   have HB5r:=Lib.hid (HBp.out.trans (hacc.mono HBp.out.size))
   have HACC:=Lib.hid hacc
   clear hacc
   have c5q:=(HACC.out.cell (p:=⟨p,2,none⟩) hplp).trans c5p
   have d0q:=(HACC.out.cell (p:=⟨g2,((j+1))*2,none⟩) hg2p).trans d0p
   have d1q:=(HACC.out.cell (p:=⟨g2,((j+1))*2+1,none⟩) hg2p).trans d1p
   have b1q:=(HACC.out.cell (p:=⟨w.heap.size,1,none⟩) hszp).trans b1p
   have fbq:=hbox5.free 1
   generalize wr5=wr6 at*
   go_wp2
   go_region
   have hbox:Row (wr6.setCell ⟨w.heap.size,1,none⟩ (.int .i64 n2)).drew w.heap.size 106 [.int .i64 f,.int .i64 n2]:=(hbox5.set 1 (.int .i64 n2)).drewN 1
   have HBq:Hid (Below w.heap.size w (wr6.setCell ⟨w.heap.size,1,none⟩ (.int .i64 n2)).drew):=below_drewN (HB5r.out.setCell (p:=⟨w.heap.size,1,none⟩) (Nat.le_refl _) _) 1
   clear c5q d0q d1q b1q fbq HACC HB5r hbox5
   generalize(wr6.setCell ⟨w.heap.size,1,none⟩ (.int .i64 n2)).drew=wq at*
   go_wp2
   have HEQ:Hid (s.fr.take ((j+1))++[(f,n2)]++s.fr.drop ((j+1)+1)=R):=by
    unfold Hid;rw[HR.out];unfold joinL;rw[touchL_f HTL.out,HTR.out]
    dsimp only;rw[HN2.out,HB2'.out]
   have hsz:w.heap.size<wq.heap.size:=hbox.lt
   have c5:wq.cell? ⟨p,2,none⟩=some (.slice (some ⟨g2,0,none⟩) N c):=(H.out.2.1.below HBq.out hpl).cell 2
   have b0:wq.cell? ⟨w.heap.size,0,none⟩=some (.int .i64 f):=hbox.cell 0
   have b1:wq.cell? ⟨w.heap.size,1,none⟩=some (.int .i64 n2):=hbox.cell 1
   have hplq:p<wq.heap.size:=by omega
   have HB5:∀W,W=wq.drew.alloc (.cells #[.int .i64 f,.int .i64 n2] 106)→Hid (Below w.heap.size w W):=fun W e=>by subst e;exact(below_drewN HBq.out 1).alloc (by have:=HBq.out.size;exact this) _
   have HREP:∀W,W=wq.drew.alloc (.cells #[.int .i64 f,.int .i64 n2] 106)→Hid (Calls Tryz.prog 115 #[.slice (some ⟨g2,0,none⟩) N c,.int .i64 ((j:Int)+1),.int .i64 ((j:Int)+1+1),.slice (some ⟨wq.heap.size,0,none⟩) 1 1] W (Got W (.slice (some ⟨g2,0,none⟩) N c) R)):=fun W e=>by
    have hov:=own2_below H.out.2.2.1 (HB5 W e).out
    rw[HN.out]at hov
    have hnew:Own2 W wq.heap.size 1 1 [(f,n2)] [.int .i64 f,.int .i64 n2]:=⟨by subst e;exact heap_alloc_new wq.drew _,rfl,Nat.le_refl _,by omega,rfl,rfl⟩
    have hrep:=replace_any W (i:=(j+1)) (j:=(j+1)+1) hov hnew.own (fun k hk e2=>by have h1:=(H.out.2.2.1.lt k hk).2;(have e3:wq.heap.size=k:=by simpa [Value.ownBlock]using e2);omega) (by omega) (by omega) (by omega) (by omega)
    rw[HEQ.out]at hrep
    have ecast:(((j+1):Nat):Int)=(j:Int)+1:=by omega
    have ecast2:(((j+1)+1:Nat):Int)=(j:Int)+1+1:=by omega
    first|rw[ecast,ecast2]at hrep|rw[ecast]at hrep
    exact hrep
   have HREP:=HREP _ rfl
   have HB5:=HB5 _ rfl
   have HC:Hid (∀v' w6,Got (wq.drew.alloc (.cells #[.int .i64 f,.int .i64 n2] 106)) (.slice (some ⟨g2,0,none⟩) N c) R (.returned v') w6→∃G',Spc (w6.setCell ⟨p,2,none⟩ v') G' p {s with fr:=R}∧Far G w (w6.setCell ⟨p,2,none⟩ v')∧∀k,G' k→G k∨w.heap.size≤k):=fun v' w6 hg=>spc_put H.out HB5.out hg HOK.out
   clear HTR rt rt2 rt3 ri0 ri1 rg rgn c5p b0p b1p hplp hg2p hszp d0p d1p hd0 hd1 HE2 HU2 HA2 HB2' hbn2 hg2
   have HC2:Hid (∀v' w6,Got (wq.drew.alloc (.cells #[.int .i64 f,.int .i64 n2] 106)) (.slice (some ⟨g2,0,none⟩) N c) R (.returned v') w6→w6.cell? ⟨p,2,none⟩=some (.slice (some ⟨g2,0,none⟩) N c)∧w6.frozen? ⟨p,2,none⟩=false):=fun v' w6 hg=>by have:=spc_stays H.out HB5.out hg;exact⟨this.cell 2,this.free 2⟩
   go_wp2
   go_region_with (go_at_call 115;refine HREP.out.mono ?_;rintro e w6 hg;obtain⟨v',rfl,hg1,hg2,hg3⟩:=id hg;have HX:=Lib.hid (HC.out v' w6 hg);obtain⟨c6,f6⟩:=HC2.out v' w6 hg;obtain⟨A',c',rfl,_,_,_⟩:=own2_form hg1;clear hg hg1 hg2 hg3)
   all_goals(go_wp2;go_end0;obtain⟨G',h1,h2,h3⟩:=HX.out;exact⟨G',rfl,h1,h2,h3⟩)
  ·have rt:decide (a2=u2)=false:=by simp;omega
   have rt2:(a2==u2)=false:=by simp;omega
   have rt3:((a2:Int)==(u2:Int))=false:=by simp;omega
   have HTR:Hid (touchR s.fr ((j+1)) (f+n')=false):=touchR_f fun _=>by rw[HA2.out];have:=HU2.out;have:=HFE.out;omega
   go_wp2
   go_region_held3 (fun w'=>Below wp.heap.size wp w'∧w'.cell? ⟨p,2,none⟩=some (.slice (some ⟨g2,0,none⟩) N c)∧w'.cell? ⟨w.heap.size,0,none⟩=some (.int .i64 f)∧w'.cell? ⟨w.heap.size,1,none⟩=some (.int .i64 n')∧w'.cell? ⟨g2,((j+1))*2,none⟩=some (.int .i64 a2)∧w'.cell? ⟨g2,((j+1))*2+1,none⟩=some (.int .i64 b2))
    (first
     |(exact⟨below_drewN (Below.refl _ _) 1,c5p,b0p,b1p,d0p,d1p⟩)
     |(exact⟨hacc,(hacc.cell hplp).trans c5p,(hacc.cell hszp).trans b0p,(hacc.cell hszp).trans b1p,(hacc.cell hg2p).trans d0p,(hacc.cell hg2p).trans d1p⟩))
    ((go_split_ands;go_at_call 101;(with_reducible refine(HE2.out _).mono ?_);rintro e wr5 ⟨rfl,hb3⟩;have hacc:Below wp.heap.size wp wr5:=Below.trans (by assumption) (Below.mono hb3 (Below.size (by assumption)))))
   have hbox5:=hboxp.below hacc hszp
   have HB5r:=Lib.hid (HBp.out.trans (hacc.mono HBp.out.size))
   have HACC:=Lib.hid hacc
   clear hacc
   generalize wr5=wq at*
   have HBq:=HB5r
   have hbox:=hbox5
   go_wp2
   have HEQ:Hid (s.fr.take ((j+1))++[(f,n')]++s.fr.drop ((j+1))=R):=by
    unfold Hid;rw[HR.out];unfold joinL;rw[touchL_f HTL.out,HTR.out]
   have hsz:w.heap.size<wq.heap.size:=hbox.lt
   have c5:wq.cell? ⟨p,2,none⟩=some (.slice (some ⟨g2,0,none⟩) N c):=(H.out.2.1.below HBq.out hpl).cell 2
   have b0:wq.cell? ⟨w.heap.size,0,none⟩=some (.int .i64 f):=hbox.cell 0
   have b1:wq.cell? ⟨w.heap.size,1,none⟩=some (.int .i64 n'):=hbox.cell 1
   have hplq:p<wq.heap.size:=by omega
   have HB5:∀W,W=wq.drew.alloc (.cells #[.int .i64 f,.int .i64 n'] 106)→Hid (Below w.heap.size w W):=fun W e=>by subst e;exact(below_drewN HBq.out 1).alloc (by have:=HBq.out.size;exact this) _
   have HREP:∀W,W=wq.drew.alloc (.cells #[.int .i64 f,.int .i64 n'] 106)→Hid (Calls Tryz.prog 115 #[.slice (some ⟨g2,0,none⟩) N c,.int .i64 ((j:Int)+1),.int .i64 ((j:Int)+1),.slice (some ⟨wq.heap.size,0,none⟩) 1 1] W (Got W (.slice (some ⟨g2,0,none⟩) N c) R)):=fun W e=>by
    have hov:=own2_below H.out.2.2.1 (HB5 W e).out
    rw[HN.out]at hov
    have hnew:Own2 W wq.heap.size 1 1 [(f,n')] [.int .i64 f,.int .i64 n']:=⟨by subst e;exact heap_alloc_new wq.drew _,rfl,Nat.le_refl _,by omega,rfl,rfl⟩
    have hrep:=replace_any W (i:=(j+1)) (j:=(j+1)) hov hnew.own (fun k hk e2=>by have h1:=(H.out.2.2.1.lt k hk).2;(have e3:wq.heap.size=k:=by simpa [Value.ownBlock]using e2);omega) (by omega) (by omega) (by omega) (by omega)
    rw[HEQ.out]at hrep
    have ecast:(((j+1):Nat):Int)=(j:Int)+1:=by omega
    have ecast2:(((j+1):Nat):Int)=(j:Int)+1:=by omega
    first|rw[ecast,ecast2]at hrep|rw[ecast]at hrep
    exact hrep
   have HREP:=HREP _ rfl
   have HB5:=HB5 _ rfl
   have HC:Hid (∀v' w6,Got (wq.drew.alloc (.cells #[.int .i64 f,.int .i64 n'] 106)) (.slice (some ⟨g2,0,none⟩) N c) R (.returned v') w6→∃G',Spc (w6.setCell ⟨p,2,none⟩ v') G' p {s with fr:=R}∧Far G w (w6.setCell ⟨p,2,none⟩ v')∧∀k,G' k→G k∨w.heap.size≤k):=fun v' w6 hg=>spc_put H.out HB5.out hg HOK.out
   clear HTR rt rt2 rt3 ri0 ri1 rg rgn c5p b0p b1p hplp hg2p hszp d0p d1p hd0 hd1 HE2 HU2 HA2 HB2' hbn2 hg2
   have HC2:Hid (∀v' w6,Got (wq.drew.alloc (.cells #[.int .i64 f,.int .i64 n'] 106)) (.slice (some ⟨g2,0,none⟩) N c) R (.returned v') w6→w6.cell? ⟨p,2,none⟩=some (.slice (some ⟨g2,0,none⟩) N c)∧w6.frozen? ⟨p,2,none⟩=false):=fun v' w6 hg=>by have:=spc_stays H.out HB5.out hg;exact⟨this.cell 2,this.free 2⟩
   go_wp2
   go_region_with (go_at_call 115;refine HREP.out.mono ?_;rintro e w6 hg;obtain⟨v',rfl,hg1,hg2,hg3⟩:=id hg;have HX:=Lib.hid (HC.out v' w6 hg);obtain⟨c6,f6⟩:=HC2.out v' w6 hg;obtain⟨A',c',rfl,_,_,_⟩:=own2_form hg1;clear hg hg1 hg2 hg3)
   all_goals(go_wp2;go_end0;obtain⟨G',h1,h2,h3⟩:=HX.out;exact⟨G',rfl,h1,h2,h3⟩)
 ·have rg:decide (((j:Int)+1:Int)<(N:Int))=false:=by simp;omega
  have rgn:decide ((j+1)<N)=false:=by simp;omega
  have HTR:Hid (touchR s.fr ((j+1)) (f+n')=false):=touchR_f fun hh=>by rw[HN.out]at hh;omega
  have c5p:wp.cell? ⟨p,2,none⟩=some (.slice (some ⟨g0,0,none⟩) N c):=(H.out.2.1.below HBp.out hpl).cell 2
  have hplp:p<wp.heap.size:=by have:=hboxp.lt;omega
  go_quiet (fail)
  have hbox:=hboxp.drewN nq
  have HBq:Hid (Below w.heap.size w (wp.drewN nq)):=below_drewN HBp.out nq
  generalize wp.drewN nq=wq at*
  go_wp2
  have HEQ:Hid (s.fr.take ((j+1))++[(f,n')]++s.fr.drop ((j+1))=R):=by
   unfold Hid;rw[HR.out];unfold joinL;rw[touchL_f HTL.out,HTR.out]
  have hsz:w.heap.size<wq.heap.size:=hbox.lt
  have c5:wq.cell? ⟨p,2,none⟩=some (.slice (some ⟨g0,0,none⟩) N c):=(H.out.2.1.below HBq.out hpl).cell 2
  have b0:wq.cell? ⟨w.heap.size,0,none⟩=some (.int .i64 f):=hbox.cell 0
  have b1:wq.cell? ⟨w.heap.size,1,none⟩=some (.int .i64 n'):=hbox.cell 1
  have hplq:p<wq.heap.size:=by omega
  have HB5:∀W,W=wq.drew.alloc (.cells #[.int .i64 f,.int .i64 n'] 106)→Hid (Below w.heap.size w W):=fun W e=>by subst e;exact(below_drewN HBq.out 1).alloc (by have:=HBq.out.size;exact this) _
  have HREP:∀W,W=wq.drew.alloc (.cells #[.int .i64 f,.int .i64 n'] 106)→Hid (Calls Tryz.prog 115 #[.slice (some ⟨g0,0,none⟩) N c,.int .i64 ((j:Int)+1),.int .i64 ((j:Int)+1),.slice (some ⟨wq.heap.size,0,none⟩) 1 1] W (Got W (.slice (some ⟨g0,0,none⟩) N c) R)):=fun W e=>by
   have hov:=own2_below H.out.2.2.1 (HB5 W e).out
   rw[HN.out]at hov
   have hnew:Own2 W wq.heap.size 1 1 [(f,n')] [.int .i64 f,.int .i64 n']:=⟨by subst e;exact heap_alloc_new wq.drew _,rfl,Nat.le_refl _,by omega,rfl,rfl⟩
   have hrep:=replace_any W (i:=(j+1)) (j:=(j+1)) hov hnew.own (fun k hk e2=>by have h1:=(H.out.2.2.1.lt k hk).2;(have e3:wq.heap.size=k:=by simpa [Value.ownBlock]using e2);omega) (by omega) (by omega) (by omega) (by omega)
   rw[HEQ.out]at hrep
   have ecast:(((j+1):Nat):Int)=(j:Int)+1:=by omega
   have ecast2:(((j+1):Nat):Int)=(j:Int)+1:=by omega
   first|rw[ecast,ecast2]at hrep|rw[ecast]at hrep
   exact hrep
  have HREP:=HREP _ rfl
  have HB5:=HB5 _ rfl
  have HC:Hid (∀v' w6,Got (wq.drew.alloc (.cells #[.int .i64 f,.int .i64 n'] 106)) (.slice (some ⟨g0,0,none⟩) N c) R (.returned v') w6→∃G',Spc (w6.setCell ⟨p,2,none⟩ v') G' p {s with fr:=R}∧Far G w (w6.setCell ⟨p,2,none⟩ v')∧∀k,G' k→G k∨w.heap.size≤k):=fun v' w6 hg=>spc_put H.out HB5.out hg HOK.out
  have HC2:Hid (∀v' w6,Got (wq.drew.alloc (.cells #[.int .i64 f,.int .i64 n'] 106)) (.slice (some ⟨g0,0,none⟩) N c) R (.returned v') w6→w6.cell? ⟨p,2,none⟩=some (.slice (some ⟨g0,0,none⟩) N c)∧w6.frozen? ⟨p,2,none⟩=false):=fun v' w6 hg=>by have:=spc_stays H.out HB5.out hg;exact⟨this.cell 2,this.free 2⟩
  go_wp2
  go_region_with (go_at_call 115;refine HREP.out.mono ?_;rintro e w6 hg;obtain⟨v',rfl,hg1,hg2,hg3⟩:=id hg;have HX:=Lib.hid (HC.out v' w6 hg);obtain⟨c6,f6⟩:=HC2.out v' w6 hg;obtain⟨A',c',rfl,_,_,_⟩:=own2_form hg1;clear hg hg1 hg2 hg3)
  all_goals(go_wp2;go_end0;obtain⟨G',h1,h2,h3⟩:=HX.out;exact⟨G',rfl,h1,h2,h3⟩)
theorem join_l2(p:Nat)(s:Sp)(G:Nat→Prop)(i f n':Nat)(w:World)(h:Spc w G p s)(hi:i=nextI s.fr f)(h1:s.first≤f)(h2:f+n'≤s.first+s.blocks)(hn:1≤n')(hno:∀b,f≤b→b<f+n'→¬hasB s.fr b)(hl0:0<i)(hlt0:(xAt s.fr (i-1)).1+(xAt s.fr (i-1)).2=f):
  Calls Tryz.prog 102 #[.pointer (some ⟨p,0,none⟩),.int .i64 i,.agg #[.int .i64 f,.int .i64 n']] w fun e w'=>∃G',e=.returned (.tuple #[])∧Spc w' G' p {s with fr:=joinL s.fr i f n'}∧Far G w w'∧∀k,G' k→G k∨w.heap.size≤k:=by
 obtain⟨hok,v,hr,ho,hG⟩:=h
 have hspec:=join_spec hok.2.2 hn h1 h2 hno
 rw[←hi]at hspec
 have hiN:i≤s.fr.length:=by rw[hi];exact List.findIdx_le_length
 clear hi hno
 have hhi:s.first+s.blocks≤2000000:=by have:=hok.1;have:=hok.2.1;omega
 have hbnd:∀k,k<s.fr.length→(xAt s.fr k).1+(xAt s.fr k).2≤2000000:=fun k hk=>by have:=hok.2.2.getD hk;omega
 obtain⟨A,c,rfl,hnc,hcm,_⟩:=own2_form ho
 have hlen:=hok.len
 have c2:w.cell? ⟨p,2,none⟩=some (.slice A s.fr.length c):=hr.cell 2
 have hpl:=hr.lt
 have hok0:=hok
 have hat:∀k,k<s.fr.length→∃g,A=some ⟨g,0,none⟩∧g<w.heap.size∧w.cell? ⟨g,k*2,none⟩=some (.int .i64 (xAt s.fr k).1)∧w.cell? ⟨g,k*2+1,none⟩=some (.int .i64 (xAt s.fr k).2):=fun k hk=>own2_at ho hk
 have HAT:=Lib.hid hat
 obtain⟨N,hN⟩:∃N,N=s.fr.length:=⟨_,rfl⟩
 have H0:SpV w G p s (.slice A N c):=by subst hN;exact⟨hok,hr,ho,hG⟩
 obtain⟨R,hR⟩:∃R,R=joinL s.fr i f n':=⟨_,rfl⟩
 have HOK:Hid (({s with fr:=R}:Sp).ok):=by rw[hR];exact⟨hok.1,hok.2.1,hspec.1⟩
 rw[←hR]
 have HR:=Lib.hid hR
 have H:=Lib.hid H0
 have HN:Hid (s.fr.length=N):=hN.symm
 have HBND:=Lib.hid hbnd
 rw[←hN]at c2 hlen hiN
 have hf4:f+n'≤2000000:=by omega
 have HB0:Hid (Below w.heap.size w (w.alloc (.cells #[.int .i64 f,.int .i64 n'] 106))):=(Below.refl _ _).alloc (Nat.le_refl _) _
 clear hspec hok hr ho hG hat H0 hN hR hhi hbnd hok0 h1 h2
 obtain⟨j,rfl⟩:∃j,i=j+1:=⟨i-1,by omega⟩
 obtain⟨g0,rfl,hg0,lc0,lc1⟩:=HAT.out j (by rw[HN.out];omega)
 have hbn0:=HBND.out j (by rw[HN.out];omega)
 obtain⟨a0,ha0⟩:∃a0,(xAt s.fr j).1=a0:=⟨_,rfl⟩
 obtain⟨b0,hb0⟩:∃b0,(xAt s.fr j).2=b0:=⟨_,rfl⟩
 rw[ha0]at lc0
 rw[hb0]at lc1
 rw[ha0,hb0]at hbn0
 have HA0:=Lib.hid ha0
 have HB0':=Lib.hid hb0
 obtain⟨u0,hu0⟩:∃u0,a0+b0=u0:=⟨_,rfl⟩
 have HE0:Hid (∀W,Calls Tryz.prog 101 #[.agg #[.int .i64 a0,.int .i64 b0]] W fun e w'=>e=.returned (.int .i64 (u0:Nat))∧Below W.heap.size W w'):=fun W=>by have:=end_any a0 b0 W (by omega);rwa [hu0]at this
 have HU0:=Lib.hid hu0
 have hboxb:Row (w.alloc (.cells #[.int .i64 f,.int .i64 n'] 106)) w.heap.size 106 [.int .i64 f,.int .i64 n']:=heap_alloc_new _ _
 have lj0:(0:Int)≤(j:Int):=by omega
 have lj1:(j:Int)<(N:Int):=by omega
 have lw1:IntKind.i64.wrap ((j:Int)+1-1)=(j:Int):=by rw[show (j:Int)+1-1=j by omega];exact IntWalk.i64_in _ (by omega)
 have lw2:IntKind.i64.wrap (j:Int)=(j:Int):=IntWalk.i64_in _ (by omega)
 clear hu0 ha0 hb0
 have hlt:u0=f:=by rw[Nat.add_sub_cancel,HA0.out,HB0'.out,HU0.out]at hlt0;exact hlt0
 clear hlt0
 have lt1:decide (u0=f)=true:=by simp;omega
 have lt2:(u0==f)=true:=by simp;omega
 have lt3:((u0:Int)==(f:Int))=true:=by simp;omega
 obtain⟨n1,hn1⟩:∃n1,n1=b0+n':=⟨_,rfl⟩
 have hadd1:(b0:Int)+(n':Int)=(n1:Int):=by omega
 have hw1:IntKind.i64.wrap (n1:Int)=(n1:Int):=IntWalk.i64_in _ (by have:=HU0.out;omega)
 have HTL:Hid ((xAt s.fr (j+1-1)).1+(xAt s.fr (j+1-1)).2=f):=by unfold Hid;rw[Nat.add_sub_cancel,HA0.out,HB0'.out,HU0.out];exact hlt
 have HLA:Hid ((xAt s.fr (j+1-1)).1=a0):=by unfold Hid;rw[Nat.add_sub_cancel];exact HA0.out
 have HLB:Hid ((xAt s.fr (j+1-1)).2+n'=n1):=by unfold Hid;rw[Nat.add_sub_cancel,HB0'.out];exact hn1.symm
 have HFE:Hid (f+n'=a0+n1):=by unfold Hid;have:=HU0.out;omega
 have hfn:a0+n1≤2000000:=by have:=HFE.out;omega
 clear hn1
 go_enter Tryz.func102,Tryz.ntmps102
 go_wp2
 generalize w.alloc (.cells #[.int .i64 f,.int .i64 n'] 106)=wb at*
 have HBb:=HB0
 have c5b:wb.cell? ⟨p,2,none⟩=some (.slice (some ⟨g0,0,none⟩) N c):=(H.out.2.1.below HBb.out hpl).cell 2
 have b0b:wb.cell? ⟨w.heap.size,0,none⟩=some (.int .i64 f):=hboxb.cell 0
 have lc0b:=(HBb.out.cell (p:=⟨g0,j*2,none⟩) hg0).trans lc0
 have lc1b:=(HBb.out.cell (p:=⟨g0,j*2+1,none⟩) hg0).trans lc1
 have hszb:w.heap.size<wb.heap.size:=hboxb.lt
 have hplb:p<wb.heap.size:=by omega
 have hg0b:g0<wb.heap.size:=by omega
 go_region_held3 (fun w'=>Below wb.heap.size wb w'∧w'.cell? ⟨p,2,none⟩=some (.slice (some ⟨g0,0,none⟩) N c)∧w'.cell? ⟨w.heap.size,0,none⟩=some (.int .i64 f)∧w'.cell? ⟨g0,j*2,none⟩=some (.int .i64 a0)∧w'.cell? ⟨g0,j*2+1,none⟩=some (.int .i64 b0))
  (first
   |(exact⟨below_drewN (Below.refl _ _) 1,c5b,b0b,lc0b,lc1b⟩)
   |(exact⟨hacc,(hacc.cell hplb).trans c5b,(hacc.cell hszb).trans b0b,(hacc.cell hg0b).trans lc0b,(hacc.cell hg0b).trans lc1b⟩))
  ((go_split_ands;go_at_call 101;(with_reducible refine(HE0.out _).mono ?_);rintro e wr2 ⟨rfl,hb3⟩;have hacc:Below wb.heap.size wb wr2:=Below.trans (by assumption) (Below.mono hb3 (Below.size (by assumption)))))
 have hbox2:=hboxb.below hacc hszb
 have HB2r:=Lib.hid (HBb.out.trans (hacc.mono HBb.out.size))
 have HACC0:=Lib.hid hacc
 clear hacc
 have c5q:=(HACC0.out.cell (p:=⟨p,2,none⟩) hplb).trans c5b
 have d0q:=(HACC0.out.cell (p:=⟨g0,j*2,none⟩) hg0b).trans lc0b
 have d1q:=(HACC0.out.cell (p:=⟨g0,j*2+1,none⟩) hg0b).trans lc1b
 have b1q:wr2.cell? ⟨w.heap.size,1,none⟩=some (.int .i64 n'):=hbox2.cell 1
 have b0q:wr2.cell? ⟨w.heap.size,0,none⟩=some (.int .i64 f):=hbox2.cell 0
 have fbq:=hbox2.free 1
 have fbq0:=hbox2.free 0
 generalize wr2=wr6 at*
 clear c5b b0b lc0b lc1b
 go_wp2
 go_region
 have hboxp:Row ((wr6.setCell ⟨w.heap.size,0,none⟩ (.int .i64 a0)).setCell ⟨w.heap.size,1,none⟩ (.int .i64 n1)).drew w.heap.size 106 [.int .i64 a0,.int .i64 n1]:=((hbox2.set 0 (.int .i64 a0)).set 1 (.int .i64 n1)).drewN 1
 have HBp:Hid (Below w.heap.size w ((wr6.setCell ⟨w.heap.size,0,none⟩ (.int .i64 a0)).setCell ⟨w.heap.size,1,none⟩ (.int .i64 n1)).drew):=below_drewN ((HB2r.out.setCell (p:=⟨w.heap.size,0,none⟩) (Nat.le_refl _) _).setCell (p:=⟨w.heap.size,1,none⟩) (Nat.le_refl _) _) 1
 clear c5q d0q d1q b1q b0q fbq fbq0 HACC0 hbox2 HB2r hszb hplb hg0b hboxb HBb HB0 lt1 lt2 lt3 HE0 HU0 HA0 HB0' lc0 lc1
 generalize((wr6.setCell ⟨w.heap.size,0,none⟩ (.int .i64 a0)).setCell ⟨w.heap.size,1,none⟩ (.int .i64 n1)).drew=wp at*
 go_wp2
 by_cases hrN:(j+1)<N
 ·obtain⟨g2,hA2,hg2,hd0,hd1⟩:=HAT.out ((j+1)) (by rw[HN.out];exact hrN)
  have hbn2:=HBND.out ((j+1)) (by rw[HN.out];exact hrN)
  obtain rfl:g2=g0:=by injection hA2 with hA2;injection hA2 with hA2;exact hA2.symm
  obtain⟨a2,ha2⟩:∃a2,(xAt s.fr ((j+1))).1=a2:=⟨_,rfl⟩
  obtain⟨b2,hb2⟩:∃b2,(xAt s.fr ((j+1))).2=b2:=⟨_,rfl⟩
  rw[ha2]at hd0
  rw[hb2]at hd1
  rw[ha2,hb2]at hbn2
  have HA2:=Lib.hid ha2
  have HB2':=Lib.hid hb2
  obtain⟨u2,hu2⟩:∃u2,a0+n1=u2:=⟨_,rfl⟩
  have HE2:Hid (∀W,Calls Tryz.prog 101 #[.agg #[.int .i64 a0,.int .i64 n1]] W fun e w'=>e=.returned (.int .i64 (u2:Nat))∧Below W.heap.size W w'):=fun W=>by have:=end_any (a0) (n1) W (by omega);rwa [hu2]at this
  have HU2:=Lib.hid hu2
  have c5p:wp.cell? ⟨p,2,none⟩=some (.slice (some ⟨g2,0,none⟩) N c):=(H.out.2.1.below HBp.out hpl).cell 2
  have b0p:wp.cell? ⟨w.heap.size,0,none⟩=some (.int .i64 a0):=hboxp.cell 0
  have b1p:wp.cell? ⟨w.heap.size,1,none⟩=some (.int .i64 n1):=hboxp.cell 1
  have d0p:=(HBp.out.cell (p:=⟨g2,((j+1))*2,none⟩) hg2).trans hd0
  have d1p:=(HBp.out.cell (p:=⟨g2,((j+1))*2+1,none⟩) hg2).trans hd1
  have hszp:w.heap.size<wp.heap.size:=hboxp.lt
  have hplp:p<wp.heap.size:=by omega
  have hg2p:g2<wp.heap.size:=by omega
  have ri1:((j:Int)+1:Int)<(N:Int):=by omega
  have ri0:(0:Int)≤((j:Int)+1:Int):=by omega
  have rg:decide (((j:Int)+1:Int)<(N:Int))=true:=by simp;omega
  have rgn:decide ((j+1)<N)=true:=by simp;omega
  clear hu2 ha2 hb2
  by_cases hrt:a2=u2
  ·have rt:decide (a2=u2)=true:=by simp;omega
   have rt2:(a2==u2)=true:=by simp;omega
   have rt3:((a2:Int)==(u2:Int))=true:=by simp;omega
   obtain⟨n2,hn2⟩:∃n2,n2=n1+b2:=⟨_,rfl⟩
   have hadd2:(n1:Int)+(b2:Int)=(n2:Int):=by omega
   have hw2:IntKind.i64.wrap (n2:Int)=(n2:Int):=IntWalk.i64_in _ (by omega)
   have hwi:IntKind.i64.wrap (((j:Int)+1:Int)+1)=((j:Int)+1:Int)+1:=IntWalk.i64_in _ (by omega)
   have HTR:Hid (touchR s.fr ((j+1)) (f+n')=true):=touchR_t (by rw[HN.out];exact hrN) (by rw[HA2.out];have:=HU2.out;have:=HFE.out;omega)
   have HN2:=Lib.hid hn2
   clear hn2
   go_region_held3 (fun w'=>Below wp.heap.size wp w'∧w'.cell? ⟨p,2,none⟩=some (.slice (some ⟨g2,0,none⟩) N c)∧w'.cell? ⟨w.heap.size,0,none⟩=some (.int .i64 a0)∧w'.cell? ⟨w.heap.size,1,none⟩=some (.int .i64 n1)∧w'.cell? ⟨g2,((j+1))*2,none⟩=some (.int .i64 a2)∧w'.cell? ⟨g2,((j+1))*2+1,none⟩=some (.int .i64 b2))
    (first
     |(exact⟨below_drewN (Below.refl _ _) 1,c5p,b0p,b1p,d0p,d1p⟩)
     |(exact⟨hacc,(hacc.cell hplp).trans c5p,(hacc.cell hszp).trans b0p,(hacc.cell hszp).trans b1p,(hacc.cell hg2p).trans d0p,(hacc.cell hg2p).trans d1p⟩))
    ((go_split_ands;go_at_call 101;(with_reducible refine(HE2.out _).mono ?_);rintro e wr5 ⟨rfl,hb3⟩;have hacc:Below wp.heap.size wp wr5:=Below.trans (by assumption) (Below.mono hb3 (Below.size (by assumption)))))
   have hbox5:=hboxp.below hacc hszp
   have HB5r:=Lib.hid (HBp.out.trans (hacc.mono HBp.out.size))
   have HACC:=Lib.hid hacc
   clear hacc
   have c5q:=(HACC.out.cell (p:=⟨p,2,none⟩) hplp).trans c5p
   have d0q:=(HACC.out.cell (p:=⟨g2,((j+1))*2,none⟩) hg2p).trans d0p
   have d1q:=(HACC.out.cell (p:=⟨g2,((j+1))*2+1,none⟩) hg2p).trans d1p
   have b1q:=(HACC.out.cell (p:=⟨w.heap.size,1,none⟩) hszp).trans b1p
   have fbq:=hbox5.free 1
   generalize wr5=wr6 at*
   go_wp2
   go_region
   have hbox:Row (wr6.setCell ⟨w.heap.size,1,none⟩ (.int .i64 n2)).drew w.heap.size 106 [.int .i64 a0,.int .i64 n2]:=(hbox5.set 1 (.int .i64 n2)).drewN 1
   have HBq:Hid (Below w.heap.size w (wr6.setCell ⟨w.heap.size,1,none⟩ (.int .i64 n2)).drew):=below_drewN (HB5r.out.setCell (p:=⟨w.heap.size,1,none⟩) (Nat.le_refl _) _) 1
   clear c5q d0q d1q b1q fbq HACC HB5r hbox5
   generalize(wr6.setCell ⟨w.heap.size,1,none⟩ (.int .i64 n2)).drew=wq at*
   go_wp2
   have HEQ:Hid (s.fr.take (j)++[(a0,n2)]++s.fr.drop ((j+1)+1)=R):=by
    unfold Hid;rw[HR.out];unfold joinL;rw[touchL_t (by omega) HTL.out,HTR.out]
    dsimp only;rw[HLA.out,HLB.out,HN2.out,HB2'.out];simp
   have hsz:w.heap.size<wq.heap.size:=hbox.lt
   have c5:wq.cell? ⟨p,2,none⟩=some (.slice (some ⟨g2,0,none⟩) N c):=(H.out.2.1.below HBq.out hpl).cell 2
   have b0:wq.cell? ⟨w.heap.size,0,none⟩=some (.int .i64 a0):=hbox.cell 0
   have b1:wq.cell? ⟨w.heap.size,1,none⟩=some (.int .i64 n2):=hbox.cell 1
   have hplq:p<wq.heap.size:=by omega
   have HB5:∀W,W=wq.drew.alloc (.cells #[.int .i64 a0,.int .i64 n2] 106)→Hid (Below w.heap.size w W):=fun W e=>by subst e;exact(below_drewN HBq.out 1).alloc (by have:=HBq.out.size;exact this) _
   have HREP:∀W,W=wq.drew.alloc (.cells #[.int .i64 a0,.int .i64 n2] 106)→Hid (Calls Tryz.prog 115 #[.slice (some ⟨g2,0,none⟩) N c,.int .i64 ((j:Int)),.int .i64 ((j:Int)+1+1),.slice (some ⟨wq.heap.size,0,none⟩) 1 1] W (Got W (.slice (some ⟨g2,0,none⟩) N c) R)):=fun W e=>by
    have hov:=own2_below H.out.2.2.1 (HB5 W e).out
    rw[HN.out]at hov
    have hnew:Own2 W wq.heap.size 1 1 [(a0,n2)] [.int .i64 a0,.int .i64 n2]:=⟨by subst e;exact heap_alloc_new wq.drew _,rfl,Nat.le_refl _,by omega,rfl,rfl⟩
    have hrep:=replace_any W (i:=j) (j:=(j+1)+1) hov hnew.own (fun k hk e2=>by have h1:=(H.out.2.2.1.lt k hk).2;(have e3:wq.heap.size=k:=by simpa [Value.ownBlock]using e2);omega) (by omega) (by omega) (by omega) (by omega)
    rw[HEQ.out]at hrep
    have ecast:((j:Nat):Int)=(j:Int):=by omega
    have ecast2:(((j+1)+1:Nat):Int)=(j:Int)+1+1:=by omega
    first|rw[ecast,ecast2]at hrep|rw[ecast]at hrep
    exact hrep
   have HREP:=HREP _ rfl
   have HB5:=HB5 _ rfl
   have HC:Hid (∀v' w6,Got (wq.drew.alloc (.cells #[.int .i64 a0,.int .i64 n2] 106)) (.slice (some ⟨g2,0,none⟩) N c) R (.returned v') w6→∃G',Spc (w6.setCell ⟨p,2,none⟩ v') G' p {s with fr:=R}∧Far G w (w6.setCell ⟨p,2,none⟩ v')∧∀k,G' k→G k∨w.heap.size≤k):=fun v' w6 hg=>spc_put H.out HB5.out hg HOK.out
   clear HTR rt rt2 rt3 ri0 ri1 rg rgn c5p b0p b1p hplp hg2p hszp d0p d1p hd0 hd1 HE2 HU2 HA2 HB2' hbn2 hg2
   have HC2:Hid (∀v' w6,Got (wq.drew.alloc (.cells #[.int .i64 a0,.int .i64 n2] 106)) (.slice (some ⟨g2,0,none⟩) N c) R (.returned v') w6→w6.cell? ⟨p,2,none⟩=some (.slice (some ⟨g2,0,none⟩) N c)∧w6.frozen? ⟨p,2,none⟩=false):=fun v' w6 hg=>by have:=spc_stays H.out HB5.out hg;exact⟨this.cell 2,this.free 2⟩
   go_wp2
   go_region_with (go_at_call 115;refine HREP.out.mono ?_;rintro e w6 hg;obtain⟨v',rfl,hg1,hg2,hg3⟩:=id hg;have HX:=Lib.hid (HC.out v' w6 hg);obtain⟨c6,f6⟩:=HC2.out v' w6 hg;obtain⟨A',c',rfl,_,_,_⟩:=own2_form hg1;clear hg hg1 hg2 hg3)
   all_goals(go_wp2;go_end0;obtain⟨G',h1,h2,h3⟩:=HX.out;exact⟨G',rfl,h1,h2,h3⟩)
  ·have rt:decide (a2=u2)=false:=by simp;omega
   have rt2:(a2==u2)=false:=by simp;omega
   have rt3:((a2:Int)==(u2:Int))=false:=by simp;omega
   have HTR:Hid (touchR s.fr ((j+1)) (f+n')=false):=touchR_f fun _=>by rw[HA2.out];have:=HU2.out;have:=HFE.out;omega
   go_wp2
   go_region_held3 (fun w'=>Below wp.heap.size wp w'∧w'.cell? ⟨p,2,none⟩=some (.slice (some ⟨g2,0,none⟩) N c)∧w'.cell? ⟨w.heap.size,0,none⟩=some (.int .i64 a0)∧w'.cell? ⟨w.heap.size,1,none⟩=some (.int .i64 n1)∧w'.cell? ⟨g2,((j+1))*2,none⟩=some (.int .i64 a2)∧w'.cell? ⟨g2,((j+1))*2+1,none⟩=some (.int .i64 b2))
    (first
     |(exact⟨below_drewN (Below.refl _ _) 1,c5p,b0p,b1p,d0p,d1p⟩)
     |(exact⟨hacc,(hacc.cell hplp).trans c5p,(hacc.cell hszp).trans b0p,(hacc.cell hszp).trans b1p,(hacc.cell hg2p).trans d0p,(hacc.cell hg2p).trans d1p⟩))
    ((go_split_ands;go_at_call 101;(with_reducible refine(HE2.out _).mono ?_);rintro e wr5 ⟨rfl,hb3⟩;have hacc:Below wp.heap.size wp wr5:=Below.trans (by assumption) (Below.mono hb3 (Below.size (by assumption)))))
   have hbox5:=hboxp.below hacc hszp
   have HB5r:=Lib.hid (HBp.out.trans (hacc.mono HBp.out.size))
   have HACC:=Lib.hid hacc
   clear hacc
   generalize wr5=wq at*
   have HBq:=HB5r
   have hbox:=hbox5
   go_wp2
   have HEQ:Hid (s.fr.take (j)++[(a0,n1)]++s.fr.drop ((j+1))=R):=by
    unfold Hid;rw[HR.out];unfold joinL;rw[touchL_t (by omega) HTL.out,HTR.out]
    dsimp only;rw[HLA.out,HLB.out];simp
   have hsz:w.heap.size<wq.heap.size:=hbox.lt
   have c5:wq.cell? ⟨p,2,none⟩=some (.slice (some ⟨g2,0,none⟩) N c):=(H.out.2.1.below HBq.out hpl).cell 2
   have b0:wq.cell? ⟨w.heap.size,0,none⟩=some (.int .i64 a0):=hbox.cell 0
   have b1:wq.cell? ⟨w.heap.size,1,none⟩=some (.int .i64 n1):=hbox.cell 1
   have hplq:p<wq.heap.size:=by omega
   have HB5:∀W,W=wq.drew.alloc (.cells #[.int .i64 a0,.int .i64 n1] 106)→Hid (Below w.heap.size w W):=fun W e=>by subst e;exact(below_drewN HBq.out 1).alloc (by have:=HBq.out.size;exact this) _
   have HREP:∀W,W=wq.drew.alloc (.cells #[.int .i64 a0,.int .i64 n1] 106)→Hid (Calls Tryz.prog 115 #[.slice (some ⟨g2,0,none⟩) N c,.int .i64 ((j:Int)),.int .i64 ((j:Int)+1),.slice (some ⟨wq.heap.size,0,none⟩) 1 1] W (Got W (.slice (some ⟨g2,0,none⟩) N c) R)):=fun W e=>by
    have hov:=own2_below H.out.2.2.1 (HB5 W e).out
    rw[HN.out]at hov
    have hnew:Own2 W wq.heap.size 1 1 [(a0,n1)] [.int .i64 a0,.int .i64 n1]:=⟨by subst e;exact heap_alloc_new wq.drew _,rfl,Nat.le_refl _,by omega,rfl,rfl⟩
    have hrep:=replace_any W (i:=j) (j:=(j+1)) hov hnew.own (fun k hk e2=>by have h1:=(H.out.2.2.1.lt k hk).2;(have e3:wq.heap.size=k:=by simpa [Value.ownBlock]using e2);omega) (by omega) (by omega) (by omega) (by omega)
    rw[HEQ.out]at hrep
    have ecast:((j:Nat):Int)=(j:Int):=by omega
    have ecast2:(((j+1):Nat):Int)=(j:Int)+1:=by omega
    first|rw[ecast,ecast2]at hrep|rw[ecast]at hrep
    exact hrep
   have HREP:=HREP _ rfl
   have HB5:=HB5 _ rfl
   have HC:Hid (∀v' w6,Got (wq.drew.alloc (.cells #[.int .i64 a0,.int .i64 n1] 106)) (.slice (some ⟨g2,0,none⟩) N c) R (.returned v') w6→∃G',Spc (w6.setCell ⟨p,2,none⟩ v') G' p {s with fr:=R}∧Far G w (w6.setCell ⟨p,2,none⟩ v')∧∀k,G' k→G k∨w.heap.size≤k):=fun v' w6 hg=>spc_put H.out HB5.out hg HOK.out
   clear HTR rt rt2 rt3 ri0 ri1 rg rgn c5p b0p b1p hplp hg2p hszp d0p d1p hd0 hd1 HE2 HU2 HA2 HB2' hbn2 hg2
   have HC2:Hid (∀v' w6,Got (wq.drew.alloc (.cells #[.int .i64 a0,.int .i64 n1] 106)) (.slice (some ⟨g2,0,none⟩) N c) R (.returned v') w6→w6.cell? ⟨p,2,none⟩=some (.slice (some ⟨g2,0,none⟩) N c)∧w6.frozen? ⟨p,2,none⟩=false):=fun v' w6 hg=>by have:=spc_stays H.out HB5.out hg;exact⟨this.cell 2,this.free 2⟩
   go_wp2
   go_region_with (go_at_call 115;refine HREP.out.mono ?_;rintro e w6 hg;obtain⟨v',rfl,hg1,hg2,hg3⟩:=id hg;have HX:=Lib.hid (HC.out v' w6 hg);obtain⟨c6,f6⟩:=HC2.out v' w6 hg;obtain⟨A',c',rfl,_,_,_⟩:=own2_form hg1;clear hg hg1 hg2 hg3)
   all_goals(go_wp2;go_end0;obtain⟨G',h1,h2,h3⟩:=HX.out;exact⟨G',rfl,h1,h2,h3⟩)
 ·have rg:decide (((j:Int)+1:Int)<(N:Int))=false:=by simp;omega
  have rgn:decide ((j+1)<N)=false:=by simp;omega
  have HTR:Hid (touchR s.fr ((j+1)) (f+n')=false):=touchR_f fun hh=>by rw[HN.out]at hh;omega
  have c5p:wp.cell? ⟨p,2,none⟩=some (.slice (some ⟨g0,0,none⟩) N c):=(H.out.2.1.below HBp.out hpl).cell 2
  have hplp:p<wp.heap.size:=by have:=hboxp.lt;omega
  go_quiet (fail)
  have hbox:=hboxp.drewN nq
  have HBq:Hid (Below w.heap.size w (wp.drewN nq)):=below_drewN HBp.out nq
  generalize wp.drewN nq=wq at*
  go_wp2
  have HEQ:Hid (s.fr.take (j)++[(a0,n1)]++s.fr.drop ((j+1))=R):=by
   unfold Hid;rw[HR.out];unfold joinL;rw[touchL_t (by omega) HTL.out,HTR.out]
   dsimp only;rw[HLA.out,HLB.out];simp
  have hsz:w.heap.size<wq.heap.size:=hbox.lt
  have c5:wq.cell? ⟨p,2,none⟩=some (.slice (some ⟨g0,0,none⟩) N c):=(H.out.2.1.below HBq.out hpl).cell 2
  have b0:wq.cell? ⟨w.heap.size,0,none⟩=some (.int .i64 a0):=hbox.cell 0
  have b1:wq.cell? ⟨w.heap.size,1,none⟩=some (.int .i64 n1):=hbox.cell 1
  have hplq:p<wq.heap.size:=by omega
  have HB5:∀W,W=wq.drew.alloc (.cells #[.int .i64 a0,.int .i64 n1] 106)→Hid (Below w.heap.size w W):=fun W e=>by subst e;exact(below_drewN HBq.out 1).alloc (by have:=HBq.out.size;exact this) _
  have HREP:∀W,W=wq.drew.alloc (.cells #[.int .i64 a0,.int .i64 n1] 106)→Hid (Calls Tryz.prog 115 #[.slice (some ⟨g0,0,none⟩) N c,.int .i64 ((j:Int)),.int .i64 ((j:Int)+1),.slice (some ⟨wq.heap.size,0,none⟩) 1 1] W (Got W (.slice (some ⟨g0,0,none⟩) N c) R)):=fun W e=>by
   have hov:=own2_below H.out.2.2.1 (HB5 W e).out
   rw[HN.out]at hov
   have hnew:Own2 W wq.heap.size 1 1 [(a0,n1)] [.int .i64 a0,.int .i64 n1]:=⟨by subst e;exact heap_alloc_new wq.drew _,rfl,Nat.le_refl _,by omega,rfl,rfl⟩
   have hrep:=replace_any W (i:=j) (j:=(j+1)) hov hnew.own (fun k hk e2=>by have h1:=(H.out.2.2.1.lt k hk).2;(have e3:wq.heap.size=k:=by simpa [Value.ownBlock]using e2);omega) (by omega) (by omega) (by omega) (by omega)
   rw[HEQ.out]at hrep
   have ecast:((j:Nat):Int)=(j:Int):=by omega
   have ecast2:(((j+1):Nat):Int)=(j:Int)+1:=by omega
   first|rw[ecast,ecast2]at hrep|rw[ecast]at hrep
   exact hrep
  have HREP:=HREP _ rfl
  have HB5:=HB5 _ rfl
  have HC:Hid (∀v' w6,Got (wq.drew.alloc (.cells #[.int .i64 a0,.int .i64 n1] 106)) (.slice (some ⟨g0,0,none⟩) N c) R (.returned v') w6→∃G',Spc (w6.setCell ⟨p,2,none⟩ v') G' p {s with fr:=R}∧Far G w (w6.setCell ⟨p,2,none⟩ v')∧∀k,G' k→G k∨w.heap.size≤k):=fun v' w6 hg=>spc_put H.out HB5.out hg HOK.out
  have HC2:Hid (∀v' w6,Got (wq.drew.alloc (.cells #[.int .i64 a0,.int .i64 n1] 106)) (.slice (some ⟨g0,0,none⟩) N c) R (.returned v') w6→w6.cell? ⟨p,2,none⟩=some (.slice (some ⟨g0,0,none⟩) N c)∧w6.frozen? ⟨p,2,none⟩=false):=fun v' w6 hg=>by have:=spc_stays H.out HB5.out hg;exact⟨this.cell 2,this.free 2⟩
  go_wp2
  go_region_with (go_at_call 115;refine HREP.out.mono ?_;rintro e w6 hg;obtain⟨v',rfl,hg1,hg2,hg3⟩:=id hg;have HX:=Lib.hid (HC.out v' w6 hg);obtain⟨c6,f6⟩:=HC2.out v' w6 hg;obtain⟨A',c',rfl,_,_,_⟩:=own2_form hg1;clear hg hg1 hg2 hg3)
  all_goals(go_wp2;go_end0;obtain⟨G',h1,h2,h3⟩:=HX.out;exact⟨G',rfl,h1,h2,h3⟩)
theorem join_any(p:Nat)(s:Sp)(G:Nat→Prop)(i f n':Nat)(w:World)(h:Spc w G p s)(hi:i=nextI s.fr f)(h1:s.first≤f)(h2:f+n'≤s.first+s.blocks)(hn:1≤n')(hno:∀b,f≤b→b<f+n'→¬hasB s.fr b):
  Calls Tryz.prog 102 #[.pointer (some ⟨p,0,none⟩),.int .i64 i,.agg #[.int .i64 f,.int .i64 n']] w fun e w'=>∃G',e=.returned (.tuple #[])∧Spc w' G' p {s with fr:=joinL s.fr i f n'}∧Far G w w'∧∀k,G' k→G k∨w.heap.size≤k:=by
 by_cases hl0:0<i
 ·by_cases hlt:(xAt s.fr (i-1)).1+(xAt s.fr (i-1)).2=f
  ·exact join_l2 p s G i f n' w h hi h1 h2 hn hno hl0 hlt
  ·exact join_l1 p s G i f n' w h hi h1 h2 hn hno hl0 hlt
 ·exact join_l0 p s G i f n' w h hi h1 h2 hn hno hl0
theorem Next.refl{w:World}{G:Nat→Prop}{p:Nat}{s:Sp}(h:Spc w G p s):Next w G p s w:=Next.of_below h (Below.refl _ _)
theorem give_any(p:Nat)(s:Sp)(G:Nat→Prop)(f n:Int)(w:World)(h:Spc w G p s)(hf:I64 f)(hn:I64 n):
  Calls Tryz.prog 86 #[.pointer (some ⟨p,0,none⟩),.int .i64 f,.int .i64 n] w fun e w'=>e=.returned (.int .i64 ((giveS s f n).2:Nat))∧Next w G p (giveS s f n).1 w':=by
 by_cases h1:n<1
 ·have g1:decide (n<1)=true:=by simpa using h1
  have HTS:giveS s f n=(s,1):=by unfold giveS;rw[if_pos (.inl h1)]
  rw[HTS]
  have HN:Hid (Next w G p s w):=Next.refl h
  clear h h1 HTS
  go_enter Tryz.func86,Tryz.ntmps86
  go_wp2
  go_ret
  exact⟨rfl,HN.out⟩
 have g1:decide (n<1)=false:=by simpa using h1
 obtain⟨hok,v,hr,ho,hG⟩:=id h
 obtain⟨A,c,rfl,hnc,hcm,_⟩:=own2_form ho
 have hlen:=hok.len
 have hhi:s.first+s.blocks≤2000000:=by have:=hok.1;have:=hok.2.1;omega
 have c0:w.cell? ⟨p,0,none⟩=some (.int .i64 s.first):=hr.cell 0
 have c1:w.cell? ⟨p,1,none⟩=some (.int .i64 s.blocks):=hr.cell 1
 have c2:w.cell? ⟨p,2,none⟩=some (.slice A s.fr.length c):=hr.cell 2
 have hpl:=hr.lt
 have HH:Hid (∀W,Calls Tryz.prog 99 #[.agg #[.int .i64 s.first,.int .i64 s.blocks],.int .i64 f,.int .i64 n] W fun e w'=>e=.returned (.bool (decide ((s.first:Int)≤f)&&decide (n≤((s.first+s.blocks:Nat):Int)-f)))∧Below W.heap.size W w'):=fun W=>holds_any s.first s.blocks f n W (by omega) hf
 by_cases h2:¬((s.first:Int)≤f∧n≤((s.first+s.blocks:Nat):Int)-f)
 ·have hht:(decide ((s.first:Int)≤f)&&decide (n≤((s.first+s.blocks:Nat):Int)-f))=false:=by
   cases hq:(decide ((s.first:Int)≤f)&&decide (n≤((s.first+s.blocks:Nat):Int)-f))with
   |false=>rfl
   |true=>simp only[Bool.and_eq_true,decide_eq_true_eq]at hq;exact absurd hq h2
  have HTS:giveS s f n=(s,1):=by unfold giveS;rw[if_pos (.inr (.inl h2))]
  rw[HTS]
  have HHT:=Lib.hid hht
  have H:=Lib.hid h
  generalize s.fr.length=N at*
  clear h h1 h2 HTS hht hok hr ho hG
  go_enter Tryz.func86,Tryz.ntmps86
  go_wp2_with fail
  refine(HH.out _).mono ?_
  rintro e w2 ⟨rfl,hb2⟩
  rw[HHT.out]
  have HX:Hid (Next w G p s w2):=Next.of_below H.out hb2
  clear hb2
  go_wp2
  go_ret
  exact⟨rfl,HX.out⟩
 have h2:=Classical.not_not.1 h2
 obtain⟨f,rfl⟩:∃f':Nat,f=(f':Int):=⟨f.toNat,by omega⟩
 obtain⟨n',rfl⟩:∃n':Nat,n=(n':Int):=⟨n.toNat,by omega⟩
 have hht:(decide ((s.first:Int)≤(f:Int))&&decide ((n':Int)≤((s.first+s.blocks:Nat):Int)-(f:Int)))=true:=by simp only[Bool.and_eq_true,decide_eq_true_eq];exact h2
 have HHT:=Lib.hid hht
 have HTS:giveS s (f:Int) (n':Int)=if nextI s.fr f<s.fr.length∧(xAt s.fr (nextI s.fr f)).1<f+n' then (s,1)else ({s with fr:=joinL s.fr (nextI s.fr f) f n'},0):=by
  unfold giveS
  simp only[Int.toNat_natCast]
  by_cases hq:nextI s.fr f<s.fr.length∧(xAt s.fr (nextI s.fr f)).1<f+n'
  ·rw[if_pos hq,if_pos (.inr (.inr hq))]
  ·rw[if_neg hq,if_neg (by rintro(h3|h3|h3);exact h1 h3;exact h3 h2;exact hq h3)]
 have hf1:s.first≤f:=by omega
 have hf2:f+n'≤s.first+s.blocks:=by omega
 have hnn:1≤n':=by omega
 have hfn4:f+n'≤2000000:=by omega
 have hno:=next_none hok.2.2 (f:=f) hnn
 have hiz:nextI s.fr f≤s.fr.length:=List.findIdx_le_length
 have HNX:Hid (∀W,Below w.heap.size w W→Calls Tryz.prog 98 #[.pointer (some ⟨p,0,none⟩),.int .i64 (f:Int)] W fun e w'=>e=.returned (.int .i64 (nextI s.fr f:Nat))∧Below W.heap.size W w'):=fun W hb=>by
  have:=spnext_any p s G (f:Int) W (h.below hb)
  rw[nextZ_nat]at this
  exact this
 have HJ:Hid (¬(nextI s.fr f<s.fr.length∧(xAt s.fr (nextI s.fr f)).1<f+n')→∀W,Below w.heap.size w W→Calls Tryz.prog 102 #[.pointer (some ⟨p,0,none⟩),.int .i64 (nextI s.fr f:Nat),.agg #[.int .i64 (f:Int),.int .i64 (n':Int)]] W fun e w'=>e=.returned (.tuple #[])∧Next w G p {s with fr:=joinL s.fr (nextI s.fr f) f n'} w'):=fun hq W hb=>
  (join_any p s G (nextI s.fr f) f n' W (h.below hb) rfl hf1 hf2 hnn (hno.2 fun hlt=>by
   rcases Nat.lt_or_ge (xAt s.fr (nextI s.fr f)).1 (f+n')with h3|h3
   ·exact absurd ⟨hlt,h3⟩ hq
   ·exact h3)).mono fun e w' ⟨G',h1,h2⟩=>⟨h1,Next.behind hb ⟨G',h2⟩⟩
 obtain⟨u,hu⟩:∃u,f+n'=u:=⟨_,rfl⟩
 have HE:Hid (∀W,Calls Tryz.prog 101 #[.agg #[.int .i64 (f:Int),.int .i64 (n':Int)]] W fun e w'=>e=.returned (.int .i64 (u:Nat))∧Below W.heap.size W w'):=fun W=>by have:=end_any f n' W (by omega);rwa [hu]at this
 rw[hu]at HTS HJ
 have HAT:Hid (∀k,k<s.fr.length→∃g,A=some ⟨g,0,none⟩∧g<w.heap.size∧w.cell? ⟨g,k*2,none⟩=some (.int .i64 (xAt s.fr k).1)∧w.cell? ⟨g,k*2+1,none⟩=some (.int .i64 (xAt s.fr k).2)):=fun k hk=>own2_at ho hk
 have H:=Lib.hid h
 obtain⟨N,hN⟩:∃N,N=s.fr.length:=⟨_,rfl⟩
 rw[←hN]at c2 hlen hiz HTS HJ HAT
 have HN:=Lib.hid hN
 generalize joinL s.fr (nextI s.fr f) f n'=R at*
 generalize nextI s.fr f=i at*
 have hbx:=fun(W:World) (hb:Below w.heap.size w W)=>(hb.alloc (o:=.cells #[.int .i64 (f:Int),.int .i64 (n':Int)] 106) hb.size)
 have HBX:=Lib.hid hbx
 clear h h1 h2 hht hok hr ho hG hno hu hhi hN hbx hf1 hf2
 by_cases hlt:i<N
 ·obtain⟨g,rfl,hg,hc0,hc1⟩:=HAT.out i hlt
  generalize(xAt s.fr i).1=a at*
  have ii0:(0:Int)≤(i:Int):=by omega
  have ii1:(i:Int)<(N:Int):=by omega
  have gi:decide ((i:Int)<(N:Int))=true:=by simp;omega
  have gi2:decide (i<N)=true:=by simp;omega
  by_cases hau:a<u
  ·have ga:decide ((a:Int)<(u:Int))=true:=by simp;omega
   have ga2:decide (a<u)=true:=by simp;omega
   rw[if_pos ⟨hlt,hau⟩]at HTS
   rw[HTS]
   dsimp only
   clear HTS HJ
   go_enter Tryz.func86,Tryz.ntmps86
   go_wp2_with fail
   refine(HH.out _).mono ?_
   rintro e w2 ⟨rfl,hb2⟩
   rw[HHT.out]
   have HB2:=Lib.hid hb2
   clear hb2
   go_wp2_with fail
   refine(HNX.out _ (HBX.out _ HB2.out)).mono ?_
   rintro e w3 ⟨rfl,hb3⟩
   have hbx:Row (w2.alloc (.cells #[.int .i64 (f:Int),.int .i64 (n':Int)] 106)) w2.heap.size 106 [.int .i64 (f:Int),.int .i64 (n':Int)]:=heap_alloc_new _ _
   have hbx3:=hbx.below hb3 (by simp)
   have HB3:=Lib.hid ((HBX.out _ HB2.out).trans (hb3.mono (HBX.out _ HB2.out).size))
   have b0:w3.cell? ⟨w2.heap.size,0,none⟩=some (.int .i64 (f:Int)):=hbx3.cell 0
   have b1:w3.cell? ⟨w2.heap.size,1,none⟩=some (.int .i64 (n':Int)):=hbx3.cell 1
   have c2':=(HB3.out.cell (p:=⟨p,2,none⟩) hpl).trans c2
   have hs2:w2.heap.size<w3.heap.size:=hbx3.lt
   have hpl3:p<w3.heap.size:=by have:=HB3.out.size;omega
   have d0:=(HB3.out.cell (p:=⟨g,i*2,none⟩) hg).trans hc0
   have hg3:g<w3.heap.size:=by have:=HB3.out.size;omega
   clear hb3 hbx hbx3 HB2 HNX HH HHT c0 c1 c2 hc0 hc1
   go_wp2
   go_region_held3 (fun w'=>Below w3.heap.size w3 w'∧w'.cell? ⟨p,2,none⟩=some (.slice (some ⟨g,0,none⟩) N c)∧w'.cell? ⟨w2.heap.size,0,none⟩=some (.int .i64 (f:Int))∧w'.cell? ⟨w2.heap.size,1,none⟩=some (.int .i64 (n':Int))∧w'.cell? ⟨g,i*2,none⟩=some (.int .i64 (a:Int)))
    (first
     |(exact⟨below_drewN (Below.refl _ _) 1,c2',b0,b1,d0⟩)
     |(exact⟨hacc,(hacc.cell hpl3).trans c2',(hacc.cell hs2).trans b0,(hacc.cell hs2).trans b1,(hacc.cell hg3).trans d0⟩))
    ((go_split_ands;go_at_call 101;(with_reducible refine(HE.out _).mono ?_);rintro e w4 ⟨rfl,hb4⟩;have hacc:Below w3.heap.size w3 w4:=Below.trans (by assumption) (Below.mono hb4 (Below.size (by assumption)))))
   have HX:Hid (Next w G p s w4):=Next.of_below H.out (HB3.out.trans (hacc.mono HB3.out.size))
   clear hacc
   go_wp2
   go_ret
   exact⟨rfl,HX.out⟩
  ·have ga:decide ((a:Int)<(u:Int))=false:=by simp;omega
   have ga2:decide (a<u)=false:=by simp;omega
   rw[if_neg (fun hh=>hau hh.2)]at HTS
   rw[HTS]
   dsimp only
   have HQ:Hid (¬(i<N∧a<u)):=fun hh=>hau hh.2
   clear HTS
   go_enter Tryz.func86,Tryz.ntmps86
   go_wp2_with fail
   refine(HH.out _).mono ?_
   rintro e w2 ⟨rfl,hb2⟩
   rw[HHT.out]
   have HB2:=Lib.hid hb2
   clear hb2
   go_wp2_with fail
   refine(HNX.out _ (HBX.out _ HB2.out)).mono ?_
   rintro e w3 ⟨rfl,hb3⟩
   have hbx:Row (w2.alloc (.cells #[.int .i64 (f:Int),.int .i64 (n':Int)] 106)) w2.heap.size 106 [.int .i64 (f:Int),.int .i64 (n':Int)]:=heap_alloc_new _ _
   have hbx3:=hbx.below hb3 (by simp)
   have HB3:=Lib.hid ((HBX.out _ HB2.out).trans (hb3.mono (HBX.out _ HB2.out).size))
   have b0:w3.cell? ⟨w2.heap.size,0,none⟩=some (.int .i64 (f:Int)):=hbx3.cell 0
   have b1:w3.cell? ⟨w2.heap.size,1,none⟩=some (.int .i64 (n':Int)):=hbx3.cell 1
   have c2':=(HB3.out.cell (p:=⟨p,2,none⟩) hpl).trans c2
   have hs2:w2.heap.size<w3.heap.size:=hbx3.lt
   have hpl3:p<w3.heap.size:=by have:=HB3.out.size;omega
   have d0:=(HB3.out.cell (p:=⟨g,i*2,none⟩) hg).trans hc0
   have hg3:g<w3.heap.size:=by have:=HB3.out.size;omega
   clear hb3 hbx hbx3 HB2 HNX HH HHT c0 c1 c2 hc0 hc1
   go_wp2
   go_region_held3 (fun w'=>Below w3.heap.size w3 w'∧w'.cell? ⟨p,2,none⟩=some (.slice (some ⟨g,0,none⟩) N c)∧w'.cell? ⟨w2.heap.size,0,none⟩=some (.int .i64 (f:Int))∧w'.cell? ⟨w2.heap.size,1,none⟩=some (.int .i64 (n':Int))∧w'.cell? ⟨g,i*2,none⟩=some (.int .i64 (a:Int)))
    (first
     |(exact⟨below_drewN (Below.refl _ _) 1,c2',b0,b1,d0⟩)
     |(exact⟨hacc,(hacc.cell hpl3).trans c2',(hacc.cell hs2).trans b0,(hacc.cell hs2).trans b1,(hacc.cell hg3).trans d0⟩))
    ((go_split_ands;go_at_call 101;(with_reducible refine(HE.out _).mono ?_);rintro e w4 ⟨rfl,hb4⟩;have hacc:Below w3.heap.size w3 w4:=Below.trans (by assumption) (Below.mono hb4 (Below.size (by assumption)))))
   have HJ4:=Lib.hid (HJ.out HQ.out w4 (HB3.out.trans (hacc.mono HB3.out.size)))
   have b04:=(hacc.cell (p:=⟨w2.heap.size,0,none⟩) hs2).trans b0
   have b14:=(hacc.cell (p:=⟨w2.heap.size,1,none⟩) hs2).trans b1
   clear hacc b0 b1 c2' d0
   go_wp2_with fail
   refine HJ4.out.mono ?_
   rintro e w5 ⟨rfl,hx⟩
   have HX:=Lib.hid hx
   clear hx
   go_wp2
   go_ret
   exact⟨rfl,HX.out⟩
 ·have gi:decide ((i:Int)<(N:Int))=false:=by simp;omega
  have gi2:decide (i<N)=false:=by simp;omega
  rw[if_neg (fun hh=>hlt hh.1)]at HTS
  rw[HTS]
  dsimp only
  have HQ:Hid (¬(i<N∧(xAt s.fr i).1<u)):=fun hh=>hlt hh.1
  clear HTS
  go_enter Tryz.func86,Tryz.ntmps86
  go_wp2_with fail
  refine(HH.out _).mono ?_
  rintro e w2 ⟨rfl,hb2⟩
  rw[HHT.out]
  have HB2:=Lib.hid hb2
  clear hb2
  go_wp2_with fail
  refine(HNX.out _ (HBX.out _ HB2.out)).mono ?_
  rintro e w3 ⟨rfl,hb3⟩
  have hbx:Row (w2.alloc (.cells #[.int .i64 (f:Int),.int .i64 (n':Int)] 106)) w2.heap.size 106 [.int .i64 (f:Int),.int .i64 (n':Int)]:=heap_alloc_new _ _
  have hbx3:=hbx.below hb3 (by simp)
  have HB3:=Lib.hid ((HBX.out _ HB2.out).trans (hb3.mono (HBX.out _ HB2.out).size))
  have b0:w3.cell? ⟨w2.heap.size,0,none⟩=some (.int .i64 (f:Int)):=hbx3.cell 0
  have b1:w3.cell? ⟨w2.heap.size,1,none⟩=some (.int .i64 (n':Int)):=hbx3.cell 1
  have c2':=(HB3.out.cell (p:=⟨p,2,none⟩) hpl).trans c2
  have hs2:w2.heap.size<w3.heap.size:=hbx3.lt
  have hpl3:p<w3.heap.size:=by have:=HB3.out.size;omega
  clear hb3 hbx hbx3 HB2 HNX HH HHT c0 c1 c2
  go_wp2
  go_quiet (fail)
  have HJ4:=Lib.hid (HJ.out HQ.out (w3.drewN nq) (below_drewN HB3.out nq))
  go_wp2_with fail
  refine HJ4.out.mono ?_
  rintro e w5 ⟨rfl,hx⟩
  have HX:=Lib.hid hx
  clear hx
  go_wp2
  go_ret
  exact⟨rfl,HX.out⟩
def roomB(s:Sp)(k n:Nat):Prop:=∀b,k≤b→b<k+n→hasB s.fr b
structure Took (s s':Sp) (a n:Nat):Prop where
 room:roomB s a n
 first:s'.first=s.first
 blocks:s'.blocks=s.blocks
 has:∀b,hasB s'.fr b↔hasB s.fr b∧¬(a≤b∧b<a+n)
 sum:sumB s'.fr+n=sumB s.fr
 ok:s'.ok
theorem took_cut{s:Sp}{i a n:Nat}(h:s.ok)(hi:i<s.fr.length)(h1:(xAt s.fr i).1≤a)(h2:a+n≤(xAt s.fr i).1+(xAt s.fr i).2)(hn:1≤n):Took s {s with fr:=cutL s.fr i a n} a n:=by
 obtain⟨c1,c2,c3⟩:=cut_spec h.2.2 hi h1 h2 hn
 exact⟨fun b hb hb2=>⟨_,getD_lt hi,by omega,by omega⟩,rfl,rfl,c2,c3,h.1,h.2.1,c1⟩
theorem takeS_spec{s:Sp}(h:s.ok){n:Nat}(hn:1≤n):(∃s' a,takeS s n=(s',a,0)∧Took s s' a n∧∀k,roomB s k n→a≤k)∨(takeS s n=(s,0,5)∧∀k,¬roomB s k n):=by
 unfold takeS
 rw[if_neg (by omega),Int.toNat_natCast]
 by_cases hl:fitI s.fr n<s.fr.length
 ·rw[if_pos hl]
  obtain⟨h1,h2⟩:=fit_least h.2.2 hn hl
  exact .inl ⟨_,_,rfl,took_cut h hl (Nat.le_refl _) (by omega) hn,h2⟩
 ·rw[if_neg hl]
  exact .inr ⟨rfl,fun k=>fit_none h.2.2 hn (by omega) k⟩
structure Gave (s s':Sp) (a n:Nat):Prop where
 lo:s.first≤a
 hi:a+n≤s.first+s.blocks
 none:∀b,a≤b→b<a+n→¬hasB s.fr b
 first:s'.first=s.first
 blocks:s'.blocks=s.blocks
 has:∀b,hasB s'.fr b↔hasB s.fr b∨(a≤b∧b<a+n)
 sum:sumB s'.fr=sumB s.fr+n
 ok:s'.ok
theorem giveS_spec{s:Sp}(h:s.ok)(f n:Int):(∃s' a m,f=(a:Nat)∧n=(m:Nat)∧1≤m∧giveS s f n=(s',0)∧Gave s s' a m)∨
  (giveS s f n=(s,1)∧∀a m:Nat,f=a→n=m→1≤m→¬(s.first≤a∧a+m≤s.first+s.blocks∧∀b,a≤b→b<a+m→¬hasB s.fr b)):=by
 unfold giveS
 by_cases hx:n<1∨¬((s.first:Int)≤f∧n≤((s.first+s.blocks:Nat):Int)-f)∨(nextI s.fr f.toNat<s.fr.length∧(xAt s.fr (nextI s.fr f.toNat)).1<f.toNat+n.toNat)
 ·rw[if_pos hx]
  refine .inr ⟨rfl,fun a m ha hm h1 hh=>?_⟩
  subst ha;subst hm
  simp only[Int.toNat_natCast]at hx
  rcases hx with hx|hx|hx
  ·omega
  ·exact hx ⟨by omega,by omega⟩
  ·have:=(next_none h.2.2 h1).1 hh.2.2 hx.1;omega
 ·rw[if_neg hx]
  have h1:¬n<1:=fun h=>hx (.inl h)
  have h2:(s.first:Int)≤f∧n≤((s.first+s.blocks:Nat):Int)-f:=Classical.not_not.1 fun h=>hx (.inr (.inl h))
  obtain⟨a,rfl⟩:∃a:Nat,f=(a:Int):=⟨f.toNat,by omega⟩
  obtain⟨m,rfl⟩:∃m:Nat,n=(m:Int):=⟨n.toNat,by omega⟩
  simp only[Int.toNat_natCast]at hx⊢
  have hno:∀b,a≤b→b<a+m→¬hasB s.fr b:=(next_none h.2.2 (by omega)).2 fun hlt=>by
   rcases Nat.lt_or_ge (xAt s.fr (nextI s.fr a)).1 (a+m)with h3|h3
   ·exact absurd (.inr (.inr ⟨hlt,h3⟩)) hx
   ·exact h3
  obtain⟨c1,c2,c3⟩:=join_spec h.2.2 (show 1≤m by omega) (show s.first≤a by omega) (by omega) hno
  exact .inl ⟨_,a,m,rfl,rfl,by omega,rfl,⟨by omega,by omega,hno,rfl,rfl,c2,c3,h.1,h.2.1,c1⟩⟩
theorem sts_snoc(k r:Nat):sts (k+1) r=st (sts k r):=by
 rw[show k+1=1+k by omega,sts_more];rfl
theorem lay_any(r c:Nat)(w:World)(hr:r<4294967296)(hc:c<256):
  Calls Tryz.prog 117 #[.int .u32 r,.int .u32 c] w fun e w'=>e=.returned (.int .u32 (layC r c))∧w=w':=by
 have hx:=u32_xor_nat r c hr (by omega)
 have HX:=Lib.hid hx
 have h0:r^^^c<4294967296:=Nat.xor_lt_two_pow (n:=32) hr (by omega)
 clear hx
 go_enter Tryz.func117,Tryz.ntmps117
 go_wp2
 rw[HX.out]
 go_loop [0,9] (fun nv kv=>∃k n:Nat,k≤8∧n<4294967296∧kv=.int .i64 k∧nv=.int .u32 n∧Hid (n=sts k (r^^^c))) (fun _ kv=>8-(intOf kv).toNat)
 case atStart=>exact⟨0,_,by omega,h0,rfl,rfl,rfl⟩
 case round=>
  obtain⟨k,n,hk,hn,rfl,rfl,HN⟩:=hrel
  by_cases hlt:k<8
  ·have hand:bits .and .u32 (n:Int) 1=((n%2:Nat):Int):=by
    have h:=u32_and_nat n 1 hn (by decide)
    rwa [Nat.and_one_is_mod]at h
   have hdiv:IntKind.u32.wrap ((n:Int)/2)=((n/2:Nat):Int):=by rw[IntKind.wrap_u32'];omega
   have HX2:=Lib.hid (u32_xor_nat (n/2) 3988292384 (by omega) (by decide))
   have HS:Hid (∀m,m=st n→m=sts (k+1) (r^^^c)):=fun m hm=>by rw[hm,sts_snoc,HN.out]
   have HL:Hid (st n<4294967296):=st_lt hn
   by_cases hodd:n%2=1
   ·have g:(bits .and .u32 (n:Int) 1==1)=true:=by rw[hand,hodd];rfl
    clear hand hdiv
    go_wp2
    go_round
    case rel=>exact⟨k+1,n/2^^^3988292384,by omega,by have:=HL.out;unfold st at this;rwa [if_pos hodd]at this,by go_num,congrArg (Value.int .u32) HX2.out,HS.out _ (by unfold st;rw[if_pos hodd])⟩
    case measure=>simp[intOf];omega
   ·have g:(bits .and .u32 (n:Int) 1==1)=false:=by rw[hand,show n%2=0 by omega];rfl
    clear hand hdiv
    go_wp2
    go_round
    case rel=>exact⟨k+1,n/2,by omega,by omega,by go_num,rfl,HS.out _ (by unfold st;rw[if_neg hodd])⟩
    case measure=>simp[intOf];omega
  ·obtain rfl:k=8:=by omega
   go_wp2
   go_ret
   exact⟨ret_int (by rw[HN.out];rfl),rfl⟩
theorem bits_cm(s:Nat)(hs:s<4294967296):bits .xor .u32 IntKind.u32.max (s:Int)=(cm s:Int):=by
 rw[show IntKind.u32.max=4294967295 by decide]
 have h:=u32_xor_nat 4294967295 s (by decide) hs
 have e:cm s=4294967295^^^s:=by unfold cm cmx top;exact Eq.refl _
 rw[e];exact h
theorem next_any(s x:Nat)(w:World)(hs:s<4294967296)(hx:x<18446744073709551616):
  Calls Tryz.prog 112 #[.int .u32 s,.int .u64 x] w fun e w'=>e=.returned (.int .u32 (nx s x))∧w=w':=by
 have HX:=Lib.hid (bits_cm s hs)
 have h0:cm s<4294967296:=cm_lt hs
 go_enter Tryz.func112,Tryz.ntmps112
 go_wp2
 rw[HX.out]
 go_loop [1,5,8] (fun xv rv kv=>∃k y r:Nat,k≤8∧r<4294967296∧y<18446744073709551616∧kv=.int .i64 k∧xv=.int .u64 y∧rv=.int .u32 r∧Hid (wd (8-k) r y=wd 8 (cm s) x)) (fun _ _ kv=>8-(intOf kv).toNat)
 case atStart=>exact⟨0,x,_,by omega,h0,hx,rfl,rfl,rfl,rfl⟩
 case round=>
  obtain⟨k,y,r,hk,hr,hy,rfl,rfl,rfl,HN⟩:=hrel
  by_cases hlt:k<8
  ·have hb:bits .and .u64 (y:Int) 255%4294967296=((y%256:Nat):Int):=by
    have h:=u64_and_nat y 255 hy (by decide)
    rw[show (255:Nat)=2^8-1 from rfl,Nat.and_two_pow_sub_one_eq_mod]at h
    have h2:bits .and .u64 (y:Int) 255=((y%256:Nat):Int):=h
    rw[h2];omega
   have HB:=Lib.hid hb
   clear hb
   have HS:Hid (wd (8-(k+1)) (layC r (y%256)) (y/256)=wd 8 (cm s) x):=by
    have h:=HN.out
    rw[show 8-k=(8-(k+1))+1 by omega]at h
    exact h
   have HL:=layC_lt hr (show y%256<256 by omega)
   go_wp2_with fail
   rw[HB.out]
   refine(lay_any r (y%256) _ hr (by omega)).mono ?_;rintro e w' ⟨rfl,rfl⟩
   go_wp2
   go_round
   case rel=>exact⟨k+1,y/256,_,by omega,HL,by omega,by go_num,by go_num,rfl,HS.out⟩
   case measure=>simp[intOf];omega
  ·obtain rfl:k=8:=by omega
   have HC:Hid (bits .xor .u32 IntKind.u32.max (r:Int)=(nx s x:Int)):=by
    have h:=HN.out
    unfold Hid
    rw[bits_cm r hr]
    have h2:r=wd 8 (cm s) x:=h
    rw[h2];exact Eq.refl _
   go_wp2
   go_ret
   exact⟨ret_int HC.out,rfl⟩
theorem sm_next{l:List Nat}{n k c:Nat}(hl:l.length=n)(hk:k<n)(hc:c=l.getD k 0):nx (sm (l.take k)) c=sm (l.take (k+1)):=by
 rw[List.take_succ_eq_append_getElem (by omega),sm_snoc,hc,List.getD_eq_getElem?_getD,List.getElem?_eq_getElem (by omega)]
 exact Eq.refl _
theorem sum_any(a:Option Addr)(n cap:Nat)(l:List Nat)(w:World){B:Nat}(hl:Reads .u64 w B a n l)(hn:n≤1000000):
  Calls Tryz.prog 111 #[.slice a n cap] w fun e w'=>e=.returned (.int .u32 (sm l))∧w=w':=by
 have HLEN:=Lib.hid hl.1
 go_enter Tryz.func111,Tryz.ntmps111
 go_wp2
 go_loop [3,8] (fun sv kv=>∃k s:Nat,k≤n∧s<4294967296∧kv=.int .i64 k∧sv=.int .u32 s∧Hid (s=sm (l.take k))) (fun _ kv=>n-(intOf kv).toNat)
 case atStart=>exact⟨0,0,by omega,by omega,rfl,rfl,rfl⟩
 case round=>
  obtain⟨k,s,hk,hs,rfl,rfl,HN⟩:=hrel
  by_cases hlt:k<n
  ·obtain⟨b,o,c,rfl,hb,hc,hw,HC⟩:=hl.at_ hlt
   have hc64:=u64_lt hw
   have HS:Hid (nx s c=sm (l.take (k+1))):=by
    unfold Hid;rw[HN.out];exact sm_next HLEN.out hlt HC.out
   have HL:=nx_lt c hs
   go_wp2_with fail
   refine(next_any s c _ hs hc64).mono ?_;rintro e w' ⟨rfl,rfl⟩
   go_wp2
   go_round
   case rel=>exact⟨k+1,_,by omega,HL,by go_num,rfl,HS.out⟩
   case measure=>simp[intOf];omega
  ·obtain rfl:k=n:=by omega
   go_wp2
   go_ret
   exact⟨ret_int (by rw[HN.out,List.take_of_length_le (by have:=HLEN.out;omega)]),rfl⟩
end Go.Proofs.YtfpjmhnmpjdbiaaGreat
