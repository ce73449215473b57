/- What the laws stand on. -/
import Derived.Laws.BitsAllLaws
import Derived.Test.YthfnbpjegjbbiaaGreatRows
import Derived.WalkKit
import Derived.ProofKit
import Derived.OpenShut
import Derived.LoopTactic
import Derived.Outline
import Derived.Lib.Varint
import Derived.Lib.Hide
import Derived.Deep.QuietTactic
import Derived.BigQuiet
import Derived.Below
import Derived.Deep.Draws
import Derived.Laws.CopyOwn
import Derived.Laws.OwnMore
import Derived.Laws.MakeOwn
import Derived.Laws.Bits64b
import Derived.OwnWalk
import Derived.Laws.BytesArg
import Derived.Deep.RegionHeld3
import Derived.Deep.AppendLies
import Derived.Deep.DeepCutAuto
import Derived.Deep.CutBlock
import Derived.Lib.SmallJoins
import Derived.Deep.Slices
import Derived.Deep.Fields
import Derived.Maps.AppendAt
import Derived.Lib.AppendZerosOnto
import Derived.Lib.Overlaps
import Derived.Deep.RegionLaw
import Derived.Laws.Externs
import Derived.IntWalk
import Derived.Lib.QuietBelow
import Derived.Lib.SliceRun
import Derived.BigRegion
import Derived.Maps.OwnSet
import Derived.Maps.RangeWalk
import Derived.Shelf.SlMaps.Clone
import Derived.LaidEqlPtr
import Derived.WalkSpells
import Derived.ChangeKeysEq
import Derived.Laws.StructEq
import Derived.Defers
import Derived.Laws.EntriesVeiled
import Derived.Deep.CutRange
import Derived.StillTailTactics
import Derived.ShutString
import Derived.ChangeOld
namespace Go.Proofs.YthfnbpjegjbbiaaGreat
set_option linter.unusedVariables false
set_option maxRecDepth 100000
set_option maxHeartbeats 8000000
open Go.ChangeShapes Go.WideShapes Go.ChangeAt Go.RowKit
open Go.Joins Go.Deep
open Go.ChangeShapes Go.WideShapes Go.ChangeAt Go.RowKit Go.Maps
open Go.ChangeMaps (setBlock heap_setBlock_same heap_setBlock_other)
open Go.Value renaming pointer → AI
open Go.Value renaming int → AA
open Go.IntKind renaming i64 → AB
open Option renaming some → AE
open Option renaming none → AD
open Lib renaming hid → AG
open Go.Ending renaming returned → AH
open Go.Value renaming slice → AJ
open Go.Obj renaming cells → AK
open Go.Value renaming agg → AL
open Go.Value renaming tuple → AM
open Go.Lib renaming hid → AO
open Go.Proofs.Tryz renaming prog → AP, underlying101 → Ad, underlying116 → Be, results139 → Cc
open Nat renaming le_refl → AQ, mul_le_mul_right → Af, le_trans → Ag, lt_or_ge → Ak, zero_le → Ao, sub_self → As, add_mul → A7, eq_zero_or_pos → BB, one_mul → BH, zero_add → BM, lt_of_lt_of_le → BN, add_sub_cancel → BV, div_le_self → BX, min_eq_left → Bi, add_assoc → B8, mod_lt → CM, mul_comm → CS, lt_trichotomy → CW, zero_mul → CY, min → CZ, reduceAdd → Cd, div_mul_le_self → Cf, lt_of_le_of_lt → Cg, mul_one → Cm, add_sub_cancel_left → Cq
open List renaming append_assoc → AR, getD_eq_getElem?_getD → AT, getElem?_eq_getElem → AU, getElem?_cons_succ → AV, getElem?_append_right → AW, getElem?_cons_zero → AX, append_nil → AY, length_take → AZ, length_append → Aa, mem_of_getElem? → Ae, mem_append → Ah, length_map → Ai, getElem?_append_left → Aj, set_append_right → Ap, length_drop → Aq, getElem?_take → At, mem_map → Av, getElem?_set → Aw, mem_iff_getElem? → Ax, take_of_length_le → Ay, mem_cons_self → Az, mem_cons → A8, replicate → BC, mem_cons_of_mem → BD, getElem?_eq_none → BG, getElem?_eq_some_iff → BI, nil_append → BL, getElem_of_mem → BP, take_append_drop → BS, length_cons → BW, getElem?_drop → Bc, filter_append → Bd, length_set → Bg, pairwise_iff_getElem → Bh, take_add_one → Bj, getElem?_map → Bk, range → Bo, mem_singleton → Bp, take_zero → Bs, drop_eq_getElem_cons → Bv, mem_of_mem_take → Bw, take_length → B6, set_cons_succ → B7, nodup_cons → CK, mem_filter → CL, take_take → CN, getElem_mem → CO, cons_append → CQ, take_append_of_le_length → Ca, findIdx_le_length → Ck, map_append → Cn, drop_zero → Cr, drop_drop → Cs
open Go.RowKit.Below renaming refl → AS, trans → CR, size → CU, mono → CV
open Go.IntKind renaming i64 → Ab, wrap_i64 → BQ
open Go renaming cell_regrown → Ac, leaves_cons → A6, bodyPost_ret → BA, FrameMode → Bf, wp_region_quiet_below → By, run_underlying → Bz, below_regrown → B0
open Go.IntWalk renaming i64_in → Al
open Go.Sort renaming grow → An
open Go.RowKit renaming intOf → BF
open Iff renaming rfl → BO
open Go.Result renaming andThen → BU
open Int renaming toNat_natCast → BY, natCast_mul → Br, lt_trichotomy → Co
open Go.Value renaming int → BZ, ownBlock → Bq
open Go.Calls renaming regrown_of → Ba
open Go.Builtin renaming zeroCells → Bb
open Go.World.ownsRow renaming frozenAt → Bl, stored → Ct
open Go.Addr renaming add_lit → Bm, add → Cj
open Go.Ending renaming returned → Bn
open And renaming intro → Bt
open Go.Sem renaming run → Bu
open Go.Instr renaming index → CX
open Classical renaming byContradiction → Cb
open List.Perm renaming append_left → Ce, refl → Ci
open Go.Lit renaming int → Cp
open Go.Proofs.Tryz
open Nat.le renaming refl → ar
theorem a5{p:Prop}(h:p:=by omega):p:=h
theorem a6{p:Prop}(h:p:=by decide):p:=h
theorem a7{p:Prop}(h:p:=by kernel_rfl):p:=h
theorem a8{p:Prop}(h:p:=by simp):p:=h
theorem a9{p:Prop}(h:p:=by assumption):p:=h
theorem ae{α:Sort _}(a:α):∃x,x=a:=⟨a,rfl⟩
theorem ao{α:Sort _}(a:α):∃x,a=x:=⟨a,rfl⟩
def st(n:Nat):Nat:=if n%2=1 then n/2^^^3988292384 else n/2
def qC:Nat->Nat->Nat
 |0,n=>n
 |k+1,n=>qC k (st n)
def so(r c:Nat):Nat:=qC 8 (r^^^c)
def wd:Nat->Nat->Nat->Nat
 |0,r,_=>r
 |k+1,r,x=>wd k (so r (x%256)) (x/256)
def top:Nat:=4294967295
def cmx(m n:Nat):Nat:=m^^^n
def cm(n:Nat):Nat:=cmx top n
def nx(s x:Nat):Nat:=cm (wd 8 (cm s) x)
def sm(l:List Nat):Nat:=l.foldl nx 0
def run(r:Nat)(l:List Nat):Nat:=l.foldl (wd 8) r
theorem ve{a:Nat}(h:a<4294967296):st a<4294967296:=by
 unfold st
 split
 ·exact Nat.xor_lt_two_pow (n:=32) a5 a6
 ·omega
theorem yN(k:Nat):∀{a},a<4294967296->qC k a<4294967296:=by
 induction k with
 |zero=>intro a h;exact h
 |succ k ih=>intro a h;exact ih (ve h)
theorem kT(j:Nat):∀k a,qC (k+j) a=qC k (qC j a):=by
 induction j with
 |zero=>intro k a;rfl
 |succ j ih=>intro k a;exact ih k (st a)
theorem br{r c:Nat}(e:r<4294967296)(I:c<256):so r c<4294967296:=yN 8 (Nat.xor_lt_two_pow (n:=32) e a5)
theorem vZ(k:Nat):∀{r:Nat} (x:Nat),r<4294967296->wd k r x<4294967296:=by
 induction k with
 |zero=>intro r x h;exact h
 |succ k ih=>intro r x h;exact ih _ (br h a5)
theorem cX{n:Nat}(h:n<4294967296):cm n<4294967296:=show cmx top n< _ from Nat.xor_lt_two_pow (n:=32) a6 h
theorem dW(m n:Nat):cmx m (cmx m n)=n:=by unfold cmx;rw[<-Nat.xor_assoc,Nat.xor_self,Nat.zero_xor]
theorem AL0(n:Nat):cm (cm n)=n:=dW _ n
theorem XP{s:Nat}(x:Nat)(h:s<4294967296):nx s x<4294967296:=cX (vZ 8 x (cX h))
theorem AF0(r x:Nat):nx (cm r) x=cm (wd 8 r x):=by unfold nx;rw[AL0]
theorem VI(l:List Nat)(x:Nat):sm (l++[x])=nx (sm l) x:=by unfold sm;simp
theorem sA(r:Nat):run r []=r:=by unfold run;rw[List.foldl_nil]
theorem lA(r x:Nat)(l:List Nat):run r (x::l)=run (wd 8 r x) l:=by unfold run;rw[List.foldl_cons]
theorem oE(l:List Nat):∀r,l.foldl nx (cm r)=cm (run r l):=by
 induction l with
 |nil=>intro r;rw[List.foldl_nil,sA]
 |cons x l ih=>intro r;rw[List.foldl_cons,AF0,ih,lA]
theorem AA7:cm 4294967295=0:=a6
theorem yT(l:List Nat):sm l=cm (run 4294967295 l):=by
 rw[<-oE,AA7];unfold sm;exact Eq.refl _
theorem yV(l:List Nat):∀{r},r<4294967296->run r l<4294967296:=by
 induction l with
 |nil=>intro r h;exact h
 |cons x l ih=>intro r h;exact ih (vZ 8 x h)
theorem UH(l:List Nat):sm l<4294967296:=by rw[yT];exact cX (yV l a6)
def NO(l:List Nat):Prop:=∀x∈l,x<18446744073709551616
def Ht(l:List Nat)(num ad:Nat):Nat:=num*4294967296+sm (l++[num,ad])
def Ez(size tag:Nat)(pl:List Nat):List Nat:=pl++BC (size-2-pl.length) 0++[tag]
def Gq(size ad tag:Nat)(pl:List Nat):List Nat:=Ez size tag pl++[Ht (Ez size tag pl) (pl.length+1) ad]
def GH(b:List Nat):Nat:=b.getD (b.length-1) 0/4294967296
def Pa(b:List Nat):Nat:=b.getD (b.length-2) 0
def okW(b:List Nat)(ad:Nat):Bool:=decide (1<=GH b)&&decide (GH b<=b.length-1)&&decide (b=Gq b.length ad (Pa b) (b.take (GH b-1)))
theorem Pz{size tag:Nat}{pl:List Nat}(h:pl.length<=size-2)(e:2<=size):(Ez size tag pl).length=size-1:=by
 unfold Ez;simp;omega
theorem L7{size ad tag:Nat}{pl:List Nat}(h:pl.length<=size-2)(e:2<=size):(Gq size ad tag pl).length=size:=by
 unfold Gq;rw[Aa,Pz h e];simp;omega
theorem sr{l:List Nat}{num ad:Nat}(h:num<4294967296):Ht l num ad<18446744073709551616:=by
 unfold Ht;have:=UH (l++[num,ad]);omega
theorem mI{l:List Nat}{num ad:Nat}:Ht l num ad/4294967296=num:=by
 unfold Ht;have:=UH (l++[num,ad]);omega
theorem sq{l:List Nat}{num ad:Nat}:num*4294967296|||sm (l++[num,ad])=Ht l num ad:=by
 unfold Ht;rw[show num*4294967296=2^32*num by rw[CS]];exact(Nat.two_pow_add_eq_or_of_lt (i:=32) (UH _) num).symm
theorem Ue{size tag:Nat}{pl:List Nat}(hp:NO pl)(I:tag<18446744073709551616):NO (Ez size tag pl):=by
 intro x e;unfold Ez at e;rcases Ah.1 e with e|e
 ·rcases Ah.1 e with e|e
  ·exact hp x e
  ·rw[List.mem_replicate]at e;omega
 ·simp at e;omega
theorem ki{size ad tag:Nat}{pl:List Nat}(hp:NO pl)(I:tag<18446744073709551616)(J:pl.length+1<4294967296):NO (Gq size ad tag pl):=by
 intro x e;unfold Gq at e;rcases Ah.1 e with e|e
 ·exact Ue hp I x e
 ·simp at e;subst e;exact sr J
theorem Sn{α:Type}{l m:List α}{k:Nat}{x d:α}(h:l.length=k):(l++x::m).getD k d=x:=by
 rw[AT,AW a5,h,As];rfl
theorem eg{size ad tag:Nat}{pl:List Nat}(h:pl.length<=size-2)(e:2<=size):(Gq size ad tag pl).getD (size-1) 0=Ht (Ez size tag pl) (pl.length+1) ad:=by
 unfold Gq;exact Sn (Pz h e)
theorem Wx{size ad tag:Nat}{pl:List Nat}(h:pl.length<=size-2)(e:2<=size):GH (Gq size ad tag pl)=pl.length+1:=by
 unfold GH;rw[L7 h e,eg h e,mI]
theorem Ww{size ad tag:Nat}{pl:List Nat}(h:pl.length<=size-2)(I:2<=size):Pa (Gq size ad tag pl)=tag:=by
 unfold Pa;rw[L7 h I];unfold Gq;have e:Ez size tag pl++[Ht (Ez size tag pl) (pl.length+1) ad]=(pl++BC (size-2-pl.length) 0)++tag::[Ht (Ez size tag pl) (pl.length+1) ad]:=by
  conv=>lhs;unfold Ez
  rw[AR,List.singleton_append];rfl
 rw[e];exact Sn (by simp;omega)
theorem UJ{size ad tag:Nat}{pl:List Nat}:(Gq size ad tag pl).take pl.length=pl:=by
 unfold Gq Ez;rw[AR,AR];exact List.take_left' rfl
theorem ry{size ad tag:Nat}{pl:List Nat}(h:pl.length<=size-2)(e:2<=size):okW (Gq size ad tag pl) ad=true:=by
 unfold okW;rw[Wx h e,Ww h e,L7 h e,BV,UJ];simp;omega
theorem Zj{b:List Nat}{n p:Nat}(J:b.length=n)(O:2<=n)(hp:p<=n-2):
  b=b.take p++(b.drop p).take (n-2-p)++[b.getD (n-2) 0]++[b.getD (n-1) 0]/\b.take (n-1)=b.take p++(b.drop p).take (n-2-p)++[b.getD (n-2) 0]:=by
 have e:b.take (n-1)=b.take (n-2)++[b.getD (n-2) 0]:=by
  rw[show n-1=n-2+1 by omega,List.take_succ_eq_append_getElem a5,AT,AU a5];rfl
 have I:b.take (n-2)=b.take p++(b.drop p).take (n-2-p):=by
  conv=>lhs;rw[show n-2=p+(n-2-p)by omega]
  rw[List.take_add]
 have h3:b.take n=b.take (n-1)++[b.getD (n-1) 0]:=by
  conv=>lhs;rw[show n=n-1+1 by omega]
  rw[List.take_succ_eq_append_getElem a5,AT,AU a5];rfl
 refine⟨?_,by rw[e,I]⟩;rw[<-I,<-e,<-h3,Ay a5]
theorem V6{l:List Nat}:(∀x∈l,x=0)↔l=BC l.length 0:=by
 rw[List.eq_replicate_iff];simp
theorem yl{b:List Nat}{ad n:Nat}(J:b.length=n)(h2:2<=n)(h3:1<=GH b)(h4:GH b<=n-1):
  okW b ad=true↔(∀x∈(b.drop (GH b-1)).take (n-2-(GH b-1)),x=0)/\b.getD (n-1) 0=Ht (b.take (n-1)) (GH b) ad:=by
 have hp:GH b-1<=n-2:=a5;obtain⟨Q,e2⟩:=Zj J h2 hp;have hlen:(b.take (GH b-1)).length=GH b-1:=by rw[AZ];omega
 have I:((b.drop (GH b-1)).take (n-2-(GH b-1))).length=n-2-(GH b-1):=by rw[AZ,Aq];omega
 have DN:okW b ad=true↔b=Gq n ad (b.getD (n-2) 0) (b.take (GH b-1)):=by
  unfold okW Pa;rw[J];simp[h3,h4]
 rw[DN,V6,I];have hS:Gq n ad (b.getD (n-2) 0) (b.take (GH b-1))=b.take (GH b-1)++BC (n-2-(GH b-1)) 0++[b.getD (n-2) 0]++[Ht (b.take (GH b-1)++BC (n-2-(GH b-1)) 0++[b.getD (n-2) 0]) (GH b) ad]:=by
  unfold Gq Ez;rw[hlen,show GH b-1+1=GH b by omega]
 rw[hS,e2];generalize b.take (GH b-1)=P at*
 generalize(b.drop (GH b-1)).take (n-2-(GH b-1))=M at*
 generalize n-2-(GH b-1)=k at*
 generalize b.getD (n-2) 0=t at*
 generalize b.getD (n-1) 0=z at*
 generalize GH b=num at*
 constructor
 ·intro h;rw[Q]at h;have h5:=List.append_inj h (by simp[I]);have e:=List.append_inj h5.1 (by simp[I]);have O:=List.append_inj e.1 rfl;refine⟨O.2,?_⟩;have U:z=Ht (P++BC k 0++[t]) num ad:=by simpa using h5.2
  rw[O.2];exact U
 ·rintro⟨h5,e⟩
  conv=>lhs;rw[Q,e]
  rw[h5]
theorem RA{k a b}(h:a=b):Bn (.int k a)=AH (.int k b):=by rw[h]
theorem IK{a b}(h:a=b):Bn (.bool a)=AH (.bool b):=by rw[h]
def Reads(k:IntKind)(w:World)(B:Nat)(a:Option Addr)(n:Nat)(l:List Nat):Prop:=
 l.length=n/\(∀x∈l,(Cp k x).wf=true)/\
 (0<n->∃b off,a=AE ⟨b,off,AD⟩/\b<B/\∀i,i<n->w.cell? ⟨b,off+i,AD⟩=AE (.int k (l.getD i 0:Nat)))
theorem Reads.at_{k w B a n l}(h:Reads k w B a n l){i}(hi:i<n):
  ∃b off c,a=AE ⟨b,off,AD⟩/\b<B/\w.cell? ⟨b,off+i,AD⟩=AE (.int k (c:Nat))/\(Cp k c).wf=true/\Hid (c=l.getD i 0):=by
 obtain⟨I,hw,e⟩:=h;obtain⟨b,off,rfl,hb,e⟩:=e a5;refine⟨b,off,l.getD i 0,rfl,hb,e i hi,hw _ ?_,rfl⟩;have:i<l.length:=a5;rw[AT,AU this];exact CO this
theorem Reads.GQ{k w w' B a n l}(h:Reads k w B a n l)(hb:Below B w w'):Reads k w' B a n l:=by
 obtain⟨O,hw,e⟩:=h;refine⟨O,hw,λJ=>?_⟩;obtain⟨b,off,rfl,I,e⟩:=e J;exact⟨b,off,rfl,I,λi hi=>(hb.cell (p:=⟨b,off+i,AD⟩) I).trans (e i hi)⟩
theorem Reads.drewN{k w B a n l}(h:Reads k w B a n l)(m:Nat):Reads k (w.drewN m) B a n l:=h
theorem DA{B a w}(h:Below B a w)(n:Nat):Below B a (w.drewN n):=⟨h.os,h.tape,h.output,h.size,h.block⟩
theorem Ra{c:Nat}(h:(Cp .u64 c).wf=true):c<18446744073709551616:=by
 simp[Lit.wf,IntKind.min,IntKind.max,IntKind.signed,IntKind.bits]at h;omega
theorem PY{c:Nat}(h:c<18446744073709551616):(Cp .u64 c).wf=true:=by
 simp[Lit.wf,IntKind.min,IntKind.max,IntKind.signed,IntKind.bits];omega
theorem info_parts{t z s b}(h:(AP.info? t).map (λi=>(i.zero,i.size,i.bytes))=AE (AE z,s,b)):
  ∃i,AP.info? t=AE i/\i.zero=AE z/\i.size=s/\i.bytes=b:=by
 rcases hi:AP.info? t with _|i
 ·rw[hi]at h;cases h
 ·rw[hi]at h;simp at h;exact⟨i,rfl,h.1,h.2.1,h.2.2⟩
def Row(w:World)(g:Nat)(t:TypeId)(cs:List Value):Prop:=w.heap[g]?=AE (.cells cs.toArray t (0,0))
section
variable{w w':World}{g:Nat}{t:TypeId}{cs:List Value}
theorem Row.lt(h:Row w g t cs):g<w.heap.size:=by
 rcases Ak g w.heap.size with e|I
 ·exact e
 ·unfold Row at h;rw[Array.getElem?_eq_none I]at h;cases h
theorem Row.cell(h:Row w g t cs)(i:Nat):w.cell? ⟨g,i,AD⟩=cs[i]?:=by
 unfold Row at h;simp[World.cell?,h]
theorem Row.free(h:Row w g t cs)(i:Nat):w.frozen? ⟨g,i,AD⟩=false:=frozen_of_row w g i _ t h
theorem Row.set(h:Row w g t cs)(i:Nat)(u:Value):Row (w.setCell ⟨g,i,AD⟩ u) g t (cs.set i u):=by
 unfold Row at h⊢;rw[heap_setCell_same w g i _ t u h];simp
theorem Row.E4(h:Row w g t cs){p}(hp:g≠p.block)(u:Value):Row (w.setCell p u) g t cs:=(heap_setCell_other w p g u hp).trans h
theorem Row.drewN(h:Row w g t cs)(n:Nat):Row (w.drewN n) g t cs:=h
theorem Row.alloc(h:Row w g t cs)(o:Obj):Row (w.alloc o) g t cs:=(Below.heap_alloc w o g h.lt).trans h
theorem Row.below{B}(h:Row w g t cs)(hb:Below B w w')(e:g<B):Row w' g t cs:=(hb.block g e).trans h
theorem Row.reads{k}{l:List Nat}(h:Row w g t cs){n}(e:l.length=n)(hw:∀x∈l,(Cp k x).wf=true)
  (I:∀i,i<n->cs[i]?=AE (.int k (l.getD i 0:Nat))){B}(J:g<B):Reads k w B (AE ⟨g,0,AD⟩) n l:=
 ⟨e,hw,λ_=>⟨g,0,rfl,J,λi hi=>by rw[BM,h.cell];exact I i hi⟩⟩
end
theorem Row.q2{w:World}{b:Nat}{t:TypeId}{x0 x1:Value}{l:List Value}(h:Row w b t (x0::x1::l)):w.cell? ⟨b,0,AD⟩=AE x0/\w.cell? ⟨b,1,AD⟩=AE x1:=⟨h.cell 0,h.cell 1⟩
theorem Row.r2{w:World}{b:Nat}{t:TypeId}{l:List Value}(h:Row w b t l):w.frozen? ⟨b,0,AD⟩=false/\w.frozen? ⟨b,1,AD⟩=false:=⟨h.free 0,h.free 1⟩
theorem Row.q3{w:World}{b:Nat}{t:TypeId}{x0 x1 x2:Value}{l:List Value}(h:Row w b t (x0::x1::x2::l)):w.cell? ⟨b,0,AD⟩=AE x0/\w.cell? ⟨b,1,AD⟩=AE x1/\w.cell? ⟨b,2,AD⟩=AE x2:=⟨h.cell 0,h.cell 1,h.cell 2⟩
theorem Row.r3{w:World}{b:Nat}{t:TypeId}{l:List Value}(h:Row w b t l):w.frozen? ⟨b,0,AD⟩=false/\w.frozen? ⟨b,1,AD⟩=false/\w.frozen? ⟨b,2,AD⟩=false:=⟨h.free 0,h.free 1,h.free 2⟩
theorem Row.q4{w:World}{b:Nat}{t:TypeId}{x0 x1 x2 x3:Value}{l:List Value}(h:Row w b t (x0::x1::x2::x3::l)):w.cell? ⟨b,0,AD⟩=AE x0/\w.cell? ⟨b,1,AD⟩=AE x1/\w.cell? ⟨b,2,AD⟩=AE x2/\w.cell? ⟨b,3,AD⟩=AE x3:=⟨h.cell 0,h.cell 1,h.cell 2,h.cell 3⟩
theorem Row.r4{w:World}{b:Nat}{t:TypeId}{l:List Value}(h:Row w b t l):w.frozen? ⟨b,0,AD⟩=false/\w.frozen? ⟨b,1,AD⟩=false/\w.frozen? ⟨b,2,AD⟩=false/\w.frozen? ⟨b,3,AD⟩=false:=⟨h.free 0,h.free 1,h.free 2,h.free 3⟩
theorem Row.q5{w:World}{b:Nat}{t:TypeId}{x0 x1 x2 x3 x4:Value}{l:List Value}(h:Row w b t (x0::x1::x2::x3::x4::l)):w.cell? ⟨b,0,AD⟩=AE x0/\w.cell? ⟨b,1,AD⟩=AE x1/\w.cell? ⟨b,2,AD⟩=AE x2/\w.cell? ⟨b,3,AD⟩=AE x3/\w.cell? ⟨b,4,AD⟩=AE x4:=⟨h.cell 0,h.cell 1,h.cell 2,h.cell 3,h.cell 4⟩
theorem Row.r5{w:World}{b:Nat}{t:TypeId}{l:List Value}(h:Row w b t l):w.frozen? ⟨b,0,AD⟩=false/\w.frozen? ⟨b,1,AD⟩=false/\w.frozen? ⟨b,2,AD⟩=false/\w.frozen? ⟨b,3,AD⟩=false/\w.frozen? ⟨b,4,AD⟩=false:=⟨h.free 0,h.free 1,h.free 2,h.free 3,h.free 4⟩
theorem Row.q6{w:World}{b:Nat}{t:TypeId}{x0 x1 x2 x3 x4 x5:Value}{l:List Value}(h:Row w b t (x0::x1::x2::x3::x4::x5::l)):w.cell? ⟨b,0,AD⟩=AE x0/\w.cell? ⟨b,1,AD⟩=AE x1/\w.cell? ⟨b,2,AD⟩=AE x2/\w.cell? ⟨b,3,AD⟩=AE x3/\w.cell? ⟨b,4,AD⟩=AE x4/\w.cell? ⟨b,5,AD⟩=AE x5:=⟨h.cell 0,h.cell 1,h.cell 2,h.cell 3,h.cell 4,h.cell 5⟩
theorem Row.r6{w:World}{b:Nat}{t:TypeId}{l:List Value}(h:Row w b t l):w.frozen? ⟨b,0,AD⟩=false/\w.frozen? ⟨b,1,AD⟩=false/\w.frozen? ⟨b,2,AD⟩=false/\w.frozen? ⟨b,3,AD⟩=false/\w.frozen? ⟨b,4,AD⟩=false/\w.frozen? ⟨b,5,AD⟩=false:=⟨h.free 0,h.free 1,h.free 2,h.free 3,h.free 4,h.free 5⟩
theorem Row.q7{w:World}{b:Nat}{t:TypeId}{x0 x1 x2 x3 x4 x5 x6:Value}{l:List Value}(h:Row w b t (x0::x1::x2::x3::x4::x5::x6::l)):w.cell? ⟨b,0,AD⟩=AE x0/\w.cell? ⟨b,1,AD⟩=AE x1/\w.cell? ⟨b,2,AD⟩=AE x2/\w.cell? ⟨b,3,AD⟩=AE x3/\w.cell? ⟨b,4,AD⟩=AE x4/\w.cell? ⟨b,5,AD⟩=AE x5/\w.cell? ⟨b,6,AD⟩=AE x6:=⟨h.cell 0,h.cell 1,h.cell 2,h.cell 3,h.cell 4,h.cell 5,h.cell 6⟩
theorem Row.r7{w:World}{b:Nat}{t:TypeId}{l:List Value}(h:Row w b t l):w.frozen? ⟨b,0,AD⟩=false/\w.frozen? ⟨b,1,AD⟩=false/\w.frozen? ⟨b,2,AD⟩=false/\w.frozen? ⟨b,3,AD⟩=false/\w.frozen? ⟨b,4,AD⟩=false/\w.frozen? ⟨b,5,AD⟩=false/\w.frozen? ⟨b,6,AD⟩=false:=⟨h.free 0,h.free 1,h.free 2,h.free 3,h.free 4,h.free 5,h.free 6⟩
theorem Row.q8{w:World}{b:Nat}{t:TypeId}{x0 x1 x2 x3 x4 x5 x6 x7:Value}{l:List Value}(h:Row w b t (x0::x1::x2::x3::x4::x5::x6::x7::l)):w.cell? ⟨b,0,AD⟩=AE x0/\w.cell? ⟨b,1,AD⟩=AE x1/\w.cell? ⟨b,2,AD⟩=AE x2/\w.cell? ⟨b,3,AD⟩=AE x3/\w.cell? ⟨b,4,AD⟩=AE x4/\w.cell? ⟨b,5,AD⟩=AE x5/\w.cell? ⟨b,6,AD⟩=AE x6/\w.cell? ⟨b,7,AD⟩=AE x7:=⟨h.cell 0,h.cell 1,h.cell 2,h.cell 3,h.cell 4,h.cell 5,h.cell 6,h.cell 7⟩
theorem Row.r8{w:World}{b:Nat}{t:TypeId}{l:List Value}(h:Row w b t l):w.frozen? ⟨b,0,AD⟩=false/\w.frozen? ⟨b,1,AD⟩=false/\w.frozen? ⟨b,2,AD⟩=false/\w.frozen? ⟨b,3,AD⟩=false/\w.frozen? ⟨b,4,AD⟩=false/\w.frozen? ⟨b,5,AD⟩=false/\w.frozen? ⟨b,6,AD⟩=false/\w.frozen? ⟨b,7,AD⟩=false:=⟨h.free 0,h.free 1,h.free 2,h.free 3,h.free 4,h.free 5,h.free 6,h.free 7⟩
theorem Row.q9{w:World}{b:Nat}{t:TypeId}{x0 x1 x2 x3 x4 x5 x6 x7 x8:Value}{l:List Value}(h:Row w b t (x0::x1::x2::x3::x4::x5::x6::x7::x8::l)):w.cell? ⟨b,0,AD⟩=AE x0/\w.cell? ⟨b,1,AD⟩=AE x1/\w.cell? ⟨b,2,AD⟩=AE x2/\w.cell? ⟨b,3,AD⟩=AE x3/\w.cell? ⟨b,4,AD⟩=AE x4/\w.cell? ⟨b,5,AD⟩=AE x5/\w.cell? ⟨b,6,AD⟩=AE x6/\w.cell? ⟨b,7,AD⟩=AE x7/\w.cell? ⟨b,8,AD⟩=AE x8:=⟨h.cell 0,h.cell 1,h.cell 2,h.cell 3,h.cell 4,h.cell 5,h.cell 6,h.cell 7,h.cell 8⟩
theorem Row.r9{w:World}{b:Nat}{t:TypeId}{l:List Value}(h:Row w b t l):w.frozen? ⟨b,0,AD⟩=false/\w.frozen? ⟨b,1,AD⟩=false/\w.frozen? ⟨b,2,AD⟩=false/\w.frozen? ⟨b,3,AD⟩=false/\w.frozen? ⟨b,4,AD⟩=false/\w.frozen? ⟨b,5,AD⟩=false/\w.frozen? ⟨b,6,AD⟩=false/\w.frozen? ⟨b,7,AD⟩=false/\w.frozen? ⟨b,8,AD⟩=false:=⟨h.free 0,h.free 1,h.free 2,h.free 3,h.free 4,h.free 5,h.free 6,h.free 7,h.free 8⟩
theorem Row.q10{w:World}{b:Nat}{t:TypeId}{x0 x1 x2 x3 x4 x5 x6 x7 x8 x9:Value}{l:List Value}(h:Row w b t (x0::x1::x2::x3::x4::x5::x6::x7::x8::x9::l)):w.cell? ⟨b,0,AD⟩=AE x0/\w.cell? ⟨b,1,AD⟩=AE x1/\w.cell? ⟨b,2,AD⟩=AE x2/\w.cell? ⟨b,3,AD⟩=AE x3/\w.cell? ⟨b,4,AD⟩=AE x4/\w.cell? ⟨b,5,AD⟩=AE x5/\w.cell? ⟨b,6,AD⟩=AE x6/\w.cell? ⟨b,7,AD⟩=AE x7/\w.cell? ⟨b,8,AD⟩=AE x8/\w.cell? ⟨b,9,AD⟩=AE x9:=⟨h.cell 0,h.cell 1,h.cell 2,h.cell 3,h.cell 4,h.cell 5,h.cell 6,h.cell 7,h.cell 8,h.cell 9⟩
theorem Row.r11{w:World}{b:Nat}{t:TypeId}{l:List Value}(h:Row w b t l):w.frozen? ⟨b,0,AD⟩=false/\w.frozen? ⟨b,1,AD⟩=false/\w.frozen? ⟨b,2,AD⟩=false/\w.frozen? ⟨b,3,AD⟩=false/\w.frozen? ⟨b,4,AD⟩=false/\w.frozen? ⟨b,5,AD⟩=false/\w.frozen? ⟨b,6,AD⟩=false/\w.frozen? ⟨b,7,AD⟩=false/\w.frozen? ⟨b,8,AD⟩=false/\w.frozen? ⟨b,9,AD⟩=false/\w.frozen? ⟨b,10,AD⟩=false:=⟨h.free 0,h.free 1,h.free 2,h.free 3,h.free 4,h.free 5,h.free 6,h.free 7,h.free 8,h.free 9,h.free 10⟩
theorem Row.q12{w:World}{b:Nat}{t:TypeId}{x0 x1 x2 x3 x4 x5 x6 x7 x8 x9 e x11:Value}{l:List Value}(h:Row w b t (x0::x1::x2::x3::x4::x5::x6::x7::x8::x9::e::x11::l)):w.cell? ⟨b,0,AD⟩=AE x0/\w.cell? ⟨b,1,AD⟩=AE x1/\w.cell? ⟨b,2,AD⟩=AE x2/\w.cell? ⟨b,3,AD⟩=AE x3/\w.cell? ⟨b,4,AD⟩=AE x4/\w.cell? ⟨b,5,AD⟩=AE x5/\w.cell? ⟨b,6,AD⟩=AE x6/\w.cell? ⟨b,7,AD⟩=AE x7/\w.cell? ⟨b,8,AD⟩=AE x8/\w.cell? ⟨b,9,AD⟩=AE x9/\w.cell? ⟨b,10,AD⟩=AE e/\w.cell? ⟨b,11,AD⟩=AE x11:=⟨h.cell 0,h.cell 1,h.cell 2,h.cell 3,h.cell 4,h.cell 5,h.cell 6,h.cell 7,h.cell 8,h.cell 9,h.cell 10,h.cell 11⟩
instance : Coe Nat Value := ⟨λn => AA AB n⟩
instance : Coe Int Value := ⟨λn => AA AB n⟩
instance : Coe Nat Addr := ⟨λb => ⟨b, 0, AD⟩⟩
instance : Coe World Nat := ⟨λw => w.heap.size⟩
instance : Coe Unit Value := ⟨λ_ => AA AB 0⟩
instance : Coe Bool Value := ⟨.bool⟩
instance (b k : Nat) : CoeDep (Nat × Nat) (b, k) Addr := ⟨⟨b, k, AD⟩⟩
instance (b k : Nat) : CoeDep (Nat × Nat) (b, k) (Option Addr) := ⟨AE ⟨b, k, AD⟩⟩
instance (w : World) (k : Nat) : CoeDep (World × Nat) (w, k) Addr := ⟨⟨w.heap.size, k, AD⟩⟩
instance (w : World) (k : Nat) : CoeDep (World × Nat) (w, k) (Option Addr) := ⟨AE ⟨w.heap.size, k, AD⟩⟩
theorem JA{P}(w:World){ops}{rest}{o}{a}{Q}
  (hg:o.guard=AD)(l c:Operand)(t:TypeId)(Yd:o.op=Op.makeSlice t l c)
  (e:TypeId)(i:TypeInfo)(z:Value)(h1:P.underlying t=AE (.slice e))(h2:P.info? e=AE i)(h3:i.zero=AE z)(h4:i.size=1)(h5:z.cells=#[z])
  (U kc:IntKind)(L C:Int)(n:Nat)(hl:a.eval l=.int U L)(hc:a.eval c=.int kc C)(hL:L=(n:Int))(hC:C=(n:Int))(b2:i.bytes*n<=281474976710656)(b3:n<=9223372036854775807)
  (hK:∀w',Row w' w.heap.size e (BC n z)->Below w.heap.size w w'->w'.heap.size=w.heap.size+1->wpList P ops Q rest (a.put o.dst (.slice (AE ⟨w.heap.size,0,AD⟩) n n)) w'):
  wpList P ops Q (o::rest) a w:=by
 refine wpList_plain hg λK O=>?_;have J:(i.bytes:Int)*(n:Int)<=281474976710656:=by
  have h:((i.bytes*n:Nat):Int)<=281474976710656:=a5;rwa [Br]at h
 have I:=run_make (P:=P) w t e i z h1 h2 h3 U kc n n a5 (Int.le_refl _) J a5;subst hL;subst hC;simp only[BY]at I;unfold Oper.wp;simp[execOp,Yd,hl,hc,I,BU];refine O _ _ (hK _ ?_ ((AS _ _).alloc ar _) a8);show _= _;rw[heap_alloc_new,h4,Cm,h5]
 congr 2
 exact Array.toList_inj.1 (by rw[toList_madeCells_one])
theorem Nm{P}(w:World)(base:Nat)(t ty e:TypeId)(i:TypeInfo)(I:P.underlying t=AE (.slice e))(hi:P.info? e=AE i)
  (v:Value)(n:Nat)(xs:List Value)(J:w.ownsRow base e 1 v n xs)(c:Nat):(Builtin.append_ #[t,t] ty #[v,.slice AD 0 c]).run P w=.ok v w:=by
 rcases J.2 with⟨rfl,rfl⟩|⟨g,cap,cur,rfl,_,_,hnc,_⟩
 ·simp[Builtin.append_,Bz I,sizeOf,typeInfo,hi,Builtin.lenOf,Builtin.firstCells]
 ·simp[Builtin.append_,Bz I,sizeOf,typeInfo,hi,Builtin.lenOf,Builtin.firstCells,hnc,storeCells]
theorem Jc{P}(w:World){ops}{rest}{o}{a}{Q}(Th:o.guard=AD)(s x:Operand)(t:TypeId)
  (ho:o.op=.call {callee:=.builtin .append,args:=#[s,x],argTypes:=#[t,t]})
  (base:Nat)(e:TypeId)(i:TypeInfo)(z:Value)(bytes:Nat)(ht:P.underlying t=AE (.slice e))(hi:P.info? e=AE i)(hz:i.zero=AE z)
  (GO:i.size=1)(wm:i.bytes=bytes)(mX:z.cells.size=1)
  (v:Value)(n:Nat)(xs:List Value)(hs:a.eval s=v)(O:w.ownsRow base e 1 v n xs)
  (A:Option Addr)(m c:Nat)(news:List Value)(U:a.eval x=.slice A m c)(hl:news.length=m)
  (QU:0<m->∃ad,A=AE ad/\∀j u,news[j]?=AE u->w.cell? (ad.add j)=AE u)(h1:∀u∈news,u.oneCell'=true)
  (uI:n+m<=9223372036854775807)(MW:(n+m)*bytes<=140737488355328)(I1:base<=w.heap.size)
  (h:∀v' w',w'.ownsRow base e 1 v' (n+m) (xs++news)->Below base w w'->wpList P ops Q rest (a.put o.dst v') w'):wpList P ops Q (o::rest) a w:=by
 rcases A with _|ad
 ·have hm:m=0:=by
   rcases BB m with I|I
   ·exact I
   ·obtain⟨ad,hh,_⟩:=QU I;cases hh
  subst hm;obtain rfl:news=[]:=List.eq_nil_of_length_eq_zero hl;refine wpList_plain Th λK hK=>?_;have J:=Nm (P:=P) w base t o.type e i ht hi v n xs O c;unfold Oper.wp;simp[execOp,ho,resolve,invoke,builtin,hs,U,J,BU];exact hK _ _ (h v w (by simpa using O) (AS _ _))
 ·refine wpList_append_own w Th s x t ho base e i z 1 bytes ht hi hz GO wm mX a5 v n xs hs O ad m c news U a5 ?_ h1 uI MW I1 ?_
  ·intro j u hj;rcases BB m with I|I
   ·obtain rfl:news=[]:=List.eq_nil_of_length_eq_zero a5;simp at hj
   ·obtain⟨ab,hh,hc⟩:=QU I;injection hh with hh;subst hh
    exact hc j u hj
  ·intro v' w' h2 h3 _;exact h v' w' h2 ((AS _ _).grown h3 I1 λk hk=>(O.lt k hk).1)
theorem fL{w base e v n k}{l:List Nat}(h:w.ownsRow base e 1 v n (l.map λc:Nat=>BZ k c))(hw:∀x∈l,(Cp k x).wf=true):
  ∃A c,v=AJ A n c/\Reads k w w.heap.size A n l/\l.length=n:=by
 obtain⟨Q,U⟩:=h;have I:l.length=n:=by simpa using Q
 rcases U with⟨rfl,rfl⟩|⟨g,cap,cur,rfl,hg,hh,hcap,hm,hs,ht⟩
 ·exact⟨AD,0,rfl,⟨I,hw,λh=>absurd h a5⟩,I⟩
 ·refine⟨AE ⟨g,0,AD⟩,cap,rfl,⟨I,hw,λ_=>⟨g,0,rfl,?_,λi hi=>?_⟩⟩,I⟩
  ·rcases Ak g w.heap.size with J|O
   ·exact J
   ·rw[Array.getElem?_eq_none O]at hh;cases hh
  ·have h3:w.cell? ⟨g,0+i,AD⟩=cur[0+i]?:=by simp[World.cell?,hh]
   rw[h3,BM];have h4:(cur.toList.take (n*1))[i]?=cur.toList[i]?:=by rw[At,if_pos a5]
   rw[ht]at h4;rw[<-Array.getElem?_toList,<-h4,Bk,AT];rw[AU a5];rfl
theorem sU{w base e v n xs}(h:w.ownsRow base e 1 v n xs)(I:0<n):
  ∃g cap cs,v=AJ (AE ⟨g,0,AD⟩) n cap/\base<=g/\Row w g e cs/\n<=cap/\cap<=maxLen/\cs.length=cap/\cs.take n=xs:=by
 rcases h.2 with⟨_,h0⟩|⟨g,cap,cur,rfl,hg,hh,hcap,hm,hs,ht⟩
 ·omega
 ·exact⟨g,cap,cur.toList,rfl,hg,hh,hcap,hm,by simpa using hs,by simpa using ht⟩
def AX3(k:IntKind)(w:World)(a:Option Addr)(len cap:Nat)(zs:List Int):Prop:=
 (a=AD/\len=0/\cap=0/\zs=[])\/
 ∃x,a=AE x/\len<=cap/\cap<=maxLen/\zs.length=cap/\(∀i,i<zs.length->w.cell? (x.add i)=AE (.int k (zs.getD i 0)))/\∀n∈zs,(Cp k n).wf=true
theorem Zr{n}(h:(Cp AB n).wf=true):-9223372036854775808<=n/\n<=9223372036854775807:=by
 simp[Lit.wf,IntKind.min,IntKind.max,IntKind.signed,IntKind.bits]at h;omega
theorem sF{P}(w:World)(t e:TypeId)(U:TypeInfo)(ht:P.underlying t=AE (.slice e))(hi:P.info? e=AE U)(hs:U.size=1)(b off len cap i j:Nat)(Ii:i<=j)(hj:j<=cap)(ab:i<cap)
  (O Q:IntKind)(I J:Int)(hI:I=i)(hJ:J=j):
  (Instr.slice t (.slice (AE ⟨b,off,AD⟩) len cap) (AE (.int O I)) (AE (.int Q J)) AD).run P w=.ok (.slice (AE ⟨b,off+i,AD⟩) (j-i) (cap-i)) w:=by
 subst hI hJ;have he:P.elem t=e:=by simp[Program.elem,ht]
 rw[run_slice_lh w t _ len cap (by rw[he];exact ht) O Q i j a5 a5 a5];have zR:¬cap=i:=a5;simp[he,sizeOf,typeInfo,hi,hs,sliced,zR,Cj]
theorem EW{P ops Q rest a w}(s:Nat){op}{ty}{pos}{after}{guard}
  (h:Hid (wpList P ops Q (⟨AE s,op,ty,pos,after,guard⟩::rest) a w)):wpList P ops Q (⟨AE s,op,ty,pos,after,guard⟩::rest) a w:=h
theorem Reads.source{k w B a n l}(h:Reads k w B a n l):
  0<n->∃ad,a=AE ad/\∀j u,(l.map λc:Nat=>BZ k c)[j]?=AE u->w.cell? (ad.add j)=AE u:=by
 intro Di;obtain⟨hlen,_,U⟩:=h;obtain⟨b,off,rfl,hb,U⟩:=U Di;refine⟨_,rfl,λj v J=>?_⟩;have I:j<l.length:=by
  rcases Ak j l.length with O|Q
  ·exact O
  ·rw[BG (by simpa using Q)]at J;cases J
 have h1:=U j a5;rw[Bk,AU I]at J;have e:(⟨b,off,AD⟩:Addr).add j=⟨b,off+j,AD⟩:=by unfold Cj;split<;>simp_all
 rw[e,h1,<-J];simp[I]
theorem Ut{k}{l:List Nat}:∀u∈l.map (λc:Nat=>BZ k c),u.oneCell'=true:=by
 intro v e;obtain⟨c,_,rfl⟩:=Av.1 e;rfl
theorem Reads.take{k w B a n m l}(h:Reads k w B a n l)(hm:m<=n):Reads k w B a m (l.take m):=by
 obtain⟨J,hw,e⟩:=h;refine⟨by simp;omega,λx I=>hw x (Bw I),λO=>?_⟩;obtain⟨b,off,rfl,hb,e⟩:=e a5;refine⟨b,off,rfl,hb,λi hi=>?_⟩;rw[e i a5];simp only[AT,At,if_pos hi]
theorem Fh{P}(w:World)(t e:TypeId)(Q:TypeInfo)(O:P.underlying t=AE (.slice e))(hi:P.info? e=AE Q)(a:Option Addr)(len cap j:Nat)(hj:j<=cap)
  (I:IntKind)(J:Int)(U:J=j):
  (Instr.slice t (.slice a len cap) AD (AE (.int I J)) AD).run P w=.ok (.slice a j cap) w:=by
 subst U;have he:P.elem t=e:=by simp[Program.elem,O]
 rw[run_slice_h w t a len cap (by rw[he];exact O) I j a5 a5];have e2:a.map (λx:Addr=>x.add 0)=a:=by cases a<;>simp[Cj]
 simp[he,sizeOf,typeInfo,hi,sliced,e2]
def Gj(n:Int):Prop:=(Cp AB n).wf=true
theorem Gj.bounds{n}(h:Gj n):-9223372036854775808<=n/\n<=9223372036854775807:=Zr h
theorem Gj.of{n}(I:-9223372036854775808<=n)(e:n<=9223372036854775807):Gj n:=by
 simp[Gj,Lit.wf,IntKind.min,IntKind.max,IntKind.signed,IntKind.bits];omega
structure DJ (F:Nat->Prop) (w w':World):Prop where
 os:w'.os=w.os
 tape:w'.tape=w.tape
 output:w'.output=w.output
 size:w.heap.size<=w'.heap.size
 block:∀k,k<w.heap.size->¬F k->w'.heap[k]?=w.heap[k]?
section
variable{F F':Nat->Prop}{w w1 w2:World}
theorem DJ.refl(F:Nat->Prop)(w:World):DJ F w w:=⟨rfl,rfl,rfl,AQ _,λ_ _ _=>rfl⟩
theorem DJ.trans(h:DJ F w w1)(k:DJ F' w1 w2)(hF:∀b,F' b->F b\/w<=b):DJ F w w2:=
 ⟨k.os.trans h.os,k.tape.trans h.tape,k.output.trans h.output,Ag h.size k.size,λb hb e=>(k.block b (BN hb h.size) λhf=>by
  rcases hF b hf with I|I
  ·exact e I
  ·omega).trans (h.block b hb e)⟩
theorem DJ.DE(h:Below w w w1)(F:Nat->Prop):DJ F w w1:=⟨h.os,h.tape,h.output,h.size,λk e _=>h.block k e⟩
theorem DJ.below(h:DJ F w w1){B:Nat}(I:B<=w)(hF:∀b,F b->B<=b):Below B w w1:=⟨h.os,h.tape,h.output,h.size,λk e=>h.block k a5 λhf=>by have:=hF k hf;omega⟩
theorem DJ.mono(h:DJ F w w1)(hF:∀b,F b->F' b):DJ F' w w1:=⟨h.os,h.tape,h.output,h.size,λk I e=>h.block k I λhf=>e (hF k hf)⟩
theorem DJ.drewN(h:DJ F w w1)(m:Nat):DJ F w (w1.drewN m):=⟨h.os,h.tape,h.output,h.size,h.block⟩
theorem DJ.drew(h:DJ F w w1):DJ F w w1.drew:=⟨h.os,h.tape,h.output,h.size,h.block⟩
theorem DJ.set(h:DJ F w w1){p:Addr}(hp:F p.block\/w<=p.block)(v:Value):DJ F w (w1.setCell p v):=by
 have e:=(AS 0 w1).setCell (Ao p.block) v;refine h.trans (F':=λb=>b=p.block) ⟨e.os,e.tape,e.output,e.size,λk _ I=>heap_setCell_other w1 p k v I⟩ ?_;intro b hb;subst hb;exact hp
theorem DJ.alloc(h:DJ F w w1)(o:Obj):DJ F w (w1.alloc o):=h.trans (DJ.DE ((AS _ w1).alloc ar o) λ_=>False) λ_ hf=>hf.elim
theorem DJ.grown(h:DJ F w w1){row}(I:w1.grownBy w2 row)(J:∀k,row=AE k->F k\/w<=k):DJ F w w2:=
 h.trans (F':=λb=>row=AE b) ⟨I.os,I.tape,I.output,I.size,λk Q O=>I.block k Q λe=>O e.symm⟩ λb hb=>J b hb
theorem DJ.row(h:DJ F w w1){g}{t}{cs}(e:Row w g t cs)(I:¬F g):Row w1 g t cs:=(h.block g e.lt I).trans e
end
def AS9(w:World)(B:Nat)(a:Option Addr)(n:Nat)(l:List Bool):Prop:=
 l.length=n/\(0<n->∃b off,a=AE ⟨b,off,AD⟩/\b<B/\∀i,i<n->w.cell? ⟨b,off+i,AD⟩=AE (.bool (l.getD i false)))
theorem VF{P ops Q rest a w t m x v ty pos after guard}
  (h:Hid (wpList P ops Q (⟨AD,.mapUpdate t m x v,ty,pos,after,guard⟩::rest) a w)):wpList P ops Q (⟨AD,.mapUpdate t m x v,ty,pos,after,guard⟩::rest) a w:=h
structure Kept (K:Obj->Prop) (w w':World):Prop where
 os:w'.os=w.os
 tape:w'.tape=w.tape
 output:w'.output=w.output
 size:w.heap.size<=w'.heap.size
 block:∀(k:Nat) (o:Obj),w.heap[k]?=AE o->¬K o->w'.heap[k]?=AE o
def rowsOf(T:TypeId->Prop)(o:Obj):Prop:=∃(cs:Array Value) (t:TypeId),o=.cells cs t (0,0)/\T t
section
variable{K:Obj->Prop}{T:TypeId->Prop}{w w1 w2:World}
theorem Kept.refl(K:Obj->Prop)(w:World):Kept K w w:=⟨rfl,rfl,rfl,AQ _,λ_ _ h _=>h⟩
theorem Kept.trans(h:Kept K w w1)(k:Kept K w1 w2):Kept K w w2:=⟨k.os.trans h.os,k.tape.trans h.tape,k.output.trans h.output,Ag h.size k.size,λi o hi e=>k.block i o (h.block i o hi e) e⟩
theorem Zi{k:Nat}{o}(h:w.heap[k]?=AE o):k<w:=by
 rcases Ak k w.heap.size with e|e
 ·exact e
 ·rw[Array.getElem?_eq_none e]at h;cases h
theorem Kept.set(h:Kept (rowsOf T) w w1){p}{t}{cs}(O:Row w1 p.block t cs)(Q:T t)(v:Value):Kept (rowsOf T) w (w1.setCell p v):=by
 have J:=(AS 0 w1).setCell (Ao p.block) v;refine h.trans ⟨J.os,J.tape,J.output,J.size,λk o I U=>?_⟩;rw[heap_setCell_other w1 p k v λe=>?_]
 ·exact I
 ·subst e;unfold Row at O;rw[O]at I;injection I with I;subst I
  exact U ⟨_,_,rfl,Q⟩
theorem VY(h:Kept (rowsOf T) w w1){base}{e}{n s}{v}{xs}(ER:w.ownsRow base e s v n xs)(hT:¬T e):w1.ownsRow base e s v n xs:=by
 obtain⟨Q,I⟩:=ER;refine⟨Q,?_⟩;rcases I with I|⟨g,cap,cur,rfl,O,hh,r⟩
 ·exact .inl I
 ·exact .inr ⟨g,cap,cur,rfl,O,h.block g _ hh λ⟨_,_,J,U⟩=>hT (by injection J with _ J;subst J;exact U),r⟩
theorem XJ{base e n s v xs}(O:w.ownsRow base e s v n xs){p}{t}{cs}(J:Row w p.block t cs)(I:e≠t)(u:Value):(w.setCell p u).ownsRow base e s v n xs:=
 VY (T:=λx=>x=t) (Kept.set (T:=λx=>x=t) (Kept.refl _ w) J rfl u) O I
end
theorem Fw{w w':World}{base s e v n xs}(h:w.ownsRow base e s v n xs)(hb:∀k,v.ownBlock=AE k->w'.heap[k]?=w.heap[k]?):w'.ownsRow base e s v n xs:=by
 obtain⟨O,I⟩:=h;refine⟨O,?_⟩;rcases I with I|⟨g,cap,cur,rfl,J,hh,r⟩
 ·exact .inl I
 ·exact .inr ⟨g,cap,cur,rfl,J,(hb g rfl).trans hh,r⟩
section
variable{α:Type}
def WN(f:Int->Option α)(i:Int)(x:α):Int->Option α:=λk=>if k=i then AE x else f k
def lay(f:Int->Option α)(l:List (Int×α)):Int->Option α:=l.foldl (λf e=>WN f e.1 e.2) f
def nothing:Int->Option α:=λ_=>AD
theorem Kb(f:Int->Option α)(i:Int)(x:α):WN f i x i=AE x:=by simp[WN]
theorem JV(f:Int->Option α){i k}(x:α)(h:k≠i):WN f i x k=f k:=by simp[WN,h]
theorem SJ(f:Int->Option α)(l:List (Int×α))(i:Int)(x:α):lay f (l++[(i,x)])=WN (lay f l) i x:=by simp[lay,List.foldl_append]
def over(f g:Int->Option α):Int->Option α:=λk=>match f k with|some x=>AE x|none=>g k
theorem ld(f g:Int->Option α)(i:Int)(x:α):over (WN f i x) g=WN (over f g) i x:=by
 funext k
 by_cases h:k=i
 ·subst h;simp[over,WN]
 ·simp[over,WN,h]
theorem XZ(g:Int->Option α):∀(l:List (Int×α)) (f:Int->Option α),lay (over f g) l=over (lay f l) g
 |[],_=>rfl
 |e::l,f=>by
  show lay (WN (over f g) e.1 e.2) l=over (lay (WN f e.1 e.2) l) g;rw[<-ld];exact XZ g l _
theorem VZ(g:Int->Option α):over nothing g=g:=by funext k;rfl
theorem yt(g:Int->Option α)(l:List (Int×α)):lay g l=over (lay nothing l) g:=by rw[<-XZ,VZ]
def kept:List Bool->List (Int×α)->List (Int×α)
 | _,[]=>[]
 |[],_=>[]
 |b::k,e::l=>if b then e::kept k l else kept k l
theorem Vf(p:α->Prop):∀(l:List (Int×α)) (f:Int->Option α),(∀k x,f k=AE x->p x)->(∀e∈l,p e.2)->∀k x,lay f l k=AE x->p x
 |[],f,hf,_=>hf
 |e::l,f,hf,J=>by
  refine Vf p l (WN f e.1 e.2) ?_ λO he=>J O (BD _ he);intro k x I;by_cases h:k=e.1
  ·subst h;rw[Kb]at I;injection I with I;subst I;exact J e Az
  ·rw[JV _ _ h]at I;exact hf k x I
end
structure St where
 size:Nat
 blocks:Int
 fl:Int->Option (List Nat)
 Ds:List (Int×List Nat)
 fb:Bool
 fn:Int
 tb:Bool
 tn:Int
 down:Bool
 Dp:Int
def fresh(size:Nat)(blocks:Int):St:=⟨size,blocks,nothing,[],false,0,false,0,false,0⟩
def blk(n:Nat)(o:Option (List Nat)):List Nat:=match o with|some l=>l|none=>BC n 0
def St.now(s:St)(x:Int):List Nat:=blk s.size (lay s.fl s.Ds x)
def begin(s:St)(right:Bool):Int×St:=
 if s.down then (8,s)else if right=false then (1,s)
 else if s.fb=true/\s.fn=0 then (8,{s with down:=true})
 else
  let fn':=if s.fb then s.fn-1 else s.fn
  if s.tb=true/\s.tn=0 then (6,{s with fn:=fn',tb:=false,tn:=0})
  else (0,{s with fn:=fn',tn:=if s.tb then s.tn-1 else s.tn,Dp:=s.Dp+1})
def right(s:St)(i:Int):Bool:=decide (0<=i)&&decide (i<s.blocks)
def read(s:St)(i:Int):Int×St:=begin s (right s i)
def write(s:St)(i:Int)(l:List Nat):Int×St:=
 let r:=begin s (right s i&&decide (l.length=s.size))
 if r.1=0 then (0,{r.2 with Ds:=s.Ds++[(i,l)]})else r
theorem Gf(s:St)(b:Bool):(begin s b).2.size=s.size/\(begin s b).2.blocks=s.blocks/\(begin s b).2.fl=s.fl/\(begin s b).2.Ds=s.Ds:=by
 unfold begin;split<;>(try split)<;>(try split)<;>(try dsimp only)<;>(try split)<;>exact⟨rfl,rfl,rfl,rfl⟩
theorem aa(s:St)(b:Bool):(begin s b).2.Dp=s.Dp\/(begin s b).2.Dp=s.Dp+1:=by
 unfold begin;split<;>(try split)<;>(try split)<;>(try dsimp only)<;>(try split)<;>first|exact .inl rfl|exact .inr rfl
def Calm(s:St):Prop:=s.down=false/\s.fb=false/\s.tb=false
theorem aI(n:Nat)(b:Int):Calm (fresh n b):=⟨rfl,rfl,rfl⟩
theorem aZ(s:St)(b:Bool)(e:s.down=true):begin s b=(8,s):=by unfold begin;simp[e]
theorem AD6{l:List (Int×Int)}{i}(h:i<l.length):l.getD i (0,0)∈l:=by
 rw[AT,AU h];exact CO h
def AS8(w:World)(B:Nat)(a:Option Addr)(n:Nat)(l:List (Int×Int)):Prop:=
 l.length=n/\(∀x∈l,Gj x.1/\Gj x.2)/\
 (0<n->∃b off,a=AE ⟨b,off,AD⟩/\b<B/\∀i,i<n->w.cell? ⟨b,off+i*2,AD⟩=AE (AA AB (l.getD i (0,0)).1)/\w.cell? ⟨b,off+i*2+1,AD⟩=AE (AA AB (l.getD i (0,0)).2))
def AS7(w:World)(B:Nat)(a:Option Addr)(n:Nat)(l:List Int):Prop:=
 l.length=n/\(∀x∈l,Gj x)/\(0<n->∃b off,a=AE ⟨b,off,AD⟩/\b<B/\∀i,i<n->w.cell? ⟨b,off+i,AD⟩=AE (AA AB (l.getD i 0)))
def Ro(a:Option Addr)(i cap sz:Nat):Option Addr:=if cap=i then a else a.map (·.add (i*sz))
theorem EX{g off i cap sz}(h:i<cap):Ro (AE ⟨g,off,AD⟩) i cap sz=AE ⟨g,off+i*sz,AD⟩:=by
 unfold Ro;rw[if_neg a5];simp[Cj]
section
variable{P:Program}{w:World}
theorem EY(w:World)(t e:TypeId)(O:TypeInfo){sz}(Q:P.underlying t=AE (.slice e))(hi:P.info? e=AE O)(U:O.size=sz)(a:Option Addr)(len cap i:Nat)(ab:i<=len)
  (J:IntKind)(I:Int)(hI:I=i):(Instr.slice t (.slice a len cap) (AE (.int J I)) AD AD).run P w=.ok (.slice (Ro a i cap sz) (len-i) (cap-i)) w:=by
 subst hI;have he:P.elem t=e:=by simp[Program.elem,Q]
 rw[run_slice_l w t a len cap (by rw[he];exact Q) J i a5 a5];simp[he,sizeOf,typeInfo,hi,U,sliced,Ro]
theorem KD(w:World)(t e:TypeId)(U:TypeInfo){sz}(ht:P.underlying t=AE (.slice e))(hi:P.info? e=AE U)(hs:U.size=sz)(a:Option Addr)(len cap i j:Nat)(Ii:i<=j)(hj:j<=cap)
  (O Q:IntKind)(I J:Int)(hI:I=i)(hJ:J=j):(Instr.slice t (.slice a len cap) (AE (.int O I)) (AE (.int Q J)) AD).run P w=.ok (.slice (Ro a i cap sz) (j-i) (cap-i)) w:=by
 subst hI hJ;have he:P.elem t=e:=by simp[Program.elem,ht]
 rw[run_slice_lh w t a len cap (by rw[he];exact ht) O Q i j a5 a5 a5];simp[he,sizeOf,typeInfo,hi,hs,sliced,Ro]
theorem DO{α}(L:List α)(off:Nat)(cs:List α)(h:off+cs.length<=L.length):(splice L off cs).length=L.length:=length_splice L off cs h
theorem EU{α}(L:List α)(off:Nat)(cs:List α)(h:off+cs.length<=L.length){k}(e:k<off\/off+cs.length<=k):(splice L off cs)[k]?=L[k]?:=by
 unfold splice;rcases e with e|e
 ·rw[Aj (by rw[AZ];omega),At,if_pos e]
 ·rw[AW (by rw[AZ];omega),AW (by rw[AZ];omega),Bc]
  congr 1;rw[AZ];omega
theorem JK{α}(C X Y:List α)(a b c:Nat)(hb:b=a+X.length)(I:c=b+Y.length)(h:c<=C.length):(splice (splice C a X) b Y).take c=C.take a++X++Y:=by
 have e:(splice C a X).take b=C.take a++X:=by
  unfold splice;rw[<-AR,Ca (by simp;omega)];exact Ay (by simp;omega)
 unfold splice at e⊢;rw[e,<-AR,Ca (by simp;omega)];exact Ay (by simp;omega)
theorem NS{α}(C X Y:List α)(a b c:Nat)(hb:b=a+X.length)(I:c=b+Y.length)(h:c<=C.length):(splice (splice C b Y) a X).take c=C.take a++X++Y:=by
 have e:splice (splice C b Y) a X=splice (splice C a X) b Y:=by
  apply List.ext_getElem?;intro k;have l1:(splice C a X).length=C.length:=length_splice _ _ _ a5;have J:(splice C b Y).length=C.length:=length_splice _ _ _ a5;by_cases Q:a<=k/\k<a+X.length
  ·rw[EU (splice C a X) b Y a5 a5];unfold splice;rw[AW (by simp;omega),Aj (by simp;omega),AW (by simp;omega),Aj (by simp;omega)]
   congr 1
   simp;omega
  ·rw[EU (splice C b Y) a X a5 a5];by_cases O:b<=k/\k<b+Y.length
   ·unfold splice;rw[AW (by simp;omega),Aj (by simp;omega),AW (by simp;omega),Aj (by simp;omega)]
    congr 1
    simp;omega
   ·rw[EU C b Y a5 a5,EU (splice C a X) b Y a5 a5,EU C a X a5 a5]
 rw[e];exact JK C X Y a b c hb I h
theorem DJ.setRow(w:World)(g:Nat)(cs:Array Value):DJ (λk=>k=g) w (w.setRow g cs):=
 ⟨rfl,rfl,rfl,by simp[World.setRow],λk _ e=>setRow_other w g k cs e⟩
theorem NV(w:World)(dT sT ty e:TypeId){sz}(hu:P.underlying dT=AE (.slice e))(I:(P.info? e).map (·.size)=AE sz)(Vl:0<sz)(dp sp:Option Addr)(O aR J Wy g off:Nat)(cur:List Value)(t:TypeId)(hg:Row w g t cur)
  (cs:List Value)(hn:cs.length=CZ J O*sz)(Di:0<cs.length->dp=AE ⟨g,off,AD⟩/\∃ad,sp=AE ad/\∀j v,cs[j]?=AE v->w.cell? (ad.add j)=AE v)(U:off+cs.length<=cur.length)(h1:∀v∈cs,v.oneCell'=true):
  ∃w',(Builtin.copy_ #[dT,sT] ty #[.slice dp O aR,.slice sp J Wy]).run P w=.ok (goInt (CZ J O)) w'/\Row w' g t (splice cur off cs)/\DJ (λk=>k=g) w w':=by
 obtain⟨i,hi,hs⟩:∃i,P.info? e=AE i/\i.size=sz:=by
  rcases hq:P.info? e with _|i
  ·rw[hq]at I;cases I
  ·rw[hq]at I;exact⟨i,rfl,by simpa using I⟩
 by_cases h0:cs.length=0
 ·obtain rfl:cs=[]:=List.eq_nil_of_length_eq_zero h0;have Lp:CZ J O=0:=by
   rcases BB (CZ J O)with h|h
   ·exact h
   ·have:=Nat.mul_pos h Vl;simp at hn;omega
  have hl:∀(x:Addr),(loadCells x 0).run P w=.ok #[] w:=λx=>by simpa using run_loadCells_list (P:=P) w x [] a8
  refine⟨w,?_,by simpa [splice]using hg,DJ.refl _ _⟩;rw[Lp]
  cases dp<;>cases sp<;>simp[Builtin.copy_,Bz hu,Builtin.lenOf,Builtin.firstCells,sizeOf,typeInfo,hi,Lp,storeCells,hl]
 ·obtain⟨rfl,ad,rfl,EZ⟩:=Di a5;have hf:=run_firstCells_some (P:=P) w sz (CZ J O) ad J Wy cs hn EZ;have Q:=run_storeCells_at P g off t cs 0 cur.toArray w hg (by simpa using U) h1;refine⟨w.setRow g (splice cur off cs).toArray,?_,setRow_heap w g _ _ t _ hg,DJ.setRow w g _⟩;simp only[Nat.add_zero]at Q;have e2:splice cur off cs=cur.take off++cs++cur.drop (off+cs.length):=by unfold splice;rw[AR]
  simp[Builtin.copy_,Bz hu,Builtin.lenOf,sizeOf,typeInfo,hi,hs,hf,Q,e2]
theorem Ed{ops rest o a Q}(Th:o.guard=AD)(d s:Operand)(dT sT:TypeId)
  (ho:o.op=.call {callee:=.builtin .copy,args:=#[d,s],argTypes:=#[dT,sT]})(e:TypeId){sz}(hu:P.underlying dT=AE (.slice e))(ab:(P.info? e).map (·.size)=AE sz)(Vl:0<sz)
  (dp sp:Option Addr)(O aR U Wy:Nat)(hd:a.eval d=.slice dp O aR)(hs:a.eval s=.slice sp U Wy)(g off:Nat)(cur:List Value)(t:TypeId)(hg:Row w g t cur)
  (cs:List Value)(hn:cs.length=CZ U O*sz)(Di:0<cs.length->dp=AE ⟨g,off,AD⟩/\∃ad,sp=AE ad/\∀j v,cs[j]?=AE v->w.cell? (ad.add j)=AE v)(J:off+cs.length<=cur.length)(h1:∀v∈cs,v.oneCell'=true)
  (h:∀w',Hid (Row w' g t (splice cur off cs))->Hid (DJ (λk=>k=g) w w')->wpList P ops Q rest (a.put o.dst (goInt (CZ U O))) w'):wpList P ops Q (o::rest) a w:=by
 obtain⟨w',I,h2,h3⟩:=NV w dT sT o.type e hu ab Vl dp sp O aR U Wy g off cur t hg cs hn Di J h1;refine wpList_plain Th λK hK=>?_;unfold Oper.wp;simp[execOp,ho,resolve,invoke,builtin,hd,hs,I,BU];exact hK _ _ (h w' h2 h3)
theorem GX{ops o a K Q E}(Th:o.guard=AD)(d s:Operand)(dT sT:TypeId)
  (ho:o.op=.call {callee:=.builtin .copy,args:=#[d,s],argTypes:=#[dT,sT]})(e:TypeId){sz}(hu:P.underlying dT=AE (.slice e))(ab:(P.info? e).map (·.size)=AE sz)(Vl:0<sz)
  (dp sp:Option Addr)(O aR U Wy:Nat)(hd:a.eval d=.slice dp O aR)(hs:a.eval s=.slice sp U Wy)(g off:Nat)(cur:List Value)(t:TypeId)(hg:Row w g t cur)
  (cs:List Value)(hn:cs.length=CZ U O*sz)(Di:0<cs.length->dp=AE ⟨g,off,AD⟩/\∃ad,sp=AE ad/\∀j v,cs[j]?=AE v->w.cell? (ad.add j)=AE v)(J:off+cs.length<=cur.length)(h1:∀v∈cs,v.oneCell'=true)
  (h:∀w',Hid (Row w' g t (splice cur off cs))->Hid (DJ (λk=>k=g) w w')->K (a.put o.dst (goInt (CZ U O))) w'):if Region.wanted o (yielded ops a.tmps)=true then Oper.wp P o a w K Q else E:=by
 have hw:Region.wanted o (yielded ops a.tmps)=true:=by simp[Region.wanted,Th]
 rw[if_pos hw];obtain⟨w',I,h2,h3⟩:=NV w dT sT o.type e hu ab Vl dp sp O aR U Wy g off cur t hg cs hn Di J h1;unfold Oper.wp;simp[execOp,ho,resolve,invoke,builtin,hd,hs,I,BU];exact h w' h2 h3
theorem Tp{z}(h:∀v∈z.toList,v.oneCell'=true)(n:Nat):∀v∈(Bb z n).toList,v.oneCell'=true:=by
 intro v I;simp only[Bb,Array.toList_map,Av,Array.mem_toList_iff]at I;obtain⟨i,hi,rfl⟩:=I;have hi:i<n*z.size:=by simpa using hi
 have J:0<z.size:=by
  rcases BB z.size with e|e
  ·rw[e,Nat.mul_zero]at hi;omega
  ·exact e
 have hm:=CM i J;rw[getElem!_pos z _ hm];exact h _ a8
theorem Rw(w:World)(t e ty:TypeId)(z:Value){sz}(ht:P.underlying t=AE (.slice e))(hv:∀w,(zeroValue e).run P w=.ok z w)(hz:z.cells.size=sz)(h1:∀v∈z.cells.toList,v.oneCell'=true)
  (A:Option Addr)(n c g off:Nat)(cur:List Value)(O:TypeId)(Q:Row w g O cur)(Di:0<n->A=AE ⟨g,off,AD⟩)(J:off+n*sz<=cur.length):
  ∃w' U,(Builtin.clear_ #[t] ty #[.slice A n c]).run P w=.ok (AM #[]) w'/\Row w' g O U/\U.length=cur.length/\U.take off=cur.take off/\DJ (λk=>k=g) w w':=by
 cases n with
 |zero=>
  refine⟨w,cur,?_,Q,rfl,rfl,DJ.refl _ _⟩
  cases A<;>simp[Builtin.clear_,Bz ht]
 |succ m=>
  obtain rfl:=Di a5;have hlen:(Bb z.cells (m+1)).toList.length=(m+1)*sz:=by simp[Bb,hz]
  have I:=run_storeCells_at P g off O (Bb z.cells (m+1)).toList 0 cur.toArray w Q (by rw[hlen];simpa using J) (Tp h1 _);simp only[Nat.add_zero]at I;refine⟨_,cur.take off++(Bb z.cells (m+1)).toList++cur.drop (off+(Bb z.cells (m+1)).toList.length),?_,setRow_heap w g cur.toArray _ O (0,0) Q,?_,?_,DJ.setRow w g _⟩
  ·simp[Builtin.clear_,Bz ht,hv,I]
  ·simp[hlen];omega
  ·rw[AR,Ca (by rw[AZ];omega)];rw[CN,Nat.min_self]
end
theorem J7{P w ops rest o a Q}(Th:o.guard=AD)(s:Operand)(t:TypeId)
  (ho:o.op=.call {callee:=.builtin .clear,args:=#[s],argTypes:=#[t]})(e:TypeId)(z:Value){sz}(ht:P.underlying t=AE (.slice e))(hv:∀w,(zeroValue e).run P w=.ok z w)(hz:z.cells.size=sz)(h1:∀v∈z.cells.toList,v.oneCell'=true)
  (A:Option Addr)(n c:Nat)(hs:a.eval s=.slice A n c)(g off:Nat)(cur:List Value)(U:TypeId)(hg:Row w g U cur)(Di:0<n->A=AE ⟨g,off,AD⟩)(J:off+n*sz<=cur.length)
  (h:∀w' O,Row w' g U O->O.length=cur.length->O.take off=cur.take off->DJ (λk=>k=g) w w'->wpList P ops Q rest (a.put o.dst (AM #[])) w'):wpList P ops Q (o::rest) a w:=by
 obtain⟨w',O,I,h2,h3,h4,h5⟩:=Rw w t e o.type z ht hv hz h1 A n c g off cur U hg Di J;refine wpList_plain Th λK hK=>?_;unfold Oper.wp;simp[execOp,ho,resolve,invoke,builtin,hs,I,BU];exact hK _ _ (h w' O h2 h3 h4 h5)
theorem UF{P ops Q rest a w s ts ty pos after guard}
  (h:Hid (wpList P ops Q (⟨AD,.call {callee:=.builtin .clear,args:=#[s],argTypes:=ts},ty,pos,after,guard⟩::rest) a w)):wpList P ops Q (⟨AD,.call {callee:=.builtin .clear,args:=#[s],argTypes:=ts},ty,pos,after,guard⟩::rest) a w:=h
theorem II{P w ops rest o a Q}(Th:o.guard=AD)(s x:Operand)(t:TypeId)
  (ho:o.op=.call {callee:=.builtin .append,args:=#[s,x],argTypes:=#[t,t]})(e:TypeId)(i:TypeInfo){sz}(ht:P.underlying t=AE (.slice e))(hi:P.info? e=AE i)(U:i.size=sz)
  (g k cap:Nat)(hs:a.eval s=.slice g k cap)(cur:List Value)(hg:Row w g e cur)(A:Option Addr)(m c:Nat)(hx:a.eval x=.slice A m c)(cs:List Value)(hl:cs.length=m*sz)
  (EZ:0<m->∃ad,A=AE ad/\∀j v,cs[j]?=AE v->w.cell? (ad.add j)=AE v)(h1:∀v∈cs,v.oneCell'=true)(J:k+m<=cap)(O:k*sz+cs.length<=cur.length)
  (h:∀w',Hid (Row w' g e (splice cur (k*sz) cs))->Hid (DJ (λb=>b=g) w w')->wpList P ops Q rest (a.put o.dst (.slice g (k+m) cap)) w'):wpList P ops Q (o::rest) a w:=by
 subst U;rcases BB m with h0|h0
 ·subst h0;obtain rfl:cs=[]:=List.eq_nil_of_length_eq_zero (by simpa using hl);have ab:∀ad:Addr,(loadCells ad 0).run P w=.ok #[] w:=λad=>by simpa using run_loadCells_list (P:=P) w ad [] a8
  have ae:k<=cap:=a5;have I:(Builtin.append_ #[t,t] o.type #[.slice g k cap,.slice A 0 c]).run P w=.ok (.slice g k cap) w:=by
   cases A<;>simp[Builtin.append_,Bz ht,sizeOf,typeInfo,hi,Builtin.lenOf,Builtin.firstCells,ae,storeCells,ab]
  refine wpList_plain Th λK hK=>?_;unfold Oper.wp;simp[execOp,ho,resolve,invoke,builtin,hs,hx,I,BU];exact hK _ _ (h w (by simpa [splice,Hid]using hg) (DJ.refl _ _))
 ·obtain⟨ad,rfl,al⟩:=EZ h0;have I:=run_append_room (P:=P) w t o.type e i ht hi g k cap cur.toArray hg ad m c cs hl al h1 J (by simpa using O);refine wpList_plain Th λK hK=>?_;unfold Oper.wp;simp only[execOp,ho,resolve,invoke,builtin,hs,hx,I,BU,Sem.run_bind,Sem.run_pure,List.map_toArray,List.map_cons,List.map_nil];refine hK _ _ (h _ ?_ (DJ.setRow w g _));have e2:splice cur (k*i.size) cs=cur.take (k*i.size)++cs++cur.drop (k*i.size+cs.length):=by unfold splice;rw[AR]
  rw[e2];exact setRow_heap w g _ _ e _ hg
theorem G8{P w ops rest o a Q}(Th:o.guard=AD)(s x:Operand)(t tn:TypeId)
  (ho:o.op=.call {callee:=.builtin .append,args:=#[s,x],argTypes:=#[t,tn]})(e:TypeId)(i:TypeInfo)(z:Value){sz bytes}(kn kq:IntKind)(ht:P.underlying t=AE (.slice e))(zB:P.underlying tn=AE (.int kn))(hi:P.info? e=AE i)(hz:i.zero=AE z)
  (ae:i.size=sz)(Vl:0<sz)(wm:i.bytes=bytes)(mX:z.cells.size=sz)(A:Option Addr)(k cap:Nat)(hs:a.eval s=.slice A k cap)(J:List Value)(hl:J.length=k*sz)(hA:A=AD->k=0)
  (hold:∀ad,A=AE ad->∀j v,J[j]?=AE v->w.cell? (ad.add j)=AE v)(m:Nat)(I:Int)(hx:a.eval x=.int kq I)(hI:I=(m:Nat))(hm:0<m)(U:cap<k+m)(uI:k+m<=maxLen)(MW:(k+m)*bytes<=140737488355328)
  (h:∀w' C cur,k+m<=C->C<=maxLen->cur.length=C*sz->cur.take (k*sz)=J->Row w' w.heap.size e cur->w'.heap.size=w.heap.size+1->Below w.heap.size w w'->wpList P ops Q rest (a.put o.dst (.slice w.heap.size (k+m) C)) w'):wpList P ops Q (o::rest) a w:=by
 subst ae;subst wm;subst hI;have hf:(Builtin.firstCells i.size k (.slice A k cap)).run P w.drew=.ok J.toArray w.drew:=by
  cases A with
  |none=>
   obtain rfl:=hA rfl;obtain rfl:J=[]:=List.eq_nil_of_length_eq_zero (by simpa using hl);simp[Builtin.firstCells]
  |some ad=>exact run_firstCells_some (P:=P) w.drew i.size k ad k cap J hl (hold ad rfl)
 have DT:m*i.bytes<=281474976710656:=by
  have:=Af i.bytes (show m<=k+m by omega);omega
 have O:=Lib.run_append_grow_zeros (P:=P) w t tn o.type e i z kq kn ht zB hi hz A k cap J hf m hm Vl U (by unfold maxLen at uI;omega) DT (growslice_fits a5 MW);have ab:=grownCap_ge w (k+m) cap e;have hle:=grownCap_le_maxLen w (k+m) cap e uI;generalize hC:grownCap w (k+m) cap e=C at O ab hle;refine wpList_plain Th λK hK=>?_;unfold Oper.wp;simp only[execOp,ho,resolve,invoke,builtin,hs,hx,O,BU,Sem.run_bind,Sem.run_pure,List.map_toArray,List.map_cons,List.map_nil];refine hK _ _ (h _ C (J++(Bb z.cells m).toList++(Bb z.cells (C-(k+m))).toList) ab hle ?_ ?_ ?_ ?_ ?_)
 ·simp only[Aa,Array.length_toList,size_zeroCells,hl,mX,<-A7]
  congr 1;omega
 ·rw[AR,<-hl];exact List.take_left
 ·unfold Row;rw[show (J++(Bb z.cells m).toList++(Bb z.cells (C-(k+m))).toList).toArray=J.toArray++Bb z.cells m++Bb z.cells (C-(k+m))by apply Array.ext';simp];exact heap_alloc_new w.drew _
 ·simp
 ·exact⟨rfl,rfl,rfl,a8,λk hk=>Below.heap_alloc w.drew _ k hk⟩
theorem Qm{P}(w:World)(base:Nat)(t ty e:TypeId)(i:TypeInfo)(z:Value)(size bytes:Nat)(ht:P.underlying t=AE (.slice e))(hi:P.info? e=AE i)(hz:i.zero=AE z)
  (GO:i.size=size)(wm:i.bytes=bytes)(mX:z.cells.size=size)(ab:0<size)(v:Value)(n:Nat)(xs:List Value)(ER:w.ownsRow base e size v n xs)
  (a:Addr)(m c:Nat)(news:List Value)(Q:news.length=m*size)(QU:∀j u,news[j]?=AE u->w.cell? (a.add j)=AE u)(h1:∀u∈news,u.oneCell'=true)
  (uI:n+m<=maxLen)(MW:(n+m)*bytes<=140737488355328)(I1:base<=w):
  ∃v' w',(Builtin.append_ #[t,t] ty #[v,.slice (AE a) m c]).run P w=.ok v' w'/\w'.ownsRow base e size v' (n+m) (xs++news)/\w.grownBy w' v.ownBlock/\w'.ownsRow base e size v n xs:=by
 obtain⟨v',w',hr,h2,h3,_,_⟩:=run_append_own_at (P:=P) w base t ty e i z size bytes ht hi hz GO wm mX ab v n xs ER a m c news Q QU h1 uI MW I1;refine⟨v',w',hr,h2,h3,?_⟩;subst GO;subst wm;have wM:=ER;obtain⟨U,k2⟩:=ER;rcases k2 with⟨rfl,rfl⟩|⟨g,cap,cur,rfl,WS,hg,hnc,Fy,hcs,AF6⟩
 ·exact⟨U,.inl ⟨rfl,rfl⟩⟩
 ·by_cases I:n+m<=cap
  ·have O:n*i.size+news.length<=cur.size:=by rw[Q,hcs,<-A7];exact Af _ I
   have J:=run_append_room (P:=P) w t ty e i ht hi g n cap cur hg a m c news Q QU h1 I O;rw[hr]at J;injection J with _ J;subst J
   refine⟨U,.inr ⟨g,cap,_,rfl,WS,setRow_heap w g cur _ e _ hg,hnc,Fy,?_,?_⟩⟩
   ·simp only[List.size_toArray,Aa,AZ,Aq,Array.length_toList];omega
   ·rw[AF6,AR];exact Ca a5|>.trans (Ay a5)
  ·refine wM.kept (row:=AD) ⟨h3.os,h3.tape,h3.output,h3.size,λk hk _=>?_⟩ (.inr (by simp[Bq]));have holds:∀j u,xs[j]?=AE u->w.cell? ((g:Addr).add j)=AE u:=wM.cells (g:=g) rfl;have ad:n+m<=9223372036854775807:=by simp only[maxLen]at uI;omega
   have J:=run_append_grow (P:=P) w t ty e i z ht hi hz g n cap xs U holds a m c news Q QU a5 a5 (growslice_fits a5 MW);rw[hr]at J;injection J with _ J;subst J
   exact Below.heap_alloc w.drew _ k hk
theorem Ki{P}{w:World}{ops o a K Q E}(Th:o.guard=AD)(s x:Operand)(t:TypeId)
  (ho:o.op=.call {callee:=.builtin .append,args:=#[s,x],argTypes:=#[t,t]})(base:Nat)(e:TypeId)(i:TypeInfo)(z:Value)(size bytes:Nat)(ht:P.underlying t=AE (.slice e))(hi:P.info? e=AE i)(hz:i.zero=AE z)
  (GO:i.size=size)(O:i.bytes=bytes)(mX:z.cells.size=size)(J:0<size)(v:Value)(n:Nat)(xs:List Value)(hs:a.eval s=v)(ER:w.ownsRow base e size v n xs)
  (ad:Addr)(m c:Nat)(news:List Value)(hx:a.eval x=.slice (AE ad) m c)(hl:news.length=m*size)(QU:∀j u,news[j]?=AE u->w.cell? (ad.add j)=AE u)(h1:∀u∈news,u.oneCell'=true)
  (U:n+m<=maxLen)(MW:(n+m)*bytes<=140737488355328)(I1:base<=w)
  (h:∀v' w',Hid (w'.ownsRow base e size v' (n+m) (xs++news))->w.grownBy w' v.ownBlock->w'.ownsRow base e size v n xs->K (a.put o.dst v') w'):if Region.wanted o (yielded ops a.tmps)=true then Oper.wp P o a w K Q else E:=by
 have hw:Region.wanted o (yielded ops a.tmps)=true:=by simp[Region.wanted,Th]
 rw[if_pos hw];obtain⟨v',w',I,h2,h3,h4⟩:=Qm w base t o.type e i z size bytes ht hi hz GO O mX J v n xs ER ad m c news hl QU h1 U MW I1;unfold Oper.wp;simp[execOp,ho,resolve,invoke,builtin,hs,hx,I,BU];exact h v' w' h2 h3 h4
structure Cy where
 a:Int
 b:Int
 c:Int
 d:Int
 e:Int
def Cy.EE(t:Cy):List Int:=[t.a,t.b,t.c,t.d,t.e]
def D7(t:Cy):Prop:=∀x∈t.EE,Gj x
def Cz:Cy:=⟨0,0,0,0,0⟩
theorem Cy.TG(t:Cy):t.EE.length=5:=rfl
theorem Cy.oM{t u:Cy}(h:t.EE=u.EE):t=u:=by
 obtain⟨a,b,c,d,e⟩:=t;obtain⟨a',b',c',J,I⟩:=u;simp[Cy.EE]at h;obtain⟨rfl,rfl,rfl,rfl,rfl⟩:=h;rfl
def uw(z:Int):Nat:=(z%18446744073709551616).toNat
theorem bK(z:Int):IntKind.u64.wrap z=((uw z:Nat):Int):=by unfold uw;rw[IntKind.wrap_u64];omega
theorem AD8(z:Int):uw z<18446744073709551616:=by unfold uw;omega
theorem OO{z}(h:Gj z):Ab.wrap ((uw z:Nat):Int)=z:=by
 have:=h.bounds;unfold uw;rw[BQ];omega
def DZ(k:Nat)(t:Cy):List Nat:=(t.EE.take k).map uw
theorem Ft{k}(e:k<=5)(t:Cy):(DZ k t).length=k:=by unfold DZ;simp[Cy.TG];omega
def EN(k:Nat)(l:List Cy):List Nat:=l.flatMap (DZ k)
theorem Vv(k:Nat)(l m:List Cy):EN k (l++m)=EN k l++EN k m:=by simp[EN]
theorem Ui(k:Nat)(t:Cy):EN k [t]=DZ k t:=by simp[EN]
theorem K5{k}(e:k<=5):∀l:List Cy,(EN k l).length=l.length*k
 |[]=>by simp[EN]
 |t::l=>by
  have h:=K5 e l;show (DZ k t++EN k l).length= _;rw[Aa,Ft e,h,BW,A7];omega
theorem P4(k:Nat)(l:List Cy):∀x∈EN k l,x<18446744073709551616:=by
 intro x e;obtain⟨t,_,e⟩:=List.mem_flatMap.1 e;obtain⟨z,_,rfl⟩:=Av.1 e;exact AD8 z
theorem Sv{k}(e:k<=5):∀(l:List Cy) (i:Nat),(EN k l).drop (i*k)=EN k (l.drop i)
 |[],i=>by simp[EN]
 |t::l,0=>by simp
 |t::l,i+1=>by
  show (DZ k t++EN k l).drop ((i+1)*k)=EN k (l.drop i);rw[<-Sv e l i,A7,BH,Nat.add_comm,<-Cs,List.drop_left' (Ft e t)]
theorem X0{k}(I:k<=5){l}{i}{t}(h:l[i]?=AE t):((EN k l).drop (i*k)).take k=DZ k t:=by
 rw[Sv I];have hi:i<l.length:=(BI.1 h).1;rw[Bv hi];have e:l[i]=t:=(BI.1 h).2;rw[e];show (DZ k t++EN k (l.drop (i+1))).take k=DZ k t;exact List.take_left' (Ft I t)
def Db(k:Nat)(t:Cy):Bool:=(t.EE.drop k).all (·==0)
def KA(k:Nat)(ws:List Nat):Cy:=
 let g:=λi=>if i<k then Ab.wrap ((ws.getD i 0:Nat):Int)else 0
 ⟨g 0,g 1,g 2,g 3,g 4⟩
theorem Rb{k}(Q:k<=5){t}(J:D7 t)(hf:Db k t=true):KA k (DZ k t)=t:=by
 obtain⟨a,b,c,d,e⟩:=t;have I:=OO (J a (by simp[Cy.EE]));have hb:=OO (J b (by simp[Cy.EE]));have O:=OO (J c (by simp[Cy.EE]));have hd:=OO (J d (by simp[Cy.EE]));have he:=OO (J e (by simp[Cy.EE]))
 match k,Q with
 |0,_=>simp[Db,Cy.EE]at hf;simp[KA,hf]
 |1,_=>simp[Db,Cy.EE]at hf;simp[KA,DZ,Cy.EE,hf,I]
 |2,_=>simp[Db,Cy.EE]at hf;simp[KA,DZ,Cy.EE,hf,I,hb]
 |3,_=>simp[Db,Cy.EE]at hf;simp[KA,DZ,Cy.EE,hf,I,hb,O]
 |4,_=>simp[Db,Cy.EE]at hf;simp[KA,DZ,Cy.EE,hf,I,hb,O,hd]
 |5,_=>simp[KA,DZ,Cy.EE,I,hb,O,hd,he]
def Cw(size:Nat)(width:Int):Nat:=if width<1\/5<width then 0 else (size-2)/width.toNat
def Cu(h c:Nat):Nat:=if 0<c%h then c/h+1 else c/h
section
variable{h c:Nat}
theorem Dx(h:Nat):Cu h 0=0:=by simp[Cu]
theorem Es(J:0<h)(O:0<c):0<Cu h c:=by
 have I:=Nat.div_add_mod c h;unfold Cu;split
 ·exact Nat.succ_pos _
 ·rcases BB (c/h)with e|e
  ·rw[e]at I;omega
  ·exact e
theorem Dl(h c:Nat):Cu h c<=c:=by
 unfold Cu;have J:=Nat.div_add_mod c h;have I:=BX c h
 split
 ·rename_i h3
  rcases BB h with e|e
  ·subst e;simp at h3⊢;omega
  ·rcases BB (c/h)with h4|h4
   ·rw[h4]at J⊢;omega
   ·have:c/h*1<=c/h*h:=Nat.mul_le_mul_left _ e;rw[CS (c/h) h]at this;omega
 ·exact I
theorem I3(hh:0<h)(e:0<c):(Cu h c-1)*h<c/\c<=(Cu h c-1)*h+h/\c-(Cu h c-1)*h=if 0<c%h then c%h else h:=by
 have I:=Nat.div_add_mod c h;have J:=CM c hh;have hp:=Es hh e;unfold Cu at hp⊢;rw[CS]at I;by_cases h3:0<c%h
 ·rw[if_pos h3,if_pos h3,BV];omega
 ·rw[if_neg h3]at hp;rw[if_neg h3,if_neg h3];have h4:(c/h-1)*h+h=c/h*h:=by
   conv=>rhs;rw[show c/h=(c/h-1)+1 by omega,A7,BH]
  omega
theorem LY(hh:0<h):c<=Cu h c*h:=by
 rcases BB c with e|e
 ·omega
 ·have J:=I3 hh e;have I:=Es hh e;have h4:(Cu h c-1)*h+h=Cu h c*h:=by
   conv=>rhs;rw[show Cu h c=(Cu h c-1)+1 by omega,A7,BH]
  omega
theorem Ox(hh:0<h){k}(J:c<=k*h):Cu h c<=k:=by
 rcases BB c with e|e
 ·subst e;rw[Dx];exact Ao _
 ·have O:=(I3 hh e).1;have I:(Cu h c-1)*h<k*h:=a5;have h3:Cu h c-1<k:=Nat.lt_of_mul_lt_mul_right I;omega
theorem Df(hh:0<h){c'}(e:c<=c'):Cu h c<=Cu h c':=Ox hh (Ag e (LY hh))
theorem Qc(hh:0<h):(Cu h (c+1)-1)*h+c%h=c/\c+1-(Cu h (c+1)-1)*h=c%h+1/\Cu h (c+1)-1=c/h:=by
 have I:=Nat.div_add_mod c h;have U:=CM c hh;have key:Cu h (c+1)=c/h+1:=by
  have h5:c+1<=(c/h+1)*h:=by rw[A7,BH,CS];omega
  have Q:=Ox hh h5;have O:=LY (c:=c+1) hh;have J:c/h<Cu h (c+1):=by
   apply Nat.lt_of_not_le;intro e;have:=Af h e;rw[CS (c/h)]at this;omega
  omega
 rw[key,BV,CS];refine⟨I,?_,rfl⟩;omega
theorem KK(h3:c%h=0):Cu h c=c/h:=by unfold Cu;rw[if_neg a5]
end
def Gb(h:Nat)(l:List Cy):List Cy:=l.drop ((Cu h l.length-1)*h)
def JN(h k:Nat)(l:List Cy)(j:Nat):List Nat:=EN k ((l.drop (j*h)).take h)
theorem Mx{h l}(hh:0<h)(e:0<l.length):(Gb h l).length<=h/\0<(Gb h l).length/\(Gb h l).length=l.length-(Cu h l.length-1)*h:=by
 obtain⟨J,I,h3⟩:=I3 hh e;unfold Gb;rw[Aq];omega
theorem lX{h k l}(hh:0<h)(e:0<l.length):JN h k l (Cu h l.length-1)=EN k (Gb h l):=by
 unfold JN;rw[show l.drop ((Cu h l.length-1)*h)=Gb h l from rfl,Ay (Mx hh e).1]
theorem sS{h k}(e:k<=5)(l:List Cy)(j:Nat):(JN h k l j).length<=h*k:=by
 unfold JN;rw[K5 e];exact Af _ (by rw[AZ];omega)
theorem lW{h k l m j}(e:(j+1)*h<=l.length):JN h k (l++m) j=JN h k l j:=by
 unfold JN;rw[A7,BH]at e;rw[List.drop_append_of_le_length a5,Ca (by rw[Aq];omega)]
theorem fI{h k}(e:k<=5)(l:List Cy)(j:Nat):(JN h k l j).length=min h (l.length-j*h)*k:=by
 unfold JN;rw[K5 e,AZ,Aq]
theorem Zk{h}(hh:0<h)(l:List Cy)(t:Cy):Gb h (l++[t])=l.drop (l.length-l.length%h)++[t]/\(Gb h (l++[t])).length=l.length%h+1:=by
 obtain⟨J,I,h3⟩:=Qc (c:=l.length) hh;have e:Gb h (l++[t])=l.drop (l.length-l.length%h)++[t]:=by
  unfold Gb;rw[Aa,List.length_singleton,show (Cu h (l.length+1)-1)*h=l.length-l.length%h by omega,List.drop_append_of_le_length a5]
 refine⟨e,?_⟩;rw[e,Aa,Aq,List.length_singleton];have:=Nat.mod_le l.length h;omega
def TR(k h:Nat)(l:List Cy)(ws:List Nat):Prop:=ws.take (l.length%h*k)=EN k (l.drop (l.length-l.length%h))
theorem nU(k h:Nat)(ws:List Nat):TR k h [] ws:=by simp[TR,EN]
theorem gY{k h l}(ws:List Nat)(e:l.length%h=0):TR k h l ws:=by
 unfold TR;rw[e,CY,Nat.sub_zero,List.drop_length];simp[EN]
theorem nT{k h}(I:k<=5)(hh:0<h){l}{ws}(hw:TR k h l ws)(Q:h*k<=ws.length)(t:Cy):
  (splice ws (l.length%h*k) (DZ k t)).take ((Gb h (l++[t])).length*k)=EN k (Gb h (l++[t])):=by
 obtain⟨O,J⟩:=Zk hh l t;rw[J,O,Vv,Ui,<-hw];have hm:=CM l.length hh;have hb:l.length%h*k+k<=h*k:=by
  have:=Af k (show l.length%h+1<=h by omega);rw[A7,BH]at this;exact this
 have e:=Ft I t;unfold splice;rw[<-AR,Ca (by simp[e,A7];omega)];exact Ay (by simp[e,A7];omega)
theorem UX{k h}(hh:0<h){l}{ws}(J:l.length%h≠0):TR k h l ws↔ws.take ((Gb h l).length*k)=EN k (Gb h l):=by
 have I:0<l.length:=by
  rcases BB l.length with e|e
  ·rw[e]at J;simp at J
  ·exact e
 obtain⟨e,Q,h3⟩:=I3 hh I;rw[if_pos a5]at h3;have O:=(Mx hh I).2.2;unfold TR;rw[O,h3];unfold Gb;rw[show l.length-l.length%h=(Cu h l.length-1)*h by omega]
def EO(D:St)(first k h:Nat)(l:List Cy)(m:Nat):Prop:=∀j,j<m->D.now ((first+j:Nat):Int)=Gq D.size (first+j) k (JN h k l j)
theorem Pj{s i l}(e:(write s i l).1=0):(write s i l).2.now i=l/\(∀x,x≠i->(write s i l).2.now x=s.now x)/\(write s i l).2.size=s.size/\(write s i l).2.blocks=s.blocks:=by
 obtain⟨J,Q,I,U⟩:=Gf s (right s i&&decide (l.length=s.size));unfold write at e⊢;dsimp only at e⊢;by_cases hb:(begin s (right s i&&decide (l.length=s.size))).1=0
 ·rw[if_pos hb];refine⟨?_,λx O=>?_,J,Q⟩
  ·unfold St.now;dsimp only;rw[I,SJ,Kb];rfl
  ·unfold St.now;dsimp only;rw[J,I,SJ,JV _ _ O]
 ·rw[if_neg hb]at e;exact absurd e hb
theorem XQ{s i l}(e:(write s i l).1≠0):(∀x,(write s i l).2.now x=s.now x)/\(write s i l).2.size=s.size/\(write s i l).2.blocks=s.blocks:=by
 obtain⟨I,Q,O,J⟩:=Gf s (right s i&&decide (l.length=s.size));unfold write at e⊢;dsimp only at e⊢;by_cases hb:(begin s (right s i&&decide (l.length=s.size))).1=0
 ·rw[if_pos hb]at e;exact absurd rfl e
 ·rw[if_neg hb];refine⟨λx=>?_,I,Q⟩;unfold St.now;rw[I,O,J]
theorem Jh(s:St)(i x:Int):(read s i).2.now x=s.now x/\(read s i).2.size=s.size/\(read s i).2.blocks=s.blocks:=by
 obtain⟨O,J,I,e⟩:=Gf s (right s i);unfold read St.now;rw[O,I,e];exact⟨rfl,rfl,J⟩
abbrev Ex:=Nat×Nat
def Canon(hi:Nat):Nat->List Ex->Prop
 | _,[]=>True
 |lo,x::l=>lo<=x.1/\1<=x.2/\x.1+x.2<=hi/\Canon hi (x.1+x.2+1) l
def hasB(l:List Ex)(b:Nat):Prop:=∃x∈l,x.1<=b/\b<x.1+x.2
def EI(l:List Ex):Nat:=(l.map (·.2)).sum
section
variable{hi lo:Nat}{l A B:List Ex}{x:Ex}
theorem GG:∀{A} {lo},Canon hi lo (A++x::B)↔Canon hi lo A/\(∀y∈A,y.1+y.2+1<=x.1)/\lo<=x.1/\1<=x.2/\x.1+x.2<=hi/\Canon hi (x.1+x.2+1) B
 |[],lo=>by simp[Canon]
 |y::A,lo=>by
  show lo<=y.1/\1<=y.2/\y.1+y.2<=hi/\Canon hi (y.1+y.2+1) (A++x::B)↔(lo<=y.1/\1<=y.2/\y.1+y.2<=hi/\Canon hi (y.1+y.2+1) A)/\ _;rw[GG (A:=A)];constructor
  ·rintro⟨U,Q,h3,h4,h5,h6,O,J,I⟩;refine⟨⟨U,Q,h3,h4⟩,λz e=>?_,a5,O,J,I⟩;rcases A8.1 e with rfl|e
   ·exact h6
   ·exact h5 z e
  ·rintro⟨⟨U,Q,h3,h4⟩,h5,h6,O,J,I⟩;exact⟨U,Q,h3,h4,λz e=>h5 z (BD _ e),h5 y Az,O,J,I⟩
theorem Canon.left:∀{A} {lo},Canon hi lo (A++B)->Canon hi lo A
 |[],_,_=>trivial
 | _:: _,_,h=>⟨h.1,h.2.1,h.2.2.1,Canon.left h.2.2.2⟩
theorem Canon.SE:∀{l} {lo} {x},Canon hi lo l->x∈l->lo<=x.1/\1<=x.2/\x.1+x.2<=hi
 |[],_,_,_,h=>by cases h
 |y::l,lo,x,h,hx=>by
  rcases A8.1 hx with rfl|e
  ·exact⟨h.1,h.2.1,h.2.2.1⟩
  ·have J:=Canon.SE (x:=x) h.2.2.2 e;have I:=h.1;omega
theorem Canon.apart:∀{l} {lo} {x y},Canon hi lo l->x∈l->y∈l->x=y\/x.1+x.2+1<=y.1\/y.1+y.2+1<=x.1
 |[],_,_,_,_,h,_=>by cases h
 |z::l,lo,x,y,h,hx,J=>by
  rcases A8.1 hx with rfl|I<;>rcases A8.1 J with rfl|e
  ·exact .inl rfl
  ·exact .inr (.inl (Canon.SE h.2.2.2 e).1)
  ·exact .inr (.inr (Canon.SE h.2.2.2 I).1)
  ·exact Canon.apart h.2.2.2 I e
theorem Canon.has(h:Canon hi lo l){b}(hb:hasB l b):lo<=b/\b<hi:=by
 obtain⟨x,e,J,I⟩:=hb;have:=h.SE e;omega
theorem Canon.length(h:Canon hi lo l):l.length<=hi-lo:=by
 induction l generalizing lo with
 |nil=>simp
 |cons x l ih=>
  have:=ih h.2.2.2;have:=h.1;have:=h.2.1;have:=h.2.2.1;simp only[BW];omega
theorem Kx(b:Nat):¬hasB [] b:=by rintro⟨x,h,_⟩;cases h
theorem Ee{b}:hasB (x::l) b↔(x.1<=b/\b<x.1+x.2)\/hasB l b:=by simp[hasB]
theorem EH{b}:hasB (A++B) b↔hasB A b\/hasB B b:=by simp[hasB,or_and_right,exists_or]
theorem Dv:EI (A++B)=EI A+EI B:=by simp[EI]
theorem GF:EI (x::l)=x.2+EI l:=by simp[EI]
theorem Kg:EI []=0:=rfl
theorem Canon.sum(h:Canon hi lo l):EI l<=hi-lo:=by
 induction l generalizing lo with
 |nil=>simp[EI]
 |cons x l ih=>
  have:=ih h.2.2.2;have:=h.1;have:=h.2.1;have:=h.2.2.1;rw[GF];omega
theorem Canon.only:∀{l l':List Ex} {lo:Nat},Canon hi lo l->Canon hi lo l'->(∀b,hasB l b↔hasB l' b)->l=l'
 |[],[],_,_,_,_=>rfl
 |[],y::l',_,_,h',e=>absurd ((e y.1).2 ⟨y,Az,AQ _,by have:=h'.2.1;omega⟩) (Kx _)
 |x::l,[],_,h,_,e=>absurd ((e x.1).1 ⟨x,Az,AQ _,by have:=h.2.1;omega⟩) (Kx _)
 |x::l,y::l',lo,h,h',e=>by
  have low:∀{z:Ex} {m:List Ex} {b:Nat},Canon hi lo (z::m)->hasB (z::m) b->z.1<=b:=λ{z m b} hc hb=>by
   rcases Ee.1 hb with hb|hb
   ·exact hb.1
   ·have:=(Canon.has hc.2.2.2 hb).1;omega
  have Q:∀{z:Ex} {m:List Ex},Canon hi lo (z::m)->¬hasB (z::m) (z.1+z.2):=λ{z m} hc hb=>by
   rcases Ee.1 hb with hb|hb
   ·omega
   ·have:=(Canon.has hc.2.2.2 hb).1;omega
  have h1:x.1<=y.1:=low h ((e y.1).2 ⟨y,Az,AQ _,by have:=h'.2.1;omega⟩);have h2:y.1<=x.1:=low h' ((e x.1).1 ⟨x,Az,AQ _,by have:=h.2.1;omega⟩);have h3:y.1+y.2<=x.1+x.2:=by
   rcases Ak (x.1+x.2) (y.1+y.2)with I|J
   ·exact absurd ((e (x.1+x.2)).2 ⟨y,Az,a5,I⟩) (Q h)
   ·exact J
  have h4:x.1+x.2<=y.1+y.2:=by
   rcases Ak (y.1+y.2) (x.1+x.2)with I|J
   ·exact absurd ((e (y.1+y.2)).1 ⟨x,Az,a5,I⟩) (Q h')
   ·exact J
  have U:x=y:=Prod.ext a5 a5;subst U;rw[Canon.only h.2.2.2 h'.2.2.2 λb=>?_];constructor
  ·intro hb;have h5:=Canon.has h.2.2.2 hb;rcases Ee.1 ((e b).1 (Ee.2 (.inr hb)))with O|O
   ·omega
   ·exact O
  ·intro hb;have h5:=Canon.has h'.2.2.2 hb;rcases Ee.1 ((e b).2 (Ee.2 (.inr hb)))with O|O
   ·omega
   ·exact O
theorem Canon.one(h:Canon hi lo l){k}:∀{n},1<=n->(∀b,k<=b->b<k+n->hasB l b)->∃x∈l,x.1<=k/\k+n<=x.1+x.2
 |0,e,_=>by omega
 |1,_,hb=>by
  obtain⟨x,I,e,J⟩:=hb k a5 a5;exact⟨x,I,e,a5⟩
 |n+2,_,hb=>by
  obtain⟨x,I,e,J⟩:=Canon.one h (n:=n+1) a5 (λb e J=>hb b e a5);obtain⟨y,O,h3,h4⟩:=hb (k+(n+1)) a5 a5;rcases h.apart I O with rfl|h5|h5
  ·exact⟨x,I,e,a5⟩
  ·omega
  ·omega
end
def Dd(l:List Ex)(i:Nat):Ex:=l.getD i (0,0)
theorem Gy{l i}(hi:i<l.length):Dd l i=l[i]:=by
 unfold Dd;rw[AT,AU hi];rfl
def MI(x:Ex)(f n:Nat):List Ex:=(if x.1<f then [(x.1,f-x.1)]else [])++(if f+n<x.1+x.2 then [(f+n,x.1+x.2-(f+n))]else [])
def LX(l:List Ex)(i f n:Nat):List Ex:=l.take i++MI (Dd l i) f n++l.drop (i+1)
theorem Wo{l i}(hi:i<l.length):l=l.take i++Dd l i::l.drop (i+1):=by
 conv=>lhs;rw[<-BS i l,Bv hi]
 rw[Gy hi]
theorem gn{x f n b}(I:x.1<=f)(e:f+n<=x.1+x.2):hasB (MI x f n) b↔(x.1<=b/\b<x.1+x.2)/\¬(f<=b/\b<f+n):=by
 unfold MI;rw[EH];by_cases h3:x.1<f<;>by_cases h4:f+n<x.1+x.2<;>simp[hasB,h3,h4]<;>omega
theorem aU{hi x f n A B lo}(h:Canon hi lo (A++x::B))(h1:x.1<=f)(h2:f+n<=x.1+x.2)(hn:1<=n):Canon hi lo (A++MI x f n++B):=by
 obtain⟨Q,O,U,c4,c5,c6⟩:=GG.1 h;have tail:∀(C:List Ex) (c:Nat),Canon hi lo C->(∀y∈C,y.1+y.2<=c)->c<=x.1+x.2->Canon hi lo (C++B):=by
  intro C c hC e hc
  cases B with
  |nil=>simpa using hC
  |cons z B=>
   have I:=c6;refine GG.2 ⟨hC,λy h=>?_,?_,I.2.1,I.2.2.1,I.2.2.2⟩
   ·have:=e y h;have:=I.1;omega
   ·have:=I.1;omega
 unfold MI;have J:∀y∈A,y.1+y.2<=x.1+x.2:=λy e=>by have:=O y e;omega
 by_cases h3:x.1<f<;>by_cases h4:f+n<x.1+x.2
 ·rw[if_pos h3,if_pos h4];refine tail _ (x.1+x.2) ?_ ?_ ar
  ·rw[show A++([(x.1,f-x.1)]++[(f+n,x.1+x.2-(f+n))])=A++(x.1,f-x.1)::[(f+n,x.1+x.2-(f+n))]from rfl];refine GG.2 ⟨Q,O,U,?_,?_,?_,?_,?_,trivial⟩<;>simp<;>omega
  ·intro y e;simp at e;rcases e with e|rfl|rfl
   ·exact J y e
   ·simp;omega
   ·simp;omega
 ·rw[if_pos h3,if_neg h4,AY];refine tail _ (x.1+x.2) ?_ ?_ ar
  ·refine GG.2 ⟨Q,O,U,?_,?_,trivial⟩<;>simp<;>omega
  ·intro y e;simp at e;rcases e with e|rfl
   ·exact J y e
   ·simp;omega
 ·rw[if_neg h3,if_pos h4,BL];refine tail _ (x.1+x.2) ?_ ?_ ar
  ·refine GG.2 ⟨Q,?_,?_,?_,?_,trivial⟩<;>simp
   ·intro a b e;have:=O (a,b) e;simp at this;omega
   ·omega
   ·omega
   ·omega
  ·intro y e;simp at e;rcases e with e|rfl
   ·exact J y e
   ·simp;omega
 ·rw[if_neg h3,if_neg h4,AY,AY];exact tail A (x.1+x.2) Q J ar
theorem kQ{x f n}(I:x.1<=f)(e:f+n<=x.1+x.2):EI (MI x f n)+n=x.2:=by
 unfold MI;rw[Dv];by_cases h3:x.1<f<;>by_cases h4:f+n<x.1+x.2<;>simp[EI,h3,h4]<;>omega
theorem YC{hi lo l i f n}(h:Canon hi lo l)(e:i<l.length)(J:(Dd l i).1<=f)(I:f+n<=(Dd l i).1+(Dd l i).2)(U:1<=n):
  Canon hi lo (LX l i f n)/\(∀b,hasB (LX l i f n) b↔hasB l b/\¬(f<=b/\b<f+n))/\EI (LX l i f n)+n=EI l:=by
 have Q:=Wo e;unfold LX;generalize Dd l i=x at*
 generalize l.take i=A at*
 generalize l.drop (i+1)=B at*
 subst Q;refine⟨aU h J I U,λb=>?_,?_⟩
 ·obtain⟨c1,c2,c3,c4,c5,c6⟩:=GG.1 h;rw[EH,EH,gn J I,EH,Ee];have hA:hasB A b->¬(f<=b/\b<f+n):=by
   rintro⟨y,O,h3,h4⟩ h5;have:=c2 y O;omega
  have hB:hasB B b->¬(f<=b/\b<f+n):=λhb=>by have:=c6.has hb;omega
  constructor
  ·rintro((h3|h3)|h3)
   ·exact⟨.inl h3,hA h3⟩
   ·exact⟨.inr (.inl h3.1),h3.2⟩
   ·exact⟨.inr (.inr h3),hB h3⟩
  ·rintro⟨h3|h3|h3,h4⟩
   ·exact .inl (.inl h3)
   ·exact .inl (.inr ⟨h3,h4⟩)
   ·exact .inr h3
 ·rw[Dv,Dv,Dv,GF];have:=kQ (x:=x) (f:=f) (n:=n) J I;omega
def EK(l:List Ex)(a:Nat):Nat:=l.findIdx λx=>decide (a<x.1+x.2)
def JD(l:List Ex)(n:Nat):Nat:=l.findIdx λx=>decide (n<=x.2)
theorem RI{l i}(hi:i<l.length):Dd l i∈l:=by
 rw[Gy hi];exact CO hi
theorem IT{p}{l:List Ex}{i}(hi:i<=l.length)(J:∀k,k<i->p (Dd l k)=false)(I:i<l.length->p (Dd l i)=true):l.findIdx p=i:=by
 rcases CW (l.findIdx p) i with h|h|h
 ·have h3:=List.findIdx_getElem (p:=p) (xs:=l) (w:=by omega);have h4:=J _ h;rw[Gy a5,h3]at h4;cases h4
 ·exact h
 ·have h3:=List.not_of_lt_findIdx h;have e:i<l.length:=BN h Ck;have h4:=I e;rw[Gy e]at h4;rw[h4]at h3;cases h3
theorem N6{p}{l:List Ex}(h:l.findIdx p<l.length):p (Dd l (l.findIdx p))=true:=by
 rw[Gy h];exact List.findIdx_getElem
theorem Io{p}{l:List Ex}{k}(h:k<l.findIdx p):p (Dd l k)=false:=by
 have e:k<l.length:=BN h Ck;rw[Gy e];simpa using List.not_of_lt_findIdx h
theorem Canon.ends{hi lo l}(h:Canon hi lo l){i j}(O:i<j)(I:j<l.length):(Dd l i).1+(Dd l i).2+1<=(Dd l j).1:=by
 have e:=Wo I;rw[e]at h;have J:=(GG.1 h).2.1 (Dd l i) (by
  rw[Gy a5];have h3:(l.take j)[i]?=AE l[i]:=by rw[At,if_pos O,AU a5]
  exact Ae h3)
 exact J
theorem Canon.getD{hi lo l}(h:Canon hi lo l){i}(e:i<l.length):lo<=(Dd l i).1/\1<=(Dd l i).2/\(Dd l i).1+(Dd l i).2<=hi:=h.SE (RI e)
theorem Zd{hi lo l f n}(h:Canon hi lo l)(O:1<=n)(hb:∀b,f<=b->b<f+n->hasB l b):
  EK l f<l.length/\(Dd l (EK l f)).1<=f/\f+n<=(Dd l (EK l f)).1+(Dd l (EK l f)).2:=by
 obtain⟨x,J,h1,U⟩:=h.one O hb;obtain⟨j,e,rfl⟩:=BP J;have I:Dd l j=l[j]:=Gy e;have he:EK l f=j:=IT (Nat.le_of_lt e) (λk Q=>by
   have:=h.ends Q e;rw[I]at this;simp;omega) (λ_=>by rw[I];simp;omega)
 rw[he,I];exact⟨e,h1,U⟩
theorem Mw{hi lo l f n}(h:Canon hi lo l)(hn:1<=n):(∀b,f<=b->b<f+n->¬hasB l b)↔(EK l f<l.length->f+n<=(Dd l (EK l f)).1):=by
 constructor
 ·intro hb e;rcases Ak (Dd l (EK l f)).1 (f+n)with I|I
  ·have h2:=N6 (p:=λx:Ex=>decide (f<x.1+x.2)) e;simp only[decide_eq_true_eq]at h2;have J:=h.getD e;refine absurd ⟨_,RI e,?_,?_⟩ (hb (max f (Dd l (EK l f)).1) a5 a5)
   ·omega
   ·unfold EK at J I⊢;omega
  ·exact I
 ·rintro I b Dg DT ⟨x,U,h3,h4⟩;obtain⟨j,Q,rfl⟩:=BP U;have J:Dd l j=l[j]:=Gy Q;rcases CW j (EK l f)with h5|h5|h5
  ·have O:=Io (p:=λx:Ex=>decide (f<x.1+x.2)) h5;rw[J]at O;simp at O;omega
  ·subst h5;have:=I Q;rw[J]at this;omega
  ·have O:=h.ends h5 Q;have h7:=I a5;rw[J]at O;omega
theorem iJ{hi lo l n}(h:Canon hi lo l)(Q:1<=n)(U:JD l n<l.length):
  n<=(Dd l (JD l n)).2/\∀k,(∀b,k<=b->b<k+n->hasB l b)->(Dd l (JD l n)).1<=k:=by
 have h1:=N6 (p:=λx:Ex=>decide (n<=x.2)) U;refine⟨by unfold JD;simpa using h1,λk hk=>?_⟩;obtain⟨x,O,h2,h3⟩:=h.one Q hk;obtain⟨j,J,rfl⟩:=BP O;have I:Dd l j=l[j]:=Gy J;rcases CW j (JD l n)with h5|h5|h5
 ·have e:=Io (p:=λx:Ex=>decide (n<=x.2)) h5;rw[I]at e;simp at e;omega
 ·subst h5;rw[I];exact h2
 ·have e:=h.ends h5 J;rw[I]at e;unfold JD at e⊢;omega
theorem oH{hi lo l n}(h:Canon hi lo l)(J:1<=n)(hl:l.length<=JD l n)(k:Nat):¬∀b,k<=b->b<k+n->hasB l b:=by
 intro O;obtain⟨x,I,h2,h3⟩:=h.one J O;obtain⟨j,Q,rfl⟩:=BP I;have U:Dd l j=l[j]:=Gy Q;have e:=Io (p:=λx:Ex=>decide (n<=x.2)) (show j<JD l n by omega);rw[U]at e;simp at e;omega
def KO(l:List Ex)(i f:Nat):Bool:=decide (0<i)&&decide ((Dd l (i-1)).1+(Dd l (i-1)).2=f)
def Fv(l:List Ex)(i e:Nat):Bool:=decide (i<l.length)&&decide ((Dd l i).1=e)
def GN(l:List Ex)(i f n:Nat):List Ex:=
 match KO l i f,Fv l i (f+n)with
 |false,false=>l.take i++[(f,n)]++l.drop i
 |true,false=>l.take (i-1)++[((Dd l (i-1)).1,(Dd l (i-1)).2+n)]++l.drop i
 |false,true=>l.take i++[(f,n+(Dd l i).2)]++l.drop (i+1)
 |true,true=>l.take (i-1)++[((Dd l (i-1)).1,(Dd l (i-1)).2+n+(Dd l i).2)]++l.drop (i+1)
theorem NA{hi lo A B f n}(J:Canon hi lo A)(I:Canon hi lo B)(Q:∀y∈A,y.1+y.2+1<=f)(O:B≠[]->f+n+1<=(B.headD (0,0)).1)(h3:lo<=f)(h4:f+n<=hi)(e:1<=n):Canon hi lo (A++[(f,n)]++B):=by
 rw[AR];refine GG.2 ⟨J,Q,h3,e,h4,?_⟩
 cases B with
 |nil=>trivial
 |cons z B=>exact⟨O a8,I.2⟩
theorem Canon.tail{hi lo A B}(h:Canon hi lo (A++B)):Canon hi lo B:=by
 cases B with
 |nil=>trivial
 |cons z B=>obtain⟨_,_,O,J,I,e⟩:=GG.1 h;exact⟨O,J,I,e⟩
theorem Uo{l i}(h:l.drop i≠[]):i<l.length/\(l.drop i).headD (0,0)=Dd l i:=by
 have hi:i<l.length:=by
  rcases Ak i l.length with e|e
  ·exact e
  ·exact absurd (List.drop_eq_nil_of_le e) h
 refine⟨hi,?_⟩;rw[Bv hi,Gy hi];rfl
theorem XU{l i y}(h:y∈l.take i):∃k,k<i/\k<l.length/\y=Dd l k:=by
 obtain⟨k,I,rfl⟩:=BP h;have e:k<i/\k<l.length:=by rw[AZ]at I;omega
 refine⟨k,e.1,e.2,?_⟩;rw[Gy e.2];simp
theorem My{hi lo l f n}(h:Canon hi lo l)(hn:1<=n)(ab:lo<=f)(Qv:f+n<=hi)(hb:∀b,f<=b->b<f+n->¬hasB l b):
  Canon hi lo (GN l (EK l f) f n)/\(∀b,hasB (GN l (EK l f) f n) b↔hasB l b\/(f<=b/\b<f+n))/\EI (GN l (EK l f) f n)=EI l+n:=by
 have Pq:=(Mw h hn).1 hb;have Qy:∀k,k<EK l f->(Dd l k).1+(Dd l k).2<=f:=λk hk=>by
  have:=Io (p:=λx:Ex=>decide (f<x.1+x.2)) hk;simpa using this
 have hle:EK l f<=l.length:=Ck;generalize EK l f=i at*
 have ck:∀k,Canon hi lo (l.take k):=λk=>Canon.left (B:=l.drop k) (by rw[BS];exact h);have cn:∀k,Canon hi lo (l.drop k):=λk=>Canon.tail (A:=l.take k) (by rw[BS];exact h);have eT:∀k,l.take k++l.drop k=l:=λk=>BS k l;have uB:∀b,hasB l b↔hasB (l.take i) b\/hasB (l.drop i) b:=λb=>by rw[<-EH,eT]
 have rY:EI l=EI (l.take i)+EI (l.drop i):=by rw[<-Dv,eT]
 have Lc:∀(I:KO l i f=true),0<i/\(Dd l (i-1)).1+(Dd l (i-1)).2=f/\l.take i=l.take (i-1)++[Dd l (i-1)]:=λI=>by
  simp[KO]at I;refine⟨I.1,I.2,?_⟩;obtain⟨j,rfl⟩:∃j,i=j+1:=⟨i-1,a5⟩;rw[BV,Bj,AU a5,Gy a5];rfl
 have Ln:∀(I:KO l i f=false),∀y∈l.take i,y.1+y.2+1<=f:=λI y hy=>by
  obtain⟨k,hk,jV,rfl⟩:=XU hy;have h1:=Qy k hk;rcases Ak k (i-1)with J|J
  ·have:=h.ends J a5;have:=Qy (i-1) a5;have:=(h.getD (show i-1<l.length by omega)).2.1;omega
  ·obtain rfl:k=i-1:=a5;simp[KO]at I;have:=I a5;omega
 have Rc:∀(hR:Fv l i (f+n)=true),i<l.length/\(Dd l i).1=f+n/\l.drop i=Dd l i::l.drop (i+1):=λhR=>by
  simp[Fv]at hR;refine⟨hR.1,hR.2,?_⟩;rw[Bv hR.1,<-Gy hR.1]
 have Rn:∀(hR:Fv l i (f+n)=false),l.drop i≠[]->f+n+1<=((l.drop i).headD (0,0)).1:=λhR hd=>by
  obtain⟨h1,J⟩:=Uo hd;rw[J];have h3:=Pq h1;simp[Fv,h1]at hR;omega
 have hd:∀(zf:i<l.length),l.drop (i+1)≠[]->(Dd l i).1+(Dd l i).2+1<=((l.drop (i+1)).headD (0,0)).1:=λzf e=>by
  obtain⟨h1,J⟩:=Uo e;rw[J];exact h.ends (Nat.lt_succ_self i) h1
 have Oh:∀(h0:0<i),∀y∈l.take (i-1),y.1+y.2+1<=(Dd l (i-1)).1:=λh0 y hy=>by
  obtain⟨k,hk,jV,rfl⟩:=XU hy;exact h.ends hk a5
 unfold GN
 cases I:KO l i f<;>cases hR:Fv l i (f+n)<;>dsimp only
 ·refine⟨NA (ck i) (cn i) (Ln I) (Rn hR) ab Qv hn,λb=>?_,?_⟩
  ·rw[EH,EH,Ee,uB b];have:=Kx b;grind
  ·rw[Dv,Dv,GF,Kg,rY];simp only;omega
 ·obtain⟨Q,r2,O⟩:=Rc hR;have g:=h.getD Q;have hx:(Dd l i).1+(Dd l i).2=f+(n+(Dd l i).2):=a5;refine⟨NA (ck i) (cn (i+1)) (Ln I) (λe=>by have:=hd Q e;omega) ab a5 a5,λb=>?_,?_⟩
  ·rw[EH,EH,Ee,uB b,O,Ee];have:=Kx b;have:(f<=b/\b<f+(n+(Dd l i).2))↔((Dd l i).1<=b/\b<(Dd l i).1+(Dd l i).2)\/(f<=b/\b<f+n):=a5
   grind
  ·rw[Dv,Dv,GF,Kg,rY,O,GF];simp only;omega
 ·obtain⟨l1,l2,U⟩:=Lc I;have g:=h.getD (show i-1<l.length by omega);refine⟨NA (ck (i-1)) (cn i) (Oh l1) (λe=>by have:=Rn hR e;omega) g.1 a5 a5,λb=>?_,?_⟩
  ·rw[EH,EH,Ee,uB b,U,EH,Ee];have:=Kx b;have:((Dd l (i-1)).1<=b/\b<(Dd l (i-1)).1+((Dd l (i-1)).2+n))↔((Dd l (i-1)).1<=b/\b<(Dd l (i-1)).1+(Dd l (i-1)).2)\/(f<=b/\b<f+n):=a5
   grind
  ·rw[Dv,Dv,GF,Kg,rY,U,Dv,GF,Kg];simp only;omega
 ·obtain⟨l1,l2,U⟩:=Lc I;obtain⟨Q,r2,O⟩:=Rc hR;have g:=h.getD (show i-1<l.length by omega);have g2:=h.getD Q;refine⟨NA (ck (i-1)) (cn (i+1)) (Oh l1) (λe=>by have:=hd Q e;omega) g.1 a5 a5,λb=>?_,?_⟩
  ·rw[EH,EH,Ee,uB b,U,O,EH,Ee,Ee];have:=Kx b;have:((Dd l (i-1)).1<=b/\b<(Dd l (i-1)).1+((Dd l (i-1)).2+n+(Dd l i).2))↔(((Dd l (i-1)).1<=b/\b<(Dd l (i-1)).1+(Dd l (i-1)).2)\/((Dd l i).1<=b/\b<(Dd l i).1+(Dd l i).2))\/(f<=b/\b<f+n):=a5
   grind
  ·rw[Dv,Dv,GF,Kg,rY,U,O,Dv,GF,GF,Kg];simp only;omega
structure Sp where
 first:Nat
 blocks:Nat
 fr:List Ex
def Sp.ok(s:Sp):Prop:=s.first<=1000000/\s.blocks<=1000000/\Canon (s.first+s.blocks) s.first s.fr
theorem Sp.ok.len{s:Sp}(h:s.ok):s.fr.length<=1000000:=by have:=h.2.2.length;have:=h.2.1;omega
def iP(x:Ex):List Value:=[x.1,x.2]
def DB(l:List Ex):List Value:=l.flatMap iP
theorem Dm(A B:List Ex):DB (A++B)=DB A++DB B:=by simp[DB]
theorem DQ(l:List Ex):(DB l).length=l.length*2:=by
 induction l with
 |nil=>rfl
 |cons x l ih=>simp only[DB,List.flatMap_cons,Aa]at*;rw[ih];simp[iP];omega
theorem EM{l}:∀u∈DB l,u.oneCell'=true:=by
 intro u hu;obtain⟨e,_,he⟩:=List.mem_flatMap.1 hu;simp[iP]at he;rcases he with rfl|rfl<;>rfl
theorem iI(l:List Ex):∀(i:Nat),i<l.length->(DB l)[i*2]?=AE (AA AB (Dd l i).1)/\(DB l)[i*2+1]?=AE (AA AB (Dd l i).2):=by
 induction l with
 |nil=>intro i hi;simp at hi
 |cons x l ih=>
  intro i hi
  cases i with
  |zero=>exact⟨rfl,rfl⟩
  |succ i=>
   have h:=ih i (by simpa using hi);have e:(i+1)*2=i*2+2:=a5;rw[e];exact⟨h.1,h.2⟩
theorem Hr(l:List Ex):∀i:Nat,DB (l.take i)=(DB l).take (i*2):=by
 induction l with
 |nil=>intro i;simp[DB]
 |cons x l ih=>
  intro i
  cases i with
  |zero=>rfl
  |succ i=>
   have e:(i+1)*2=i*2+2:=a5;rw[e];show iP x++DB (l.take i)=(iP x++DB l).take (i*2+2);rw[ih i];rfl
theorem aL(l:List Ex):∀i:Nat,DB (l.drop i)=(DB l).drop (i*2):=by
 induction l with
 |nil=>intro i;simp[DB]
 |cons x l ih=>
  intro i
  cases i with
  |zero=>rfl
  |succ i=>
   have e:(i+1)*2=i*2+2:=a5;rw[e];show DB (l.drop i)=(iP x++DB l).drop (i*2+2);rw[ih i];rfl
theorem Fk:∃i,AP.info? 100=AE i/\i.zero=AE (AL #[(),()])/\i.size=2/\i.bytes=16:=info_parts a7
theorem Hf:(AP.info? 100).map (·.size)=AE 2:=a7
theorem aQ(w:World):(Go.sizeOf 100).run AP w=.ok 2 w:=by
 obtain⟨i,hi,_,e,_⟩:=Fk;simp[Go.sizeOf,typeInfo,hi,e]
theorem X9(w:World):(zeroValue 100).run AP w=.ok (AL #[(),()]) w:=by
 obtain⟨i,hi,e,_⟩:=Fk;simp[zeroValue,typeInfo,hi,e]
structure Fo (w:World) (g cap n:Nat) (l:List Ex) (cur:List Value):Prop where
 row:Row w g 100 cur
 size:cur.length=cap*2
 le:n<=cap
 max:cap<=9223372036854775807
 cells:cur.take (n*2)=DB l
 len:l.length=n
theorem JO{w v n l}(h:w.ownsRow 0 100 2 v n (DB l)):(v=AJ AD 0 0/\n=0/\l=[])\/∃g cap cur,v=AJ (AE ⟨g,0,AD⟩) n cap/\Fo w g cap n l cur:=by
 obtain⟨I,e⟩:=h;rw[DQ]at I;rcases e with⟨rfl,rfl⟩|⟨g,cap,cur,rfl,_,hh,hcap,hm,hs,ht⟩
 ·exact .inl ⟨rfl,rfl,List.eq_nil_of_length_eq_zero a5⟩
 ·exact .inr ⟨g,cap,cur.toList,rfl,hh,by simpa using hs,hcap,hm,ht,a5⟩
section
variable{w:World}{g cap n:Nat}{l:List Ex}{cur:List Value}
theorem Fo.own(h:Fo w g cap n l cur):w.ownsRow 0 100 2 (AJ g n cap) n (DB l):=
 ⟨by rw[DQ,h.len],.inr ⟨g,cap,cur.toArray,rfl,Ao _,h.row,h.le,h.max,by simpa using h.size,by simpa using h.cells⟩⟩
theorem Fo.get(h:Fo w g cap n l cur){k}(e:k<n*2):cur[k]?=(DB l)[k]?:=by
 rw[<-h.cells,At,if_pos e]
theorem Fo.at_(h:Fo w g cap n l cur){i}(hi:i<n):w.cell? (g,i*2)=AE (AA AB (Dd l i).1)/\w.cell? (g,i*2+1)=AE (AA AB (Dd l i).2):=by
 have e:=iI l i (by rw[h.len];exact hi);rw[h.row.cell,h.row.cell,h.get a5,h.get a5];exact e
theorem Fo.shape(h:Fo w g cap n l cur):w.shape? g=AE (100,cap*2):=by
 have:=h.row;unfold Row at this;simp[World.shape?,this,h.size]
theorem Fo.src(h:Fo w g cap n l cur)(i:Nat):∀j v,(DB (l.drop i))[j]?=AE v->cur[i*2+j]?=AE v:=by
 intro j v e;rw[aL,Bc]at e;have J:i*2+j<n*2:=by
  rcases Ak (i*2+j) (DB l).length with I|I
  ·rw[DQ,h.len]at I;exact I
  ·rw[BG I]at e;cases e
 rw[h.get J];exact e
end
def JH(w:World)(v:Value)(l:List Ex)(e:Ending)(w':World):Prop:=
 ∃v',e=AH v'/\w'.ownsRow 0 100 2 v' l.length (DB l)/\DJ (λk=>v.ownBlock=AE k) w w'/\∀k,v'.ownBlock=AE k->v.ownBlock=AE k\/w<=k
theorem Fo.got{w w' v g cap n l cur}(h:Fo w' g cap n l cur)(hf:DJ (λk=>v.ownBlock=AE k) w w')(J:v.ownBlock=AE g\/w<=g):JH w v l (AH (AJ g n cap)) w':=by
 have e:=h.len;subst e;exact⟨_,rfl,h.own,hf,λk I=>by injection I with I;subst I;exact J⟩
theorem SA(w:World)(a b:Addr)(la ca lb cb:Nat)(Q:a.block≠b.block)(tA tB:TypeId)(J I:Nat)(O:w.shape? a.block=AE (tA,J))(Qr:w.shape? b.block=AE (tB,I))(U:I≠0)
  (gW:w.frozen? a=false)(ab:w.frozen? {block:=a.block,off:=J}=false):(callFunc 123 #[AJ (AE a) la ca,AJ (AE b) lb cb]).run AP w=.ok (.value false) w:=by
 rw[run_callFunc_extern func123 a7 a7 a7 (e:=Extern.SlicesOverlaps.overlaps #[101,101] #[4]) a7,
  Lib.run_overlaps_apart w 101 4 100 Ad 2 aQ a b la ca lb cb Q tA tB J I O Qr U gW ab]
 rfl
theorem Vh(w:World){g cap n Q cv m i}{l M}{cur aS}(h:Fo w g cap n l cur)(O:Fo w Q cv m M aS)(al:Q≠g)(hi:i<n)(hm:0<m)(ad:n+m<=cap)(Kw:n+m<=4000000):
  Calls AP 122 #[AJ g n cap,i,AJ Q m cv] w (JH w (AJ g n cap) (l.take i++M++l.drop i)):=by
 obtain⟨i0,FW,_,hz,_⟩:=Fk;obtain⟨R,hR⟩:=ae (l.take i++M++l.drop i);rw[<-hR];obtain⟨e,KV⟩:∃t:Nat,t=n+m:=⟨_,rfl⟩;obtain⟨I,Z2⟩:∃t:Nat,t=i+m:=⟨_,rfl⟩;have ab:=h.max;have hlen:=h.len;have Lh:=O.len;have J:=h.size;have UZ:(n:Int)+(m:Int)=(e:Int):=a5;have QX:(i:Int)+(m:Int)=(I:Int):=a5;have Ns:Ab.wrap (e:Int)=(e:Int):=Al _ a5;have GS:Ab.wrap (I:Int)=(I:Int):=Al _ a5;have IQ:¬((m:Int)=0):=a5;have Ff:¬((i:Int)=(n:Int)):=a5;have Ia:decide ((e:Int)>(cap:Int))=false:=by simp;omega
 have Gp:=λw' k=>EY (P:=AP) w' 101 100 i0 Ad FW hz g n cap i a5 k (i:Int) rfl;have G9:=λw' k=>Fh (P:=AP) w' 101 100 i0 Ad FW g n cap e a5 k (e:Int) rfl;have Tg:=λw' k=>EY (P:=AP) w' 101 100 i0 Ad FW hz g e cap I a5 k (I:Int) rfl;have Xe:=λw' k=>EY (P:=AP) w' 101 100 i0 Ad FW hz g e cap i a5 k (i:Int) rfl;have U:=EX (g:=g) (off:=0) (i:=I) (cap:=cap) (sz:=2) a5;have Tf:=EX (g:=g) (off:=0) (i:=i) (cap:=cap) (sz:=2) a5;rw[BM]at U Tf;rw[U]at Tg;rw[Tf]at Xe Gp;have NX:∀lb cb,(callFunc 123 #[AJ Q m cv,AJ (g,I*2) lb cb]).run AP w=.ok (.value false) w:=λlb cb=>
  SA w Q (g,I*2) m cv lb cb al _ _ _ _ O.shape h.shape a5 (O.row.free 0) (O.row.free _)
 have Li:(DB (l.drop i)).length=CZ (e-i) (e-I)*2:=by rw[DQ,Aq,hlen,KV,Z2];simp only[Nat.min_def];split<;>omega
 have Sf:∀j v,(DB (l.drop i))[j]?=AE v->w.drew.cell? (((g,i*2):Addr).add j)=AE v:=λj v hj=>by
  rw[Bm];exact(h.row.cell _).trans (h.src i j v hj)
 have ar:I*2+(DB (l.drop i)).length<=cur.length:=by rw[DQ,Aq,hlen,J,Z2];omega
 have C1:=AO Li;have C2:=AO Sf;have C3:=AO ar;clear Li Sf ar;have aA:(DB M).length=CZ m (e-i)*2:=by rw[DQ,Lh,KV];simp only[Nat.min_def];split<;>omega
 have aq:∀j v,(DB M)[j]?=AE v->w.cell? ((Q:Addr).add j)=AE v:=λj v hj=>by
  rw[Bm,BM,O.row.cell];have:=O.src 0 j v (by simpa using hj);simpa using this
 have gj:i*2+(DB M).length<=(splice cur (I*2) (DB (l.drop i))).length:=by rw[DO _ _ _ C3.out,DQ,Lh,J];omega
 have wk:((splice (splice cur (I*2) (DB (l.drop i))) (i*2) (DB M)).take (e*2))=DB R:=by
  rw[NS cur (DB M) (DB (l.drop i)) (i*2) (I*2) (e*2) (by rw[DQ,Lh];omega) (by rw[DQ,Aq,hlen];omega) (by rw[J];omega),hR,Dm,Dm,Hr,<-h.cells,CN,Bi a5]
 have ao:(splice (splice cur (I*2) (DB (l.drop i))) (i*2) (DB M)).length=cap*2:=by rw[DO _ _ _ gj,DO _ _ _ C3.out,J]
 have an:R.length=e:=by rw[hR,Aa,Aa,AZ,Aq,hlen,Lh];omega
 have C4:=AO aA;have C5:=AO aq;have C6:=AO gj;have C7:=AO wk;have C8:=AO ao;have C9:=AO an;have av:Hid (e<=cap):=by unfold Hid;omega
 clear aA aq gj wk ao an hR;have H:=AO h;have HV:=AO O;have HT:=AO KV;have HI:=AO Z2;have HL:=AO hlen;have ax:=AO Lh;have HS:=AO J;clear h O KV Z2 hlen Lh J U Tf hz FW;go_enter func122,ntmps122
 go_wp2_with (simp only[NX])
 go_region_law (refine GX rfl _ _ 101 101 rfl 100 Ad Hf a6 (g,I*2) (g,i*2) (e-I) (cap-I) (e-i) (cap-i) (by simp[Act.eval,Act.put]) (by simp[Act.eval,Act.put]) g (I*2) cur 100 H.out.row (DB (l.drop i)) C1.out (λ_=>⟨rfl,_,rfl,C2.out⟩) C3.out EM ?_;intro w2 EC Gv)
 have mc:=Gv.out.row (w:=w.drew) HV.out.row al;have au:=AO mc;clear mc;have c5:∀j v,(DB M)[j]?=AE v->w2.cell? ((Q:Addr).add j)=AE v:=λj v hj=>by
  have h5:=C5.out j v hj;rw[Bm]at h5⊢;rw[au.out.cell,<-HV.out.row.cell];exact h5
 have aw:=AO c5;clear c5;go_wp2_with (with_reducible refine EW 82 ?_)
 unfold Hid;refine Ed rfl _ _ 101 101 rfl 100 Ad Hf a6 (g,i*2) Q (e-i) (cap-i) m cv rfl rfl g (i*2) _ 100 EC.out (DB M) C4.out (λ_=>⟨rfl,_,rfl,aw.out⟩) C6.out EM ?_;intro w3 FT Om;go_wp2
 go_ret
 have own:Fo w3 g cap e R _:=⟨FT.out,C8.out,av.out,ab,C7.out,C9.out⟩;exact own.got ((DJ.drew (DJ.refl _ w)).trans (Gv.out.trans Om.out λb hb=>.inl hb) λb hb=>.inl (by rw[hb];rfl)) (.inl rfl)
theorem Xc(w:World){g cap n gv cv m i}{l M}{cur aS}(h:Fo w g cap n l cur)(hv:Fo w gv cv m M aS)(hi:i<n)(hm:0<m)(ab:cap<n+m)(Kw:n+m<=4000000):
  Calls AP 122 #[.slice g n cap,i,.slice gv m cv] w (JH w (.slice g n cap) (l.take i++M++l.drop i)):=by
 obtain⟨i0,FW,Fa,hz,Vi⟩:=Fk;obtain⟨R,hR⟩:=ae (l.take i++M++l.drop i);rw[<-hR];obtain⟨I,KV⟩:∃t:Nat,t=n+m:=⟨_,rfl⟩;obtain⟨O,Z2⟩:∃t:Nat,t=i+m:=⟨_,rfl⟩;obtain⟨q,hq⟩:∃t:Nat,t=I-i:=⟨_,rfl⟩;have ay:=h.max;have aR:=h.le;have hlen:=h.len;have Lh:=hv.len;have av:=h.size;have UZ:(n:Int)+(m:Int)=(I:Int):=a5;have QX:(i:Int)+(m:Int)=(O:Int):=a5;have aw:(I:Int)-(i:Int)=(q:Int):=a5;have Ns:Ab.wrap (I:Int)=(I:Int):=Al _ a5;have GS:Ab.wrap (O:Int)=(O:Int):=Al _ a5;have US:Ab.wrap (q:Int)=(q:Int):=Al _ a5;have IQ:¬((m:Int)=0):=a5;have Ff:¬((i:Int)=(n:Int)):=a5;have Ia:decide ((I:Int)>(cap:Int))=true:=by simp;omega
 have Gp:=λw' k=>EY (P:=AP) w' 101 100 i0 Ad FW hz g n cap i a5 k (i:Int) rfl;have G9:=λw' k=>Fh (P:=AP) w' 101 100 i0 Ad FW g n cap i a5 k (i:Int) rfl;have Tg:=λb C w' k=>EY (P:=AP) w' 101 100 i0 Ad FW hz b I C O a5 k (O:Int) rfl;have Xe:=λb C w' k=>EY (P:=AP) w' 101 100 i0 Ad FW hz b I C i a5 k (i:Int) rfl;have Tf:=EX (g:=g) (off:=0) (i:=i) (cap:=cap) (sz:=2) a5;rw[BM]at Tf;rw[Tf]at Gp;have Jx:∀j v,(DB (l.take i))[j]?=AE v->w.cell? ((g:Addr).add j)=AE v:=λj v Q=>by
  rw[Bm,BM,h.row.cell];have h1:=h.src 0 j v (by
   rw[Cr];rw[Hr,At]at Q
   split at Q
   ·exact Q
   ·cases Q)
  simpa using h1
 have Li:(DB (l.drop i)).length=CZ (n-i) (I-O)*2:=by rw[DQ,Aq,hlen,KV,Z2];simp only[Nat.min_def];split<;>omega
 have Sf:∀j v,(DB (l.drop i))[j]?=AE v->w.cell? (((g,i*2):Addr).add j)=AE v:=λj v Q=>by
  rw[Bm];exact(h.row.cell _).trans (h.src i j v Q)
 have aA:(DB M).length=CZ m (I-i)*2:=by rw[DQ,Lh,KV];simp only[Nat.min_def];split<;>omega
 have an:∀j v,(DB M)[j]?=AE v->w.cell? ((gv:Addr).add j)=AE v:=λj v Q=>by
  rw[Bm,BM,hv.row.cell];have:=hv.src 0 j v (by simpa using Q);simpa using this
 have gj:∀C (J:List Value),I<=C->J.length=C*2->i*2+(DB M).length<=J.length/\O*2+(DB (l.drop i)).length<=(splice J (i*2) (DB M)).length:=λC J h1 U=>by
  have h3:i*2+(DB M).length<=J.length:=by rw[DQ,Lh,U];omega
  exact⟨h3,by rw[DO _ _ _ h3,DQ,Aq,hlen,U];omega⟩
 have wk:∀C (J:List Value),I<=C->C<=maxLen->J.length=C*2->J.take (i*2)=DB (l.take i)->∀b (W:World),Row W b 100 (splice (splice J (i*2) (DB M)) (O*2) (DB (l.drop i)))->Fo W b C I R (splice (splice J (i*2) (DB M)) (O*2) (DB (l.drop i))):=λC J h1 hm U h3 b W hr=>by
  refine⟨hr,?_,h1,by unfold maxLen at hm;omega,?_,?_⟩
  ·rw[DO _ _ _ (gj C J h1 U).2,DO _ _ _ (gj C J h1 U).1,U]
  ·rw[JK J (DB M) (DB (l.drop i)) (i*2) (O*2) (I*2) (by rw[DQ,Lh];omega) (by rw[DQ,Aq,hlen];omega) (by rw[U];omega),h3,hR,Dm,Dm]
  ·rw[hR,Aa,Aa,AZ,Aq,hlen,Lh];omega
 have mg:(DB (l.take i)).length=i*2:=by rw[DQ,AZ,hlen];omega
 have C0:=AO Jx;have C1:=AO Li;have C2:=AO Sf;have C4:=AO aA;have C5:=AO an;have C6:=AO gj;have C7:=AO wk;have CT:=AO mg;have CI:Hid (i<O/\O<I/\i+q=I/\0<q):=by unfold Hid;omega
 have H:=AO h;have HV:=AO hv;have Yn:=AO FW;have ax:=h.row.lt;have au:=hv.row.lt;clear Jx Li Sf aA an gj wk mg hR h hv KV Z2 hlen Lh av Tf hq;go_enter func122,ntmps122
 go_wp2_with (with_reducible refine EW 40 ?_)
 unfold Hid;refine G8 rfl _ _ 101 3 rfl 100 i0 _ AB AB Ad underlying3 Yn.out Fa hz a6 Vi rfl g i cap rfl (DB (l.take i)) CT.out (λe=>by cases e) (λad e=>by injection e with e;subst e;exact C0.out) q (q:Int) rfl rfl CI.out.2.2.2 (by have:=CI.out;omega) (by unfold maxLen;have:=CI.out;omega) (by have:=CI.out;omega) ?_;rw[CI.out.2.2.1];intro w2 C J aq ao Jx al EC zH DT;have QS:=EX (g:=w) (off:=0) (i:=O) (cap:=C) (sz:=2) (by have:=CI.out;omega);have qI:=EX (g:=w) (off:=0) (i:=i) (cap:=C) (sz:=2) (by have:=CI.out;omega);rw[BM]at QS qI;have aC:=Tg w C;have aD:=Xe w C;rw[QS]at aC;rw[qI]at aD;have D0:=AO (aq);have D1:=AO ao;have D2:=AO Jx;have D3:=AO al;have D4:=AO EC;have D6:=AO DT;have c5:∀j v,(DB M)[j]?=AE v->w2.cell? ((gv:Addr).add j)=AE v:=λj v Q=>by
  rw[DT.cell (by rw[Bm];exact au)];exact C5.out j v Q
 have az:=AO c5;have c2:∀j v,(DB (l.drop i))[j]?=AE v->w2.cell? (((g,i*2):Addr).add j)=AE v:=λj v Q=>by
  rw[DT.cell (by rw[Bm];exact ax)];exact C2.out j v Q
 have aB:=AO c2;clear aq ao Jx al EC DT c5 c2 QS qI Tg Xe zH;go_wp2_with (with_reducible refine EW 45 ?_)
 unfold Hid;refine Ed rfl _ _ 101 101 rfl 100 Ad Hf a6 (w,i*2) gv (I-i) (C-i) m cv rfl rfl w (i*2) _ 100 D4.out (DB M) C4.out (λ_=>⟨rfl,_,rfl,az.out⟩) (C6.out C J D0.out D2.out).1 EM ?_;intro w3 FT Om;have c2:∀j v,(DB (l.drop i))[j]?=AE v->w3.drew.cell? (((g,i*2):Addr).add j)=AE v:=λj v Q=>by
  have h5:=aB.out j v Q;rw[Bm]at h5⊢;exact(World.cell?_of_block (Om.out.block g (by have:=D6.out.size;omega) a5)).trans h5
 have aE:=AO c2;clear c2;go_wp2
 go_region_law (refine GX rfl _ _ 101 101 rfl 100 Ad Hf a6 (w.heap.size,O*2) (g,i*2) (I-O) (C-O) (n-i) (cap-i) (by simp[Act.eval,Act.put]) (by simp[Act.eval,Act.put]) w.heap.size (O*2) _ 100 FT.out (DB (l.drop i)) C1.out (λ_=>⟨rfl,_,rfl,aE.out⟩) (C6.out C J D0.out D2.out).2 EM ?_;intro w4 Jv PU)
 go_wp2
 go_ret
 have own:=C7.out C J D0.out D1.out D2.out D3.out _ _ Jv.out;exact own.got ((DJ.DE D6.out _).trans ((Om.out.drew).trans PU.out λb hb=>.inl hb) λb hb=>.inr a5) (.inr ar)
theorem DL{w:World}{v n l}(h:w.ownsRow 0 100 2 v n (DB l)):∃A c,v=AJ A n c/\n<=c/\c<=9223372036854775807/\l.length=n:=by
 rcases JO h with⟨rfl,rfl,rfl⟩|⟨g,cap,cur,rfl,h1⟩
 ·exact⟨AD,0,rfl,AQ _,a5,rfl⟩
 ·exact⟨_,_,rfl,h1.le,h1.max,h1.len⟩
theorem Kk{w:World}{A m c M}(h:w.ownsRow 0 100 2 (AJ A m c) m (DB M))(hm:0<m):∃ad,A=AE ad/\∀j v,(DB M)[j]?=AE v->w.cell? (ad.add j)=AE v:=by
 rcases JO h with⟨_,h0,_⟩|⟨g,cap,cur,e,h1⟩
 ·omega
 ·injection e with J Q O
  subst J;refine⟨_,rfl,λj v I=>?_⟩;rw[Bm,BM,h1.row.cell];have:=h1.src 0 j v (by simpa using I);simpa using this
theorem oA{w w' v v' n l}(h:w'.ownsRow 0 100 2 v' n (DB l))(hf:DJ (λk=>v.ownBlock=AE k) w w')(e:v'.ownBlock=v.ownBlock\/v'.ownBlock=AE w.heap.size):JH w v l (AH v') w':=by
 obtain⟨A,c,rfl,_,_,J⟩:=DL h;subst J;refine⟨_,rfl,h,hf,λk I=>?_⟩;rcases e with e|e
 ·exact .inl (e▸I)
 ·rw[e]at I;injection I with I;exact .inr a5
theorem Zo(w:World){v u}{n m}{l M}(h:w.ownsRow 0 100 2 v n (DB l))(I:w.ownsRow 0 100 2 u m (DB M))(hm:0<m)(Kw:n+m<=4000000):
  Calls AP 122 #[v,n,u] w (JH w v (l++M)):=by
 obtain⟨O,J,Fa,Q,Vi⟩:=Fk;obtain⟨R,hR⟩:=ae (l++M);rw[<-hR];have U:w.ownsRow 0 100 2 v n (DB l):=h;obtain⟨A,c,rfl,ab,Fy,hl⟩:=DL h;obtain⟨B,d,rfl,al,wj,Qu⟩:=DL I;obtain⟨ad,rfl,EZ⟩:=Kk I hm;have IQ:¬((m:Int)=0):=a5;have Gp:=λw' k=>EY (P:=AP) w' 101 100 O Ad J Q A n c n ar k (n:Int) rfl;have IZ:(DB M).length=m*2:=by rw[DQ,Qu]
 have HX:=AO U;have HS:=AO EZ;have HF:=AO IZ;have HR:=AO hR;have Yn:=AO J;clear h I U EZ hR IZ hl Qu J;go_enter func122,ntmps122
 go_wp2_with (with_reducible refine EW 25 ?_)
 unfold Hid;refine wpList_append_own_at w rfl _ _ 101 rfl 0 100 O _ 2 16 Ad Yn.out Fa Q Vi rfl a6 _ n (DB l) rfl HX.out ad m d (DB M) rfl HF.out HS.out EM (by unfold maxLen;omega) a5 (Ao _) ?_;intro v' w' e PT _ Eu;have HO:=AO e;have HG:=AO PT;have HA:=AO Eu;obtain⟨A',c',rfl,_,_⟩:∃A' c',v'=AJ A' (n+m) c'/\n+m<=c'/\c'<=9223372036854775807:=by
  rw[<-Dm]at e;obtain⟨A',c',h1,h2,h3,_⟩:=DL e;exact⟨A',c',h1,h2,h3⟩
 clear e PT Eu;go_wp2
 go_ret
 have e:=HO.out;rw[<-Dm,<-HR.out]at e;exact oA e ((DJ.refl _ w).grown HG.out λk hk=>.inl hk) HA.out
theorem Zp(w:World){v u}{n m i}{l M}(h:w.ownsRow 0 100 2 v n (DB l))(Q:w.ownsRow 0 100 2 u m (DB M))(J:∀k,v.ownBlock=AE k->u.ownBlock≠AE k)(hi:i<=n)(hm:0<m)(O:n+m<=4000000):
  Calls AP 122 #[v,i,u] w (JH w v (l.take i++M++l.drop i)):=by
 have hl:l.length=n:=by obtain⟨_,_,_,_,_,I⟩:=DL h;exact I
 by_cases e:i=n
 ·subst e;have:=Zo w h Q hm O;rw[Ay a5,List.drop_of_length_le a5,AY];exact this
 ·rcases JO h with⟨_,h0,_⟩|⟨g,cap,cur,rfl,I⟩
  ·omega
  ·rcases JO Q with⟨_,h0,_⟩|⟨gv,cv,aS,rfl,h2⟩
   ·omega
   ·have U:gv≠g:=λe=>J g rfl (by rw[e];rfl);rcases Ak cap (n+m)with h3|h3
    ·exact Xc w I h2 a5 hm h3 O
    ·exact Vh w I h2 U a5 hm h3 O
theorem VR(w:World){v u}{n m i}{l M}(h:w.ownsRow 0 100 2 v n (DB l))(J:w.ownsRow 0 100 2 u m (DB M))(Q:∀k,v.ownBlock=AE k->u.ownBlock≠AE k)(hi:i<=n)(hm:0<m)(Kw:n+m<=4000000):
  Calls AP 107 #[v,i,i,u] w (JH w v (l.take i++M++l.drop i)):=by
 obtain⟨i0,FW,Fa,hz,Vi⟩:=Fk;have I:=Zp w h J Q hi hm Kw;obtain⟨R,hR⟩:=ae (l.take i++M++l.drop i);rw[<-hR]at I⊢;obtain⟨A,c,rfl,ab,Fy,hl⟩:=DL h;obtain⟨B,d,rfl,ad,wj,Qu⟩:=DL J;have Gp:=λw' k k'=>KD (P:=AP) w' 101 100 i0 Ad FW hz A n c i i ar a5 k k' (i:Int) (i:Int) rfl rfl;have U:=AO I;clear h J hR hl Qu FW I;go_enter func107,ntmps107
 go_wp2_with fail
 refine U.out.mono ?_;rintro e w2 ⟨v',rfl,O,hf,hk⟩;obtain⟨A',c',rfl,_,_,_⟩:=DL O;have HG:Hid (JH w (AJ A n c) R (AH (AJ A' R.length c')) w2):=⟨_,rfl,O,hf,hk⟩;clear O hf hk;go_wp2
 go_ret
 exact HG.out
theorem Pf(w:World){g cap n m d i}{l M}{cur}{B}(h:Fo w g cap n l cur)(hv:w.ownsRow 0 100 2 (AJ B m d) m (DB M))(hi:i<n)(O:i+m<=cap):
  Calls AP 107 #[AJ g n cap,i,n,AJ B m d] w (JH w (AJ g n cap) (l.take i++M)):=by
 obtain⟨i0,FW,Fa,hz,Vi⟩:=Fk;obtain⟨R,hR⟩:=ae (l.take i++M);rw[<-hR];obtain⟨e,KV⟩:∃t:Nat,t=i+m:=⟨_,rfl⟩;have ab:=h.max;have ao:=h.le;have hlen:=h.len;have J:=h.size;have Qu:M.length=m:=by obtain⟨_,_,_,_,_,h1⟩:=DL hv;exact h1
 have U:(DB M).length=m*2:=by rw[DQ,Qu]
 have IQ:¬((i:Int)=(n:Int)):=a5;have Gp:=λw' k k'=>KD (P:=AP) w' 101 100 i0 Ad FW hz g n cap i n a5 a5 k k' (i:Int) (n:Int) rfl rfl;have G9:=λw' k=>Fh (P:=AP) w' 101 100 i0 Ad FW g n cap i a5 k (i:Int) rfl;have I:i*2+(DB M).length<=cur.length:=by rw[U,J];omega
 have ER:∀(W:World) (c1:List Value),Row W g 100 c1->c1.length=(splice cur (i*2) (DB M)).length->c1.take (e*2)=(splice cur (i*2) (DB M)).take (e*2)->Fo W g cap e R c1:=λW c1 h1 h2 h3=>by
  refine⟨h1,by rw[h2,DO _ _ _ I,J],a5,ab,?_,by rw[hR,Aa,AZ,hlen,Qu];omega⟩;rw[h3,hR,Dm,Hr,<-h.cells,CN,Bi a5];unfold splice;rw[<-AR,Ca (by rw[Aa,AZ,U];omega)];exact Ay (by rw[Aa,AZ,U];omega)
 have HO:=AO ER;have QD:Hid (0<m->∃ad,B=AE ad/\∀j v,(DB M)[j]?=AE v->w.cell? (ad.add j)=AE v):=Kk hv;have qf:=AO U;have pY:=AO I;have H:=AO h;have Yn:=AO FW;have HT:=AO KV;have an:Hid ((splice cur (i*2) (DB M)).length=cap*2):=(DO _ _ _ I).trans J;by_cases aq:e<n
 ·have Ff:decide ((e:Int)<(n:Int))=true:=by simp;omega
  have Ia:decide (e<n)=true:=by simp;omega
  have Tg:=λw' k=>EY (P:=AP) w' 101 100 i0 Ad FW hz g n cap e a5 k (e:Int) rfl;have Q:=EX (g:=g) (off:=0) (i:=e) (cap:=cap) (sz:=2) a5;rw[BM]at Q;rw[Q]at Tg;clear ER J hlen Qu U hR FW h hv I Q KV;go_enter func107,ntmps107
  go_wp2_with (with_reducible refine EW 34 ?_)
  unfold Hid;refine II rfl _ _ 101 rfl 100 i0 Ad Yn.out hz g i cap rfl cur H.out.row B m d rfl (DB M) qf.out QD.out EM O pY.out ?_;rw[<-HT.out];intro w2 EC Gv;go_wp2_with (with_reducible refine UF ?_)
  unfold Hid;refine J7 rfl _ 101 rfl 100 _ (sz:=2) Ad X9 rfl a6 (g,e*2) (n-e) (cap-e) rfl g (e*2) _ 100 EC.out (λ_=>rfl) (by have:=an.out;omega) ?_;intro w3 c3 FT al Q Om;have bC:=AO (HO.out w3 c3 FT al Q);have HF:=AO (Gv.out.trans Om λb hb=>.inl hb);clear FT al Q Om EC Gv;go_wp2
  go_ret
  exact bC.out.got (HF.out.mono λb hb=>by rw[hb];rfl) (.inl rfl)
 ·have Ff:decide ((e:Int)<(n:Int))=false:=by simp;omega
  have Ia:decide (e<n)=false:=by simp;omega
  clear ER J hlen Qu U hR FW h hv I KV;go_enter func107,ntmps107
  go_wp2_with (with_reducible refine EW 34 ?_)
  unfold Hid;refine II rfl _ _ 101 rfl 100 i0 Ad Yn.out hz g i cap rfl cur H.out.row B m d rfl (DB M) qf.out QD.out EM O pY.out ?_;rw[<-HT.out];intro w2 EC Gv;go_wp2
  go_ret
  exact(HO.out w2 _ EC.out rfl rfl).got (Gv.out.mono λb hb=>by rw[hb];rfl) (.inl rfl)
theorem Pg(w:World){g cap n m d i}{l M}{cur}{B}(h:Fo w g cap n l cur)(U:w.ownsRow 0 100 2 (AJ B m d) m (DB M))(hi:i<n)(ab:cap<i+m)(Kw:n+m<=4000000):
  Calls AP 107 #[AJ g n cap,i,n,AJ B m d] w (JH w (AJ g n cap) (l.take i++M)):=by
 obtain⟨Q,O,Fa,hz,Vi⟩:=Fk;obtain⟨R,hR⟩:=ae (l.take i++M);rw[<-hR];obtain⟨e,KV⟩:∃t:Nat,t=i+m:=⟨_,rfl⟩;have J:=h.max;have al:=h.le;have Qu:M.length=m:=by obtain⟨_,_,_,_,_,h1⟩:=DL U;exact h1
 have IZ:(DB M).length=m*2:=by rw[DQ,Qu]
 have IQ:¬((i:Int)=(n:Int)):=a5;have Ff:decide ((e:Int)<(n:Int))=false:=by simp;omega
 have Ia:decide (e<n)=false:=by simp;omega
 have Gp:=λw' k k'=>KD (P:=AP) w' 101 100 Q Ad O hz g n cap i n a5 a5 k k' (i:Int) (n:Int) rfl rfl;have G9:=λw' k=>Fh (P:=AP) w' 101 100 Q Ad O g n cap i a5 k (i:Int) rfl;obtain⟨ad,rfl,EZ⟩:=Kk U a5;have Oh:Fo w g cap i (l.take i) cur:=⟨h.row,h.size,a5,J,by rw[Hr,<-h.cells,CN,Bi a5],by rw[AZ,h.len];omega⟩;have HP:=AO Oh.own;have QD:=AO EZ;have qf:=AO IZ;have Yn:=AO O;have HT:=AO KV;have HR:=AO hR;clear Qu IZ hR O h U KV Oh EZ;go_enter func107,ntmps107
 go_wp2_with (with_reducible refine EW 34 ?_)
 unfold Hid;refine wpList_append_own_at w rfl _ _ 101 rfl 0 100 Q _ 2 16 Ad Yn.out Fa hz Vi rfl a6 _ i (DB (l.take i)) rfl HP.out ad m d (DB M) rfl qf.out QD.out EM (by unfold maxLen;omega) a5 (Ao _) ?_;rw[<-HT.out];intro v' w' I PT _ Eu;have HO:=AO I;have HG:=AO PT;have HA:=AO Eu;obtain⟨A',c',rfl,_,_⟩:∃A' c',v'=AJ A' e c'/\e<=c'/\c'<=9223372036854775807:=by
  rw[<-Dm]at I;obtain⟨A',c',h1,h2,h3,_⟩:=DL I;exact⟨A',c',h1,h2,h3⟩
 clear I PT Eu;go_wp2
 go_ret
 have I:=HO.out;rw[<-Dm,<-HR.out]at I;exact oA I ((DJ.refl _ w).grown HG.out λk hk=>.inl hk) HA.out
theorem XB(w:World){g cap n m d i j}{l M}{cur}{B}(h:Fo w g cap n l cur)(hv:w.ownsRow 0 100 2 (AJ B m d) m (DB M))(Ii:i<j)(hj:j<n)(hm:i+m<=j)(Kw:n+m<=4000000):
  Calls AP 107 #[AJ g n cap,i,j,AJ B m d] w (JH w (AJ g n cap) (l.take i++M++l.drop j)):=by
 obtain⟨Q,O,Fa,hz,Vi⟩:=Fk;obtain⟨R,hR⟩:=ae (l.take i++M++l.drop j);rw[<-hR];obtain⟨r,hr⟩:∃t:Nat,t=n-j:=⟨_,rfl⟩;obtain⟨I,Z2⟩:∃t:Nat,t=i+m:=⟨_,rfl⟩;obtain⟨e,KV⟩:∃t:Nat,t=I+r:=⟨_,rfl⟩;have ab:=h.max;have ao:=h.le;have hlen:=h.len;have J:=h.size;have Qu:M.length=m:=by obtain⟨_,_,_,_,_,h1⟩:=DL hv;exact h1
 have IZ:(DB M).length=m*2:=by rw[DQ,Qu]
 have cP:(DB (l.drop j)).length=r*2:=by rw[DQ,Aq,hlen,hr]
 have UZ:(i:Int)+(m:Int)=(I:Int):=a5;have QX:(I:Int)+(r:Int)=(e:Int):=a5;have Ns:Ab.wrap (I:Int)=(I:Int):=Al _ a5;have GS:Ab.wrap (e:Int)=(e:Int):=Al _ a5;have IQ:¬((i:Int)=(j:Int)):=a5;have Ff:¬((j:Int)=(n:Int)):=a5;have Gp:=λw' k k'=>KD (P:=AP) w' 101 100 Q Ad O hz g n cap i j a5 a5 k k' (i:Int) (j:Int) rfl rfl;have G9:=λw' k=>Fh (P:=AP) w' 101 100 Q Ad O g n cap i a5 k (i:Int) rfl;have Tg:=λw' k=>EY (P:=AP) w' 101 100 Q Ad O hz g n cap j a5 k (j:Int) rfl;have QS:=EX (g:=g) (off:=0) (i:=j) (cap:=cap) (sz:=2) a5;rw[BM]at QS;rw[QS,<-hr]at Tg;have MK:∀k v,(DB (l.drop j))[k]?=AE v->cur[j*2+k]?=AE v:=h.src j;have Xe:=λw' k=>Fh (P:=AP) w' 101 100 Q Ad O g n cap e a5 k (e:Int) rfl;have mw:=λw' k=>EY (P:=AP) w' 101 100 Q Ad O hz g e cap i a5 k (i:Int) rfl;have zE:=EX (g:=g) (off:=0) (i:=i) (cap:=cap) (sz:=2) a5;have cE:=λw' k=>EY (P:=AP) w' 101 100 Q Ad O hz g e cap I a5 k (I:Int) rfl;have zD:=EX (g:=g) (off:=0) (i:=I) (cap:=cap) (sz:=2) a5;rw[BM]at zE zD;rw[zE]at mw;rw[zD]at cE;have aA:(DB M).length=CZ m (e-i)*2:=by rw[IZ];simp only[Nat.min_def];split<;>omega
 have Li:(DB (l.drop j)).length=CZ r (e-I)*2:=by rw[cP];simp only[Nat.min_def];split<;>omega
 have mg:cur.take (i*2)=DB (l.take i):=by rw[Hr,<-h.cells,CN,Bi a5]
 have wv:R.length=e:=by rw[hR,Aa,Aa,AZ,Aq,hlen,Qu];omega
 have U:i*2+(DB M).length<=cur.length:=by rw[IZ,J];omega
 have Gv:I*2+(DB (l.drop j)).length<=cur.length:=by rw[cP,J];omega
 have Ia:decide ((e:Int)>(cap:Int))=false:=by simp;omega
 have ar:decide (cap<e)=false:=by simp;omega
 have aq:decide ((cap:Int)<(e:Int))=false:=by simp;omega
 have au:decide ((I:Int)<=(j:Int))=true:=by simp;omega
 have Z3:decide (I<=j)=true:=by simp;omega
 have Zv:=λw' k=>EY (P:=AP) w' 101 100 Q Ad O hz g n cap e a5 k (e:Int) rfl;have ER:∀(W:World) (c1:List Value),Row W g 100 c1->c1.length=(splice (splice cur (i*2) (DB M)) (I*2) (DB (l.drop j))).length->c1.take (e*2)=(splice (splice cur (i*2) (DB M)) (I*2) (DB (l.drop j))).take (e*2)->Fo W g cap e R c1:=λW c1 h1 h2 h3=>by
  refine⟨h1,by rw[h2,DO _ _ _ (by rw[DO _ _ _ U];exact Gv),DO _ _ _ U,J],a5,ab,?_,wv⟩;rw[h3,JK cur (DB M) (DB (l.drop j)) (i*2) (I*2) (e*2) (by rw[IZ];omega) (by rw[cP];omega) (by rw[J];omega),mg,hR,Dm,Dm]
 have wE:∀k v,(DB (l.drop j))[k]?=AE v->(splice cur (i*2) (DB M))[j*2+k]?=AE v:=λk v hk=>by
  rw[EU _ _ _ U (by rw[IZ];omega)];exact MK k v hk
 have HO:=AO ER;have QD:Hid (0<m->∃ad,B=AE ad/\∀j v,(DB M)[j]?=AE v->w.cell? (ad.add j)=AE v):=Kk hv;have an:=AO wE;have C1:=AO Li;have C4:=AO aA;have F1:=AO U;have F2:Hid (I*2+(DB (l.drop j)).length<=(splice cur (i*2) (DB M)).length):=by unfold Hid;rw[DO _ _ _ U];exact Gv
 have FS1:Hid ((splice (splice cur (i*2) (DB M)) (I*2) (DB (l.drop j))).length=cap*2):=by unfold Hid;rw[DO _ _ _ F2.out,DO _ _ _ U,J]
 have FL:=AO IZ;have H:=AO h;have HT:Hid (e<=n/\n<=cap):=by unfold Hid;omega
 clear ER wE Li aA U Gv IZ cP hR Qu hlen J mg wv O h hv hr Z2 KV QS zE zD MK;go_enter func107,ntmps107
 go_wp2
 go_region
 go_wp2_with (with_reducible refine EW 97 ?_)
 unfold Hid;refine Ed rfl _ _ 101 101 rfl 100 Ad Hf a6 (g,i*2) B (e-i) (cap-i) m d rfl rfl g (i*2) _ 100 H.out.row (DB M) C4.out (λh0=>⟨rfl,QD.out (by have:=FL.out;omega)⟩) F1.out EM ?_;intro w2 EC Gv;have c2:∀k v,(DB (l.drop j))[k]?=AE v->w2.drew.cell? (((g,j*2):Addr).add k)=AE v:=λk v hk=>by
  rw[Bm];exact(EC.out.cell _).trans (an.out k v hk)
 have C2:=AO c2;clear c2;go_wp2
 go_region_law (refine GX rfl _ _ 101 101 rfl 100 Ad Hf a6 (g,I*2) (g,j*2) (e-I) (cap-I) r (cap-j) (by simp[Act.eval,Act.put]) (by simp[Act.eval,Act.put]) g (I*2) _ 100 EC.out (DB (l.drop j)) C1.out (λ_=>⟨rfl,_,rfl,C2.out⟩) F2.out EM ?_;intro w3 FT Om)
 go_wp2_with (with_reducible refine UF ?_)
 unfold Hid;refine J7 rfl _ 101 rfl 100 _ (sz:=2) Ad X9 rfl a6 (Ro g e cap 2) (n-e) (cap-e) rfl g (e*2) _ 100 FT.out (λh0=>by rw[EX (by have:=HT.out;omega),BM]) (by have:=FS1.out;have:=HT.out;omega) ?_;intro w4 c4 Jv al qI PU;have bC:=AO (HO.out w4 c4 Jv al qI);have HF:=AO (((DJ.drew (DJ.refl (λb=>b=g) w)).trans (Gv.out.drew) λb hb=>.inl hb).trans (Om.out.trans PU λb hb=>.inl hb) λb hb=>.inl hb);clear Jv al qI PU FT Om EC Gv;go_wp2
 go_ret
 exact bC.out.got (HF.out.mono λb hb=>by rw[hb];rfl) (.inl rfl)
theorem VQ(w:World){g cap n m d i j Q}{l M}{cur aS}(h:Fo w g cap n l cur)(mc:Fo w Q d m M aS)(ab:g≠Q)(Ii:i<j)(hj:j<n)(hm:j<i+m)(ao:i+m+(n-j)<=cap)(Kw:n+m<=4000000):
  Calls AP 107 #[AJ g n cap,i,j,AJ Q m d] w (JH w (AJ g n cap) (l.take i++M++l.drop j)):=by
 have hv:=mc.own;obtain⟨i0,FW,Fa,hz,Vi⟩:=Fk;obtain⟨R,hR⟩:=ae (l.take i++M++l.drop j);rw[<-hR];obtain⟨r,hr⟩:∃t:Nat,t=n-j:=⟨_,rfl⟩;obtain⟨J,Z2⟩:∃t:Nat,t=i+m:=⟨_,rfl⟩;obtain⟨I,KV⟩:∃t:Nat,t=J+r:=⟨_,rfl⟩;have al:=h.max;have au:=h.le;have hlen:=h.len;have O:=h.size;have Qu:M.length=m:=by obtain⟨_,_,_,_,_,h1⟩:=DL hv;exact h1
 have IZ:(DB M).length=m*2:=by rw[DQ,Qu]
 have cP:(DB (l.drop j)).length=r*2:=by rw[DQ,Aq,hlen,hr]
 have UZ:(i:Int)+(m:Int)=(J:Int):=a5;have QX:(J:Int)+(r:Int)=(I:Int):=a5;have Ns:Ab.wrap (J:Int)=(J:Int):=Al _ a5;have GS:Ab.wrap (I:Int)=(I:Int):=Al _ a5;have IQ:¬((i:Int)=(j:Int)):=a5;have Ff:¬((j:Int)=(n:Int)):=a5;have Gp:=λw' k k'=>KD (P:=AP) w' 101 100 i0 Ad FW hz g n cap i j a5 a5 k k' (i:Int) (j:Int) rfl rfl;have G9:=λw' k=>Fh (P:=AP) w' 101 100 i0 Ad FW g n cap i a5 k (i:Int) rfl;have Tg:=λw' k=>EY (P:=AP) w' 101 100 i0 Ad FW hz g n cap j a5 k (j:Int) rfl;have QS:=EX (g:=g) (off:=0) (i:=j) (cap:=cap) (sz:=2) a5;rw[BM]at QS;rw[QS,<-hr]at Tg;have MK:∀k v,(DB (l.drop j))[k]?=AE v->cur[j*2+k]?=AE v:=h.src j;have Xe:=λw' k=>Fh (P:=AP) w' 101 100 i0 Ad FW g n cap I a5 k (I:Int) rfl;have mw:=λw' k=>EY (P:=AP) w' 101 100 i0 Ad FW hz g I cap i a5 k (i:Int) rfl;have zE:=EX (g:=g) (off:=0) (i:=i) (cap:=cap) (sz:=2) a5;have cE:=λw' k=>EY (P:=AP) w' 101 100 i0 Ad FW hz g I cap J a5 k (J:Int) rfl;have zD:=EX (g:=g) (off:=0) (i:=J) (cap:=cap) (sz:=2) a5;rw[BM]at zE zD;rw[zE]at mw;rw[zD]at cE;have aA:(DB M).length=CZ m (I-i)*2:=by rw[IZ];simp only[Nat.min_def];split<;>omega
 have Li:(DB (l.drop j)).length=CZ r (I-J)*2:=by rw[cP];simp only[Nat.min_def];split<;>omega
 have mg:cur.take (i*2)=DB (l.take i):=by rw[Hr,<-h.cells,CN,Bi a5]
 have wv:R.length=I:=by rw[hR,Aa,Aa,AZ,Aq,hlen,Qu];omega
 have Kv:i*2+(DB M).length<=cur.length:=by rw[IZ,O];omega
 have U:J*2+(DB (l.drop j)).length<=cur.length:=by rw[cP,O];omega
 have Ia:decide ((I:Int)>(cap:Int))=false:=by simp;omega
 have aw:decide (cap<I)=false:=by simp;omega
 have av:decide ((cap:Int)<(I:Int))=false:=by simp;omega
 have ax:decide ((J:Int)<=(j:Int))=false:=by simp;omega
 have Z3:decide (J<=j)=false:=by simp;omega
 have NX:∀(W:World),W=w.drew->∀lb cb,(callFunc 123 #[AJ (g,J*2) lb cb,AJ Q m d]).run AP W=.ok (.value false) W:=λW e lb cb=>by
  subst e;exact SA w.drew (g,J*2) Q lb cb m d ab _ _ _ _ (show w.shape? g= _ from h.shape) (show w.shape? Q= _ from mc.shape) (by have:=mc.le;omega) (h.row.free _) (h.row.free _)
 have NX:=NX _ rfl;have Om:i*2+(DB M).length<=(splice cur (J*2) (DB (l.drop j))).length:=by rw[DO _ _ _ U];exact Kv
 have ER:∀(W:World),Row W g 100 (splice (splice cur (J*2) (DB (l.drop j))) (i*2) (DB M))->Fo W g cap I R (splice (splice cur (J*2) (DB (l.drop j))) (i*2) (DB M)):=λW h1=>by
  refine⟨h1,by rw[DO _ _ _ Om,DO _ _ _ U,O],a5,al,?_,wv⟩;rw[NS cur (DB M) (DB (l.drop j)) (i*2) (J*2) (I*2) (by rw[IZ];omega) (by rw[cP];omega) (by rw[O];omega),mg,hR,Dm,Dm]
 obtain⟨ad,an,EZ⟩:=Kk hv a5;injection an with an;subst an
 have HO:=AO ER;have QD:=AO EZ;have ar:=AO MK;have C1:=AO Li;have C4:=AO aA;have F2:=AO U;have F3:=AO Om;have H:=AO h;have aq:=mc.row.lt;have qb:=AO ab;clear ER EZ Li aA Kv U Om IZ cP hR Qu hlen O mg wv FW h hv mc hr Z2 KV QS zE zD ab;have c2:∀k v,(DB (l.drop j))[k]?=AE v->w.drew.drew.cell? (((g,j*2):Addr).add k)=AE v:=λk v hk=>by
  rw[Bm];exact(H.out.row.cell _).trans (ar.out k v hk)
 have C2:=AO c2;clear c2 MK;go_enter func107,ntmps107
 go_wp2
 go_region
 go_wp2_with (simp only[NX])
 go_region_law (refine GX rfl _ _ 101 101 rfl 100 Ad Hf a6 (g,J*2) (g,j*2) (I-J) (cap-J) r (cap-j) (by simp[Act.eval,Act.put]) (by simp[Act.eval,Act.put]) g (J*2) _ 100 H.out.row (DB (l.drop j)) C1.out (λ_=>⟨rfl,_,rfl,C2.out⟩) F2.out EM ?_;intro w2 EC U)
 have c5:∀k v,(DB M)[k]?=AE v->w2.cell? ((Q:Addr).add k)=AE v:=λk v hk=>by
  have h5:=QD.out k v hk;rw[Bm]at h5⊢;exact(World.cell?_of_block (w:=w.drew.drew) (U.out.block Q aq (λe=>qb.out e.symm))).trans h5
 have C5:=AO c5;clear c5;go_wp2_with (with_reducible refine EW 135 ?_)
 unfold Hid;refine Ed rfl _ _ 101 101 rfl 100 Ad Hf a6 (g,i*2) Q (I-i) (cap-i) m d rfl rfl g (i*2) _ 100 EC.out (DB M) C4.out (λh0=>⟨rfl,_,rfl,C5.out⟩) F3.out EM ?_;intro w3 FT Om;have bC:=AO (HO.out w3 FT.out);have HF:=AO (((DJ.drew (DJ.drew (DJ.refl (λb=>b=g) w))).trans U.out λb hb=>.inl hb).trans Om.out λb hb=>.inl hb);clear FT Om EC U;go_wp2
 go_ret
 exact bC.out.got (HF.out.mono λb hb=>by rw[hb];rfl) (.inl rfl)
theorem VS(w:World){g cap n m d i j}{l M}{cur}{B}(h:Fo w g cap n l cur)(hv:w.ownsRow 0 100 2 (.slice B m d) m (DB M))(Ii:i<j)(hj:j<n)(ab:cap<i+m+(n-j))(Kw:n+m<=4000000):
  Calls AP 107 #[.slice g n cap,i,j,.slice B m d] w (JH w (.slice g n cap) (l.take i++M++l.drop j)):=by
 obtain⟨i0,FW,Fa,hz,Vi⟩:=Fk;obtain⟨R,hR⟩:=ae (l.take i++M++l.drop j);rw[<-hR];obtain⟨r,hr⟩:∃t:Nat,t=n-j:=⟨_,rfl⟩;obtain⟨J,Z2⟩:∃t:Nat,t=i+m:=⟨_,rfl⟩;obtain⟨I,KV⟩:∃t:Nat,t=J+r:=⟨_,rfl⟩;have ay:=h.max;have aS:=h.le;have hlen:=h.len;have au:=h.size;have Qu:M.length=m:=by obtain⟨_,_,_,_,_,h1⟩:=DL hv;exact h1
 have IZ:(DB M).length=m*2:=by rw[DQ,Qu]
 have cP:(DB (l.drop j)).length=r*2:=by rw[DQ,Aq,hlen,hr]
 have UZ:(i:Int)+(m:Int)=(J:Int):=a5;have QX:(J:Int)+(r:Int)=(I:Int):=a5;have Ns:Ab.wrap (J:Int)=(J:Int):=Al _ a5;have GS:Ab.wrap (I:Int)=(I:Int):=Al _ a5;have IQ:¬((i:Int)=(j:Int)):=a5;have Ff:¬((j:Int)=(n:Int)):=a5;have Gp:=λw' k k'=>KD (P:=AP) w' 101 100 i0 Ad FW hz g n cap i j a5 a5 k k' (i:Int) (j:Int) rfl rfl;have G9:=λw' k=>Fh (P:=AP) w' 101 100 i0 Ad FW g n cap i a5 k (i:Int) rfl;have Tg:=λw' k=>EY (P:=AP) w' 101 100 i0 Ad FW hz g n cap j a5 k (j:Int) rfl;have QS:=EX (g:=g) (off:=0) (i:=j) (cap:=cap) (sz:=2) a5;rw[BM]at QS;rw[QS,<-hr]at Tg;have MK:∀k v,(DB (l.drop j))[k]?=AE v->cur[j*2+k]?=AE v:=h.src j;obtain⟨q,hq⟩:∃t:Nat,t=I-i:=⟨_,rfl⟩;have av:(I:Int)-(i:Int)=(q:Int):=a5;have US:Ab.wrap (q:Int)=(q:Int):=Al _ a5;have Ia:decide ((I:Int)>(cap:Int))=true:=by simp;omega
 have a1:decide (cap<I)=true:=by simp;omega
 have a0:decide ((cap:Int)<(I:Int))=true:=by simp;omega
 have mw:=λb C w' k=>EY (P:=AP) w' 101 100 i0 Ad FW hz b I C i a5 k (i:Int) rfl;have cE:=λb C w' k=>EY (P:=AP) w' 101 100 i0 Ad FW hz b I C J a5 k (J:Int) rfl;have aA:(DB M).length=CZ m (I-i)*2:=by rw[IZ];simp only[Nat.min_def];split<;>omega
 have Li:(DB (l.drop j)).length=CZ r (I-J)*2:=by rw[cP];simp only[Nat.min_def];split<;>omega
 have mg:cur.take (i*2)=DB (l.take i):=by rw[Hr,<-h.cells,CN,Bi a5]
 have wC:(DB (l.take i)).length=i*2:=by rw[DQ,AZ,hlen];omega
 have wv:R.length=I:=by rw[hR,Aa,Aa,AZ,Aq,hlen,Qu];omega
 have Jx:∀k v,(DB (l.take i))[k]?=AE v->w.cell? ((g:Addr).add k)=AE v:=λk v U=>by
  rw[Bm,BM,h.row.cell];rw[<-mg,At]at U
  split at U
  ·exact U
  ·cases U
 have Sf:∀k v,(DB (l.drop j))[k]?=AE v->w.cell? (((g,j*2):Addr).add k)=AE v:=λk v U=>by
  rw[Bm];exact(h.row.cell _).trans (MK k v U)
 have gj:∀C (O:List Value),I<=C->O.length=C*2->i*2+(DB M).length<=O.length/\J*2+(DB (l.drop j)).length<=(splice O (i*2) (DB M)).length:=λC O h1 Q=>by
  have h3:i*2+(DB M).length<=O.length:=by rw[IZ,Q];omega
  exact⟨h3,by rw[DO _ _ _ h3,cP,Q];omega⟩
 have wk:∀C (O:List Value),I<=C->C<=maxLen->O.length=C*2->O.take (i*2)=DB (l.take i)->∀b (W:World),Row W b 100 (splice (splice O (i*2) (DB M)) (J*2) (DB (l.drop j)))->Fo W b C I R (splice (splice O (i*2) (DB M)) (J*2) (DB (l.drop j))):=λC O h1 hm Q h3 b W aw=>by
  refine⟨aw,?_,h1,by unfold maxLen at hm;omega,?_,wv⟩
  ·rw[DO _ _ _ (gj C O h1 Q).2,DO _ _ _ (gj C O h1 Q).1,Q]
  ·rw[JK O (DB M) (DB (l.drop j)) (i*2) (J*2) (I*2) (by rw[IZ];omega) (by rw[cP];omega) (by rw[Q];omega),h3,hR,Dm,Dm]
 obtain⟨ad,rfl,EZ⟩:=Kk hv a5;have zx:ad.block<w:=by
  have Ye:0<(DB M).length:=by rw[IZ];omega
  have h1:=EZ 0 _ (AU Ye);have Q:=block_lt_of_cell h1;simpa [Cj]using Q
 have C0:=AO Jx;have C1:=AO Li;have C2:=AO Sf;have C4:=AO aA;have C5:=AO EZ;have C6:=AO gj;have C7:=AO wk;have CT:=AO wC;have CI:Hid (i<J/\J<I/\i+q=I/\0<q/\I<=4000000/\cap<I):=by unfold Hid;omega
 have Yn:=AO FW;have ax:=h.row.lt;have an:=λ(ad:Addr) k=>show (ad.add k).block=ad.block by unfold Cj;split<;>rfl
 have az:=AO an;clear Jx Li Sf aA gj wk mg wC hR wv h hv KV Z2 hlen au QS hq EZ MK IZ cP Qu hr an;go_enter func107,ntmps107
 go_wp2
 go_region
 go_wp2_with (with_reducible refine EW 67 ?_)
 unfold Hid;refine G8 rfl _ _ 101 3 rfl 100 i0 _ AB AB Ad underlying3 Yn.out Fa hz a6 Vi rfl g i cap rfl (DB (l.take i)) CT.out (λe=>by cases e) (λad e=>by injection e with e;subst e;exact C0.out) q (q:Int) rfl rfl CI.out.2.2.2.1 (by have:=CI.out;omega) (by unfold maxLen;have:=CI.out;omega) (by have:=CI.out;omega) ?_;rw[CI.out.2.2.1];intro w2 C O aq ao Jx al EC zH DT;have QS:=EX (g:=w) (off:=0) (i:=J) (cap:=C) (sz:=2) (by have:=CI.out;omega);have qI:=EX (g:=w) (off:=0) (i:=i) (cap:=C) (sz:=2) (by have:=CI.out;omega);rw[BM]at QS qI;have aE:=cE w C;have aD:=mw w C;rw[QS]at aE;rw[qI]at aD;have D0:=AO (aq);have D1:=AO ao;have D2:=AO Jx;have D3:=AO al;have D4:=AO EC;have D6:=AO (show Below w w w2 from ⟨DT.os,DT.tape,DT.output,DT.size,DT.block⟩);have c5:∀j v,(DB M)[j]?=AE v->w2.cell? (ad.add j)=AE v:=λj v hj=>by
  rw[D6.out.cell (by rw[az.out];exact zx)];exact C5.out j v hj
 have aB:=AO c5;have c2:∀k v,(DB (l.drop j))[k]?=AE v->w2.cell? (((g,j*2):Addr).add k)=AE v:=λj v hj=>by
  rw[D6.out.cell (by rw[Bm];exact ax)];exact C2.out j v hj
 have aC:=AO c2;clear aq ao Jx al EC DT c5 c2 QS qI cE mw zH;go_wp2_with (with_reducible refine EW 72 ?_)
 unfold Hid;refine Ed rfl _ _ 101 101 rfl 100 Ad Hf a6 (w,i*2) (AE ad) (I-i) (C-i) m d rfl rfl w (i*2) _ 100 D4.out (DB M) C4.out (λ_=>⟨rfl,_,rfl,aB.out⟩) (C6.out C O D0.out D2.out).1 EM ?_;intro w3 FT Om;have c2:∀k v,(DB (l.drop j))[k]?=AE v->w3.drew.cell? (((g,j*2):Addr).add k)=AE v:=λk v U=>by
  have h5:=aC.out k v U;rw[Bm]at h5⊢;exact(World.cell?_of_block (Om.out.block g (by have:=D6.out.size;omega) a5)).trans h5
 have aR:=AO c2;clear c2;go_wp2
 go_region_law (refine GX rfl _ _ 101 101 rfl 100 Ad Hf a6 (w.heap.size,J*2) (g,j*2) (I-J) (C-J) r (cap-j) (by simp[Act.eval,Act.put]) (by simp[Act.eval,Act.put]) w.heap.size (J*2) _ 100 FT.out (DB (l.drop j)) C1.out (λ_=>⟨rfl,_,rfl,aR.out⟩) (C6.out C O D0.out D2.out).2 EM ?_;intro w4 Jv PU)
 go_wp2
 go_ret
 have own:=C7.out C O D0.out D1.out D2.out D3.out _ _ Jv.out;exact own.got ((DJ.DE D6.out _).trans ((Om.out.drew).trans PU.out λb hb=>.inl hb) λb hb=>.inr a5) (.inr ar)
theorem ES(w:World){v u}{n m i j}{l M}(h:w.ownsRow 0 100 2 v n (DB l))(I:w.ownsRow 0 100 2 u m (DB M))(O:∀k,v.ownBlock=AE k->u.ownBlock≠AE k)(Ii:i<=j)(hj:j<=n)(hm:i=j->0<m)(Q:n+m<=4000000):
  Calls AP 107 #[v,i,j,u] w (JH w v (l.take i++M++l.drop j)):=by
 by_cases e:i=j
 ·subst e;exact VR w h I O hj (hm rfl) Q
 have hl:l.length=n:=by obtain⟨_,_,_,_,_,J⟩:=DL h;exact J
 rcases JO h with⟨_,h0,_⟩|⟨g,cap,cur,rfl,J⟩
 ·omega
 obtain⟨B,d,rfl,ab,wj,Qu⟩:=DL I;by_cases e2:j=n
 ·subst e2;rw[List.drop_of_length_le a5,AY];rcases Ak cap (i+m)with h3|h3
  ·exact Pg w J I a5 h3 Q
  ·exact Pf w J I a5 h3
 ·rcases Ak cap (i+m+(n-j))with h3|h3
  ·exact VS w J I a5 a5 h3 Q
  ·rcases Ak j (i+m)with h4|h4
   ·rcases JO I with⟨_,h0,_⟩|⟨gv,cv,aS,U,h2⟩
    ·omega
    ·injection U with U e4 e5
     subst U e5;exact VQ w J h2 (λe=>O g rfl (by rw[e];rfl)) a5 a5 h4 h3 Q
   ·exact XB w J I a5 a5 h4 Q
def KB(s:Sp)(v:Value):List Value:=[s.first,s.blocks,v]
def Ja(w:World)(G:Nat->Prop)(p:Nat)(s:Sp):Prop:=
 s.ok/\∃v,Row w p 103 (KB s v)/\w.ownsRow 0 100 2 v s.fr.length (DB s.fr)/\∀k,G k↔k=p\/v.ownBlock=AE k
theorem XK{w v n l}(h:w.ownsRow 0 100 2 v n (DB l)){k}(e:v.ownBlock=AE k):∃cs,Row w k 100 cs:=by
 rcases JO h with⟨rfl,_⟩|⟨g,cap,cur,rfl,I⟩
 ·cases e
 ·injection e with e;subst e;exact⟨_,I.row⟩
theorem R9{w w' F v n l}(h:w.ownsRow 0 100 2 v n (DB l))(hf:DJ F w w')(I:∀k,v.ownBlock=AE k->¬F k):w'.ownsRow 0 100 2 v n (DB l):=by
 obtain⟨O,e⟩:=h;refine⟨O,?_⟩;rcases e with e|⟨g,cap,cur,rfl,J,hh,r⟩
 ·exact .inl e
 ·exact .inr ⟨g,cap,cur,rfl,J,hf.row (g:=g) (cs:=cur.toList) (by unfold Row;simpa using hh) (I g rfl),r⟩
theorem Dz{w w':World}{v n l}(h:w.ownsRow 0 100 2 v n (DB l))(hb:Below w w w'):w'.ownsRow 0 100 2 v n (DB l):=
 R9 h (DJ.DE hb λ_=>False) λ_ _ hf=>hf
theorem IM{w:World}{A n c l}(h:w.ownsRow 0 100 2 (AJ A n c) n (DB l)){i}(hi:i<n):
  ∃g,A=AE ⟨g,0,AD⟩/\g<w.heap.size/\w.cell? ⟨g,i*2,AD⟩=AE (AA AB (Dd l i).1)/\w.cell? ⟨g,i*2+1,AD⟩=AE (AA AB (Dd l i).2):=by
 rcases JO h with⟨_,h0,_⟩|⟨g,cap,cur,e,h1⟩
 ·omega
 ·injection e with I O J
  exact⟨g,I,h1.row.lt,(h1.at_ hi).1,(h1.at_ hi).2⟩
section
variable{w w':World}{G:Nat->Prop}{p:Nat}{s:Sp}
theorem Ja.lt(h:Ja w G p s){k}(e:G k):k<w:=by
 obtain⟨_,v,I,J,O⟩:=h;rcases(O k).1 e with rfl|e
 ·exact I.lt
 ·exact(J.lt k e).2
theorem Ja.E4{F}(h:Ja w G p s)(hf:DJ F w w')(I:∀k,G k->¬F k):Ja w' G p s:=by
 obtain⟨U,v,J,O,e⟩:=h;exact⟨U,v,hf.row J (I p ((e p).2 (.inl rfl))),R9 O hf λk Q=>I k ((e k).2 (.inr Q)),e⟩
theorem Ja.below(h:Ja w G p s)(hb:Below w w w'):Ja w' G p s:=h.E4 (DJ.DE hb λ_=>False) λ_ _ hf=>hf
end
theorem Ip(f n:Nat)(w:World)(h:f+n<=4000000):Calls AP 81 #[AL #[f,n]] w λe w'=>e=AH ((f+n:Nat):Int)/\Below w w w':=by
 obtain⟨u,hu⟩:=ao (f+n);rw[hu];have J:(f:Int)+(n:Int)=(u:Int):=a5;have hw:Ab.wrap (u:Int)=(u:Int):=Al _ a5;have I:=AO ((AS w w).alloc ar (AK #[f,n] 100));go_enter func81,ntmps81
 go_wp2
 go_ret
 exact⟨rfl,I.out⟩
theorem UT(a b:Nat)(f n:Int)(w:World)(h:a+b<=4000000)(hf:Gj f):Calls AP 79 #[AL #[a,b],f,n] w λe w'=>e=AH (.bool (decide ((a:Int)<=f)&&decide (n<=((a+b:Nat):Int)-f)))/\Below w w w':=by
 have bf:=hf.bounds;have O:=AO ((AS w w).alloc ar (AK #[a,b] 100));by_cases I:(a:Int)<=f
 ·have J:decide ((a:Int)<=f)=true:=by simpa using I
  have Q:decide (f≥(a:Int))=true:=by simpa using I
  have he:=Ip a b (w.alloc (AK #[a,b] 100)) h;obtain⟨u,hu⟩:=ao (a+b);rw[hu]at he⊢;have hw:Ab.wrap ((u:Int)-f)=(u:Int)-f:=Al _ a5;have U:=AO he;rw[J];clear he I;go_enter func79,ntmps79
  go_wp2_with fail
  refine U.out.mono ?_;rintro e w2 ⟨rfl,hb⟩;have Fg:=AO (O.out.trans (hb.mono a8));clear hb;go_wp2
  go_ret
  exact⟨a8,Fg.out⟩
 ·have J:decide ((a:Int)<=f)=false:=by simpa using I
  have Q:decide (f≥(a:Int))=false:=by simpa using I
  rw[J];clear I;go_enter func79,ntmps79
  go_wp2
  go_ret
  exact⟨a8,O.out⟩
def Hs(f n:Nat):Sp:=⟨f,n,if n=0 then []else [(f,n)]⟩
theorem XR{f n}(hf:f<=1000000)(e:n<=1000000):(Hs f n).ok:=by
 refine⟨hf,e,?_⟩;unfold Hs;by_cases h:n=0
 ·simp[h,Canon]
 ·simp[h,Canon];omega
theorem eX(f n:Nat)(w:World)(hf:f<=1000000)(Q:n<=1000000):Calls AP 26 #[f,n] w λe w'=>∃p G,e=AH (AI (AE ⟨p,0,AD⟩))/\Ja w' G p (Hs f n)/\(∀k,G k->w.heap.size<=k)/\Below w.heap.size w w':=by
 have g1:decide ((f:Int)<0)=false:=a8;have g2:decide ((f:Int)>1000000)=false:=by simp;omega
 have g3:decide ((n:Int)<0)=false:=a8;have g4:decide ((n:Int)>1000000)=false:=by simp;omega
 have U:=AO (XR hf Q);by_cases h:n=0
 ·subst h;have hb:=(AS w w).alloc ar (AK #[f,(),AJ AD 0 0] 103);have I:Row (w.alloc (AK #[f,(),AJ AD 0 0] 103)) w 103 (KB (Hs f 0) (AJ AD 0 0)):=heap_alloc_new _ _;have J:Hid (∃p G,Bn (AI (AE ⟨w.heap.size,0,AD⟩))=Bn (AI (AE ⟨p,0,AD⟩))/\Ja (w.alloc (AK #[AA AB f,AA AB 0,AJ AD 0 0] 103)) G p (Hs f 0)/\(∀k,G k->w.heap.size<=k)/\Below w.heap.size w (w.alloc (AK #[AA AB f,AA AB 0,AJ AD 0 0] 103))):=
   ⟨_,λk=>k=w.heap.size,rfl,⟨U.out,_,I,World.ownsRow_nil _ _ _ _,λk=>⟨.inl,λh=>h.elim id λe=>by cases e⟩⟩,λk hk=>by omega,hb⟩
  clear hb I;go_enter func26,ntmps26
  go_wp2
  go_ret
  exact J.out
 ·have g5:decide ((n:Int)>0)=true:=by simp;omega
  have g6:decide (0<n)=true:=by simp;omega
  have O:∀W,W=(w.alloc (AK #[AA AB f,AA AB n,AJ (AE ⟨w.heap.size+1,0,AD⟩) 1 1] 103)).alloc (AK #[AA AB f,AA AB n] 100)->
    (∃p G,Bn (AI (AE ⟨w.heap.size,0,AD⟩))=Bn (AI (AE ⟨p,0,AD⟩))/\Ja W G p (Hs f n)/\(∀k,G k->w.heap.size<=k)/\Below w.heap.size w W):=by
   rintro W rfl;have hb:=((AS w.heap.size w).alloc ar (AK #[AA AB f,AA AB n,AJ (AE ⟨w.heap.size+1,0,AD⟩) 1 1] 103)).alloc a8 (AK #[AA AB f,AA AB n] 100);have Ec:Row (w.alloc (AK #[AA AB f,AA AB n,AJ (AE ⟨w.heap.size+1,0,AD⟩) 1 1] 103)) w.heap.size 103 [AA AB f,AA AB n,AJ (AE ⟨w.heap.size+1,0,AD⟩) 1 1]:=heap_alloc_new _ _;have I:=Ec.alloc (AK #[f,n] 100);have he:Row ((w.alloc (AK #[AA AB f,AA AB n,AJ (AE ⟨w.heap.size+1,0,AD⟩) 1 1] 103)).alloc (AK #[AA AB f,AA AB n] 100)) (w.heap.size+1) 100 [AA AB f,AA AB n]:=by
    have:=heap_alloc_new (w.alloc (AK #[AA AB f,AA AB n,AJ (AE ⟨w.heap.size+1,0,AD⟩) 1 1] 103)) (AK #[AA AB f,AA AB n] 100);rw[World.size_alloc]at this;exact this
   have wZ:(Hs f n).fr=[(f,n)]:=by unfold Hs;simp[h]
   refine⟨_,λk=>k=w.heap.size\/k=w.heap.size+1,rfl,⟨U.out,AJ (AE ⟨w.heap.size+1,0,AD⟩) 1 1,I,?_,λk=>?_⟩,λk hk=>by omega,hb⟩
   ·rw[wZ];exact(Fo.own (cap:=1) ⟨he,rfl,AQ _,a5,rfl,rfl⟩)
   ·simp only[Bq];constructor
    ·rintro(h|h)
     ·exact .inl h
     ·exact .inr (by rw[h])
    ·rintro(h|h)
     ·exact .inl h
     ·injection h with h;exact .inr h.symm
  have J:=AO O;clear O h hf Q;go_enter func26,ntmps26
  go_wp2
  go_ret
  exact J.out _ rfl
theorem eK{l k}(e:k<l.length):EI (l.take (k+1))=EI (l.take k)+(Dd l k).2:=by
 rw[Bj,AU e,Gy e,Dv];simp[EI]
theorem rZ{l}(k:Nat):EI (l.take k)<=EI l:=by
 conv=>rhs;rw[<-BS k l,Dv]
 omega
theorem oC(p:Nat)(s:Sp)(G:Nat->Prop)(w:World)(h:Ja w G p s):Calls AP 43 #[AI p] w λe w'=>e=AH (EI s.fr:Nat)/\Below w w w':=by
 obtain⟨O,v,hr,ho,hG⟩:=h;obtain⟨A,c,rfl,ae,Fy,_⟩:=DL ho;have c2:w.cell? (p,2)=AE (AJ A s.fr.length c):=hr.cell 2;have Gi:=hr.lt;obtain⟨n,J⟩:=ao s.fr.length;have hlen:=O.len;have SQ:EI s.fr<=4000000:=by have:=O.2.2.sum;have:=O.2.1;omega
 generalize hl:s.fr=l at*
 have HN:=AO J;rw[J]at c2 hlen;have HO:Hid (w.ownsRow 0 100 2 (AJ A n c) n (DB l)):=by rw[<-J];exact ho
 have HS:=AO SQ;have ad:Hid (EI (l.take n)=EI l):=by unfold Hid;rw[Ay a5]
 clear O hr ho hG J SQ;go_enter func43,ntmps43
 go_wp2
 go_loopw [3,13] (λsv U wr=>∃k:Nat,k<=n/\U=AA AB k/\sv=AA AB (EI (l.take k):Nat)/\Below w.heap.size w wr) (λ_ U _=>n-(BF U).toNat)
 case atStart=>exact⟨0,a5,rfl,rfl,AS _ _⟩
 case round=>
  obtain⟨k,hk,rfl,rfl,Q⟩:=hrel;have J4:=AO Q;by_cases ab:k<n
  ·obtain⟨g,rfl,hg,Jx,Li⟩:=IM (Dz HO.out Q) ab;obtain⟨a,ha⟩:=ao ((Dd l k).1);obtain⟨b,hb⟩:=ao ((Dd l k).2);have I:=eK (l:=l) (k:=k) (by have:=HN.out;omega);have hle:=rZ (l:=l) (k+1);rw[ha]at Jx;rw[hb]at Li I;obtain⟨t,ht⟩:=ao (EI (l.take k));obtain⟨u,hu⟩:=ao (EI (l.take (k+1)));rw[ht];rw[ht,hu]at I;rw[hu]at hle;have MX:(t:Int)+(b:Int)=(u:Int):=a5;have Ns:Ab.wrap (u:Int)=(u:Int):=Al _ (by have:=HS.out;omega);have HU:=AO hu;clear I hle ha hb ht hu Q;go_wp2
   have Fg:=AO (J4.out.alloc (by have:=J4.out.size;omega) (AK #[a,b] 100));go_roundw
   case rel=>exact⟨k+1,a5,by go_num,by rw[HU.out],Fg.out⟩
   case measure=>simp[BF];omega
  ·obtain rfl:k=n:=a5;rw[ad.out];clear Q;go_wp2
   go_ret
   exact⟨rfl,J4.out⟩
theorem iU{v n l}(w:World)(h:w.ownsRow 0 100 2 v n (DB l))(hn:n<=4000000):Calls AP 152 #[v] w λe w'=>∃v',e=AH v'/\w'.ownsRow w 100 2 v' n (DB l)/\Below w w w':=by
 rcases JO h with⟨rfl,rfl,rfl⟩|⟨g,cap,cur,rfl,h1⟩
 ·have heq:=Lib.run_eql_slice_nil (P:=AP) w 101 100 AD 0 0 0 0 Ad;clear h;go_enter func152,ntmps152
  go_wp2
  go_ret
  exact⟨_,rfl,World.ownsRow_nil _ _ _ _,AS _ _⟩
 ·obtain⟨i0,FW,Fa,hz,Vi⟩:=Fk;have heq:=Lib.run_eql_slice_nil (P:=AP) w 101 100 g n cap 0 0 Ad;have U:(DB l).length=n*2:=by rw[DQ,h1.len]
  have EZ:∀j v,(DB l)[j]?=AE v->(w.alloc (AK #[] 100)).cell? ((g:Addr).add j)=AE v:=λj v hj=>by
   rw[Bm,BM,(h1.row.alloc _).cell];have:=h1.src 0 j v (by simpa using hj);simpa using this
  have HS:=AO EZ;have qf:=AO U;have Yn:=AO FW;have O:=h1.max;clear h h1 EZ U FW;go_enter func152,ntmps152
  go_wp2_with (with_reducible refine EW 7 ?_)
  unfold Hid;refine wpList_append_own_at _ rfl _ _ 101 rfl w 100 i0 _ 2 16 Ad Yn.out Fa hz Vi rfl a6 _ 0 [] rfl (World.ownsRow_made w #[] 0 ar a6 rfl) g n cap (DB l) rfl qf.out HS.out EM (by unfold maxLen;omega) a5 a8 ?_;intro v' w' I Q _ _;rw[BM,BL]at I;have HO:=AO I;have HB:Hid (Below w w w'):=((AS w w).alloc ar (AK #[] 100)).grown Q a8 λk J=>by injection J with J;subst J;exact AQ _
  obtain⟨A',c',rfl⟩:∃A' c',v'=AJ A' n c':=by
   rcases I.2 with⟨rfl,rfl⟩|⟨g',Q0,TF,rfl,_⟩
   ·exact⟨_,_,rfl⟩
   ·exact⟨_,_,rfl⟩
  clear I Q;go_wp2
  go_ret
  exact⟨_,rfl,HO.out,HB.out⟩
theorem X8(p:Nat)(s:Sp)(G:Nat->Prop)(w:World)(h:Ja w G p s):Calls AP 145 #[AI p] w λe w'=>∃v',e=AH v'/\w'.ownsRow w 100 2 v' s.fr.length (DB s.fr)/\Below w w w':=by
 obtain⟨O,v,J,I,U⟩:=h;have c2:w.cell? (p,2)=AE v:=J.cell 2;have hlen:=O.len;have Q:=iU w I a5;have HC:=AO Q;obtain⟨A,c,rfl,_,_,_⟩:=DL I;generalize s.fr.length=n at*
 clear O J I U Q;go_enter func145,ntmps145
 go_wp2_with fail
 refine HC.out.mono ?_;rintro e w2 ⟨v',rfl,I,hb⟩;have HO:=AO I;have HB:=AO hb;obtain⟨A',c',rfl⟩:∃A' c',v'=AJ A' n c':=by
  rcases I.2 with⟨rfl,rfl⟩|⟨g',Q0,TF,rfl,_⟩
  ·exact⟨_,_,rfl⟩
  ·exact⟨_,_,rfl⟩
 clear I hb;go_wp2
 go_ret
 exact⟨_,rfl,HO.out,HB.out⟩
theorem fR(b1 b2 p n c i:Nat)(A:Option Addr)(l:List Ex)(at_:Int)(W:World)(Q:W.cell? b1=AE (AI p))(O:W.cell? b2=AE (AA AB at_))(h3:W.cell? (p,2)=AE (AJ A n c))
  (J:W.ownsRow 0 100 2 (AJ A n c) n (DB l))(hi:i<n)(I:(Dd l i).1+(Dd l i).2<=4000000):
  Calls AP 106 #[i,AI b1,AI b2] W λe w'=>e=AH (.bool (decide (at_<((Dd l i).1+(Dd l i).2:Nat))))/\Below W W w':=by
 obtain⟨g,rfl,hg,Jx,Li⟩:=IM J hi;generalize(Dd l i).1=a at*
 generalize(Dd l i).2=b at*
 have l1:=block_lt_of_cell Q;have l2:=block_lt_of_cell O;have l3:=block_lt_of_cell h3;obtain⟨u,hu⟩:=ao (a+b);have U:Hid (∀w,Calls AP 81 #[AL #[a,b]] w λe w'=>e=AH u/\Below w w w'):=λw=>by have:=Ip a b w I;rwa [hu]at this
 rw[hu];have i0:(0:Int)<=(i:Int):=a5;have i1:(i:Int)<(n:Int):=a5;clear hu I J;go_enter func106,ntmps106
 go_wp2
 go_region_held3 (λw'=>w'.cell? b1=AE (AI p)/\w'.cell? b2=AE (AA AB at_)/\w'.cell? (p,2)=AE (AJ g n c)/\w'.cell? (g,i*2)=AE (AA AB a)/\w'.cell? (g,i*2+1)=AE (AA AB b))
  (first|go_keep|(go_split_ands;refine⟨?_,?_,?_,?_,?_⟩<;>(first|assumption|(rw[ED.cell (by first|(simp;done)|(simp;omega))];assumption)))) ((go_at_call 81;refine(U.out _).mono ?_;rintro e w2 ⟨rfl,ED⟩))
 have HB:Hid (Below W W w2):=(DA (AS W W) 1).trans ED;clear ED;go_wp2
 go_ret
 refine⟨?_,HB.out⟩
 first|rfl|(simp only[gt_iff_lt])
theorem dx(b1:Nat)(a b:Nat)(n:Int)(W:World)(I:W.cell? b1=AE (AA AB n)):
  Calls AP 99 #[AL #[a,b],AI b1] W λe w'=>e=AH (.bool (decide (n<=(b:Int))))/\Below W W w':=by
 have l1:=block_lt_of_cell I;have O:(W.alloc (AK #[a,b] 100)).cell? b1=AE (AA AB n):=Lib.cell?_alloc_some _ I;have J:=AO ((AS W W).alloc ar (AK #[a,b] 100));go_enter func99,ntmps99
 go_wp2
 go_ret
 refine⟨?_,J.out⟩
 first|rfl|(simp only[ge_iff_le])
theorem ZL(n:Nat)(q:Nat->Bool)(fs:Array Value)(w:World)(hn:n<=2000000)(Xm:∀i j,i<=j->j<n->q i=true->q j=true)
  (hp:∀W k,k<n->Below w.heap.size w W->Calls AP 106 (#[AA AB (k:Nat)]++fs) W λe w'=>e=AH (.bool (q k))/\Below w.heap.size w w'):
  Calls AP 105 #[n,.func (.func 106) #[] fs] w λe w'=>∃i:Nat,e=AH i/\i<=n/\(∀k,k<i->q k=false)/\(i<n->q i=true)/\Below w w w':=by
 have HP:=AO hp;have HM:=AO Xm;clear hp Xm;go_enter func105,ntmps105
 go_wp2
 go_loopw [5,6] (λO jv wr=>∃i j:Nat,i<=j/\j<=n/\O=AA AB i/\jv=AA AB j/\Below w.heap.size w wr/\Hid (∀k,k<i->q k=false)/\Hid (j<n->q j=true)) (λO jv _=>(BF jv).toNat-(BF O).toNat)
 case atStart=>exact⟨0,n,a5,AQ _,rfl,rfl,AS _ _,λk J=>absurd J a5,λh=>absurd h a5⟩
 case round=>
  obtain⟨i,j,Ii,hj,rfl,rfl,Q,U,HJ⟩:=hrel;have J4:=AO Q;by_cases ab:i<j
  ·obtain⟨I,SQ⟩:∃I:Nat,I=i+j:=⟨_,rfl⟩;obtain⟨h,hh⟩:∃h:Nat,h=I/2:=⟨_,rfl⟩;have Qv:i<=h:=a5;have ad:h<j:=a5;have MX:(i:Int)+(j:Int)=(I:Int):=a5;have Ns:Ab.wrap (I:Int)=(I:Int):=Al _ a5;have hdiv:(I:Int)/2=(h:Int):=a5;clear Q SQ hh;go_wp2_with fail
   refine(HP.out wr h a5 J4.out).mono ?_;rintro e w2 ⟨rfl,DT⟩;have Fg:=AO DT;clear DT
   cases hq:q h with
   |true=>
    have HQ:Hid (∀k,k<h->k<i->q k=false):=λk _ J=>U.out k J;have qY:Hid (h<n->q h=true):=λ_=>hq;clear hq;go_wp2
    go_roundw
    case rel=>exact⟨i,h,Qv,a5,rfl,rfl,Fg.out,U.out,qY.out⟩
    case measure=>simp[BF];omega
   |false=>
    have HQ:Hid (∀k,k<h+1->q k=false):=λk J=>by
     rcases Ak k h with h1|h1
     ·cases KG:q k with
      |false=>rfl
      |true=>have:=HM.out k h a5 a5 KG;rw[hq]at this;cases this
     ·obtain rfl:k=h:=a5;exact hq
    clear hq;go_wp2
    go_roundw
    case rel=>exact⟨h+1,j,a5,hj,by go_num,rfl,Fg.out,HQ.out,HJ.out⟩
    case measure=>simp[BF];omega
  ·obtain rfl:i=j:=a5;clear Q;go_wp2
   go_ret
   exact⟨i,rfl,hj,U.out,HJ.out,J4.out⟩
def Gr(l:List Ex)(a:Int):Nat:=l.findIdx λx=>decide (a<((x.1+x.2:Nat):Int))
theorem UN(l:List Ex)(a:Nat):Gr l (a:Int)=EK l a:=by
 unfold Gr EK
 congr 1;funext x
 rw[Bool.eq_iff_iff];simp only[decide_eq_true_eq];omega
theorem Rr(p:Nat)(s:Sp)(G:Nat->Prop)(a:Int)(w:World)(h:Ja w G p s):Calls AP 80 #[AI p,a] w λe w'=>e=AH (Gr s.fr a:Nat)/\Below w w w':=by
 obtain⟨Q,v,hr,ho,hG⟩:=h;obtain⟨A,c,rfl,ab,Fy,_⟩:=DL ho;have hlen:=Q.len;have I:=Q.2.2;have Qv:s.first+s.blocks<=4000000:=by have:=Q.1;have:=Q.2.1;omega
 generalize s.first+s.blocks=hi at*
 generalize s.first=lo at*
 generalize hl:s.fr=l at*
 obtain⟨n,hn⟩:=ao l.length;rw[hn]at ho hlen ab;have hB:=((AS w w).alloc ar (AK #[AI p] 62)).alloc a8 (AK #[a] 3);have k1:((w.alloc (AK #[AI p] 62)).alloc (AK #[a] 3)).cell? w=AE (AI p):=by
  have O:Row (w.alloc (AK #[AI p] 62)) w 62 [AI p]:=heap_alloc_new _ _;exact(O.alloc _).cell 0
 have k2:((w.alloc (AK #[AI (AE ⟨p,0,AD⟩)] 62)).alloc (AK #[AA AB a] 3)).cell? ⟨w.heap.size+1,0,AD⟩=AE (AA AB a):=by
  have O:Row ((w.alloc (AK #[AI p] 62)).alloc (AK #[a] 3)) (w+1) 3 [a]:=by
   have:=heap_alloc_new (w.alloc (AK #[AI p] 62)) (AK #[a] 3);rw[World.size_alloc]at this;exact this
  exact O.cell 0
 have k3:((w.alloc (AK #[AI p] 62)).alloc (AK #[a] 3)).cell? (p,2)=AE (AJ A n c):=((hr.alloc _).alloc _).cell 2|>.trans (by rw[<-hn,<-hl];rfl);have k4:=Dz ho hB;generalize hW:(w.alloc (AK #[AI p] 62)).alloc (AK #[a] 3)=W at*
 have hq:∀W' k,k<n->Below W.heap.size W W'->Calls AP 106 (#[AA AB (k:Nat)]++#[AI (AE ⟨w.heap.size,0,AD⟩),AI (AE ⟨w.heap.size+1,0,AD⟩)]) W' λe w'=>e=AH (.bool (decide (a<((Dd l k).1+(Dd l k).2:Nat))))/\Below W.heap.size W w':=λW' k hk hb=>by
  refine(fR w.heap.size (w.heap.size+1) p n c k A l a W' ?_ ?_ ?_ (Dz k4 hb) hk ?_).mono λe w' h=>⟨h.1,hb.trans (h.2.mono hb.size)⟩
  ·exact(hb.cell (block_lt_of_cell k1)).trans k1
  ·exact(hb.cell (block_lt_of_cell k2)).trans k2
  ·exact(hb.cell (block_lt_of_cell k3)).trans k3
  ·have:=I.getD (show k<l.length by omega);omega
 have U:=ZL n (λk=>decide (a<((Dd l k).1+(Dd l k).2:Nat))) #[AI (AE ⟨w.heap.size,0,AD⟩),AI (AE ⟨w.heap.size+1,0,AD⟩)] W a5 (λi j Ii hj cN=>by
   simp only[decide_eq_true_eq]at cN⊢;rcases Ak i j with O|O
   ·have:=I.ends O a5;omega
   ·obtain rfl:i=j:=a5;exact cN) hq
 have J:Calls AP 105 #[n,.func (.func 106) #[] #[AI w.heap.size,AI (w.heap.size+1,0)]] W λe w'=>e=AH (Gr l a:Nat)/\Below w.heap.size w w':=U.mono λe w' h=>by
  obtain⟨i,rfl,O,h2,h3,h4⟩:=h;have:Gr l a=i:=IT a5 h2 (λh=>h3 a5);rw[this];exact⟨rfl,hB.trans (h4.mono hB.size)⟩
 have HR:=AO J;have K1:=AO k1;generalize Gr l a=z at*
 subst hW;clear J U hq I Q hr ho k4 hB hn k1 hl hG;go_enter func80,ntmps80
 go_wp2_with fail
 refine HR.out.mono ?_;rintro e w2 ⟨rfl,hb⟩;have HB:=AO hb;clear hb;go_wp2
 go_ret
 exact⟨rfl,HB.out⟩
theorem Zq(b1:Nat)(m:Int)(A:Option Addr)(n c:Nat)(l:List Ex)(w:World)(I:w.cell? b1=AE (AA AB m))(ho:w.ownsRow 0 100 2 (AJ A n c) n (DB l))(hl:l.length=n)(hn:n<=2000000):
  Calls AP 98 #[AJ A n c,.func (.func 99) #[] #[AI b1]] w λe w'=>
   (∃i:Nat,i<n/\(∀k,k<i->decide (m<=((Dd l k).2:Int))=false)/\decide (m<=((Dd l i).2:Int))=true/\e=AH i/\Below w w w')\/((∀k,k<n->decide (m<=((Dd l k).2:Int))=false)/\e=AH (AA AB (-1))/\Below w w w'):=by
 have HO:=AO ho;have H1:=AO I;have Dg:=block_lt_of_cell I;clear ho I;go_enter func98,ntmps98
 go_wp2
 go_loopw [5,8] (λ_ iv wr=>∃k:Nat,k<=n/\iv=AA AB k/\Below w.heap.size w wr/\Hid (∀j,j<k->decide (m<=((Dd l j).2:Int))=false)) (λ_ iv _=>n-(BF iv).toNat)
 case atStart=>exact⟨0,a5,rfl,AS _ _,λj hj=>absurd hj a5⟩
 case round=>
  obtain⟨k,hk,rfl,O,HK⟩:=hrel;have U:=AO O;by_cases Q:k<n
  ·obtain⟨g,rfl,hg,Jx,Li⟩:=IM (Dz HO.out O) Q;have J:=dx b1 (Dd l k).1 (Dd l k).2 m wr ((O.cell Dg).trans H1.out);have HX:Hid (Dd l k=((Dd l k).1,(Dd l k).2)):=rfl;generalize(Dd l k).1=a at*
   cases hq:decide (m<=((Dd l k).2:Int))with
   |true=>
    rw[hq]at J;have HC:=AO J;have HQ:=AO hq;generalize(Dd l k).2=b at Li HC;clear O J hq;go_wp2_with fail
    refine HC.out.mono ?_;rintro e w2 ⟨rfl,DT⟩;have Fg:=AO (U.out.trans (DT.mono U.out.size));clear DT;go_wp2
    go_ret
    exact .inl ⟨k,Q,HK.out,HQ.out,rfl,Fg.out⟩
   |false=>
    rw[hq]at J;have HC:=AO J;have HQ:Hid (∀j,j<k+1->decide (m<=((Dd l j).2:Int))=false):=λj hj=>by
     rcases Ak j k with I|I
     ·exact HK.out j I
     ·obtain rfl:j=k:=a5;exact hq
    generalize(Dd l k).2=b at Li HC;clear O J hq;go_wp2_with fail
    refine HC.out.mono ?_;rintro e w2 ⟨rfl,DT⟩;have Fg:=AO (U.out.trans (DT.mono U.out.size));clear DT;go_wp2
    go_roundw
    case rel=>exact⟨k+1,a5,by go_num,Fg.out,HQ.out⟩
    case measure=>simp[BF];omega
  ·obtain rfl:k=n:=a5;clear O;go_wp2
   go_ret
   exact .inr ⟨HK.out,rfl,U.out⟩
theorem Ig{w:World}{B B' v n xs}(h:w.ownsRow B 100 2 v n xs)(hb:B'<=B):w.ownsRow B' 100 2 v n xs:=by
 obtain⟨I,e⟩:=h;refine⟨I,?_⟩;rcases e with e|⟨g,cap,cur,rfl,J,r⟩
 ·exact .inl e
 ·exact .inr ⟨g,cap,cur,rfl,a5,r⟩
def xW(w:World)(G:Nat->Prop)(p:Nat)(s:Sp)(v:Value):Prop:=
 s.ok/\Row w p 103 (KB s v)/\w.ownsRow 0 100 2 v s.fr.length (DB s.fr)/\∀k,G k↔k=p\/v.ownBlock=AE k
theorem xW.apart{w G p s v}(h:xW w G p s v):v.ownBlock≠AE p:=by
 intro e;obtain⟨cs,I⟩:=XK h.2.2.1 e;have J:=h.2.1;unfold Row at J I;rw[J]at I;injection I with I;injection I with _ I;exact absurd I a6
theorem Em{w w5 w6 G p s v R e}(h:xW w G p s v)(hb:Below w w w5)(I:JH w5 v R e w6):Row w6 p 103 (KB s v):=by
 obtain⟨v',_,_,hf,_⟩:=I;exact hf.row (h.2.1.below hb h.2.1.lt) h.apart
theorem Gk{w w5 O G p s v v' R}(h:xW w G p s v)(hb:Below w w w5)(hg:JH w5 v R (AH v') O)(DN:({s with fr:=R}:Sp).ok):
  ∃G',Ja (O.setCell (p,2) v') G' p {s with fr:=R}/\DJ G w (O.setCell (p,2) v')/\∀k,G' k->G k\/w<=k:=by
 have MM:=Em h hb hg;obtain⟨v2,e,ho,hf,hk⟩:=hg;injection e with e;subst e
 have Q:v'.ownBlock≠AE p:=by
  intro e;obtain⟨cs,J⟩:=XK ho e;unfold Row at MM J;rw[MM]at J;injection J with J;injection J with _ J;exact absurd J a6
 have Kq:DJ (λk=>k=p) O (O.setCell (p,2) v'):=(DJ.refl (λk=>k=p) O).set (p:=(p,2)) (.inl rfl) v';refine⟨λk=>k=p\/v'.ownBlock=AE k,⟨DN,v',MM.set 2 v',R9 ho Kq λk I e=>Q (by rw[I,e]),λk=>BO⟩,?_,λk I=>?_⟩
 ·refine((DJ.DE hb G).trans hf λk I=>.inl ((h.2.2.2 k).2 (.inr I))).trans Kq λk I=>.inl ((h.2.2.2 k).2 (.inl I))
 ·rcases I with rfl|I
  ·exact .inl ((h.2.2.2 k).2 (.inl rfl))
  ·rcases hk k I with U|U
   ·exact .inl ((h.2.2.2 k).2 (.inr U))
   ·exact .inr (Ag hb.size U)
theorem ug{w w':World}{x y a b}(h:Below (w+2) ((w.alloc (AK #[x,y] 100)).alloc (AK #[a,b] 100)) w'):
  w'.cell? w.heap.size=AE x/\w'.cell? (w.heap.size,1)=AE y/\w'.cell? (w.heap.size+1,0)=AE a/\w'.cell? (w.heap.size+1,1)=AE b:=by
 have O:Row (w.alloc (AK #[x,y] 100)) w 100 [x,y]:=heap_alloc_new _ _;have J:Row ((w.alloc (AK #[x,y] 100)).alloc (AK #[a,b] 100)) (w+1) 100 [a,b]:=by
  have:=heap_alloc_new (w.alloc (AK #[x,y] 100)) (AK #[a,b] 100);rw[World.size_alloc]at this;exact this
 have I:=(O.alloc (AK #[a,b] 100)).below h a5;have e:=J.below h a5;exact⟨I.cell 0,I.cell 1,e.cell 0,e.cell 1⟩
theorem l8{w:World}{t}{a b k:Nat}(I:w=k):∀j v,(DB [(a,b)])[j]?=AE v->(w.alloc (AK #[a,b] t)).cell? ((k:Addr).add j)=AE v:=by
 subst I;intro j v J;have e:Row (w.alloc (AK #[a,b] t)) w t [a,b]:=heap_alloc_new _ _;rw[Bm,BM,e.cell];exact J
theorem Kl{w w':World}{B v n xs}(h:w.ownsRow B 100 2 v n xs)(hb:Below w w w'):w'.ownsRow B 100 2 v n xs:=by
 obtain⟨J,e⟩:=h;refine⟨J,?_⟩;rcases e with e|⟨g,cap,cur,rfl,I,hh,r⟩
 ·exact .inl e
 ·exact .inr ⟨g,cap,cur,rfl,I,(hb.block g (Array.getElem?_eq_some_iff.1 hh).1).trans hh,r⟩
section
variable{w w1 w2:World}{x y a b u:Value}{m:Nat}{l:List Value}
abbrev S6 (w:World) (x y a b u:Value) (m:Nat) (l:List Value) (w1:World):Prop:=
 Below (w.heap.size+2) ((w.alloc (AK #[x,y] 100)).alloc (AK #[a,b] 100)) w1/\w1.ownsRow (w.heap.size+2) 100 2 u m l/\w.heap.size+2<=w1.heap.size/\w1.cell? ⟨w.heap.size,0,AD⟩=AE x/\w1.cell? ⟨w.heap.size,1,AD⟩=AE y/\w1.cell? ⟨w.heap.size+1,0,AD⟩=AE a/\w1.cell? ⟨w.heap.size+1,1,AD⟩=AE b
theorem vh(h:Below (w.heap.size+2) ((w.alloc (AK #[x,y] 100)).alloc (AK #[a,b] 100)) w1)(Q:w1.ownsRow (w.heap.size+2) 100 2 u m l)(O:w.heap.size+2<=w1.heap.size):S6 w x y a b u m l w1:=by
 obtain⟨J,I,e,k3⟩:=ug h;exact⟨h,Q,O,J,I,e,k3⟩
theorem QM{w3 w4}(h:Below (w+2) ((w.alloc (AK #[x,y] 100)).alloc (AK #[a,b] 100)) w3)(hb:Below w3 w3 w4):
  Below w3.heap.size w3 w4/\w4.cell? w.heap.size=AE x/\w4.cell? (w.heap.size,1)=AE y/\w4.cell? (w.heap.size+1,0)=AE a/\w4.cell? (w.heap.size+1,1)=AE b:=by
 obtain⟨J,I,e,k3⟩:=ug (h.trans (hb.mono (by have:=h.size;simp at this;omega)));exact⟨hb,J,I,e,k3⟩
theorem VK(h:Below (w.heap.size+2) ((w.alloc (AK #[x,y] 100)).alloc (AK #[a,b] 100)) w1)(I:w1.ownsRow (w.heap.size+2) 100 2 u m l)(e:w.heap.size+2<=w1.heap.size)(hb:Below w1.heap.size w1 w2):S6 w x y a b u m l w2:=
 vh (h.trans (hb.mono e)) (Kl I hb) (Ag e hb.size)
theorem Wz(h:Below (w.heap.size+2) ((w.alloc (AK #[x,y] 100)).alloc (AK #[a,b] 100)) w1)(I:w1.ownsRow (w.heap.size+2) 100 2 u m l)(e:w.heap.size+2<=w1.heap.size)(o:Obj):S6 w x y a b u m l (w1.alloc o):=
 VK h I e ((AS _ _).alloc ar o)
theorem kr(h:Below (w.heap.size+2) ((w.alloc (AK #[x,y] 100)).alloc (AK #[a,b] 100)) w1)(O:w1.ownsRow (w.heap.size+2) 100 2 u m l)(I:w.heap.size+2<=w1.heap.size)(e:w2.ownsRow (w.heap.size+2) 100 2 u m l)(J:w1.grownBy w2 u.ownBlock):S6 w x y a b u m l w2:=
 vh (h.grown J I λk e=>(O.lt k e).1) e (Ag I J.size)
end
theorem cW(p:Nat)(s:Sp)(G:Nat->Prop)(i f n':Nat)(w:World)(h:Ja w G p s)(hi:i<s.fr.length)(h1:(Dd s.fr i).1<=f)(h2:f+n'<=(Dd s.fr i).1+(Dd s.fr i).2)(hn:1<=n'):
  Calls AP 83 #[AI p,i,AL #[f,n']] w λe w'=>∃G',e=AH (AM #[])/\Ja w' G' p {s with fr:=LX s.fr i f n'}/\DJ G w w'/\∀k,G' k->G k\/w<=k:=by
 obtain⟨DN,v,hr,ho,hG⟩:=h;obtain⟨i0,FW,Fa,hz,Vi⟩:=Fk;obtain⟨A,c,rfl,aE,Fy,_⟩:=DL ho;have KF:=YC DN.2.2 hi h1 h2 hn;have Sh:=DN.2.2.getD hi;have Qv:s.first+s.blocks<=4000000:=by have:=DN.1;have:=DN.2.1;omega
 have hlen:=DN.len;have c2:w.cell? (p,2)=AE (AJ A s.fr.length c):=hr.cell 2;have Gi:=hr.lt;obtain⟨g,rfl,O,Jx,Li⟩:=IM ho hi;obtain⟨A,hA⟩:∃A:Option Addr,A=AE g:=⟨_,rfl⟩;obtain⟨N,hN⟩:=ae s.fr.length;have H0:xW w G p s (AJ g N c):=by subst hN;exact⟨DN,hr,ho,hG⟩
 obtain⟨R,hR⟩:=ae (LX s.fr i f n');have av:Hid (({s with fr:=LX s.fr i f n'}:Sp).ok):=⟨DN.1,DN.2.1,KF.1⟩;unfold LX at hR;rw[<-hN]at c2 hi hlen;obtain⟨a,ha⟩:=ao ((Dd s.fr i).1);obtain⟨b,hb⟩:=ao ((Dd s.fr i).2);have hx:Dd s.fr i=(a,b):=Prod.ext ha hb;rw[hx]at hR;rw[ha,hb]at h2 Sh;rw[ha]at h1 Jx;rw[hb]at Li;have hcut:LX s.fr i f n'=R:=by unfold LX;rw[hx,hR]
 rw[hcut]at av⊢;have IX:=av;have HA:=AO hA;subst hA;have H:=AO H0;have HN:Hid (i<N/\N<=1000000/\s.fr.length=N):=⟨hi,hlen,hN.symm⟩;have Yn:=AO FW;obtain⟨U,qH⟩:=ao (f+n');obtain⟨u2,RD⟩:=ao (a+b);have YV:Hid (∀W,Calls AP 81 #[AL #[f,n']] W λe w'=>e=AH U/\Below W W w'):=λW=>by have:=Ip f n' W a5;rwa [qH]at this
 have O9:Hid (∀W,Calls AP 81 #[AL #[a,b]] W λe w'=>e=AH u2/\Below W W w'):=λW=>by have:=Ip a b W a5;rwa [RD]at this
 have aS:U<=u2:=a5;have a0:u2<=4000000:=a5;have LL:f<=4000000:=a5;have aC:(0:Int)<=(i:Int):=a5;have aB:(i:Int)<(N:Int):=a5;have aR:Ab.wrap ((i:Int)+1)=(i:Int)+1:=Al _ a5;have vE:=AO hR;have HU:=AO qH;have T4:=AO RD;clear KF Sh DN hr ho hG H0 hN ha hb hx hcut av hR FW qH RD Qv;by_cases hl:a<f
 ·obtain⟨q,hq⟩:=ao (f-a);have ax:(f:Int)-(a:Int)=(q:Int):=a5;have aD:Ab.wrap (q:Int)=(q:Int):=Al _ a5;have gl:decide ((a:Int)<(f:Int))=true:=by simp;omega
  have ay:decide (a<f)=true:=by simp;omega
  have HQ:=AO hq;have HL:Hid (a<f):=hl;clear hq;go_enter func83,ntmps83
  go_wp2_with (with_reducible refine EW 30 ?_)
  unfold Hid;refine wpList_append_own_at _ rfl _ _ 101 rfl (w.heap.size+2) 100 i0 _ 2 16 Ad Yn.out Fa hz Vi rfl a6 _ 0 [] rfl (World.ownsRow_nil _ _ _ _) ⟨w.heap.size+2,0,AD⟩ 1 1 (DB [(a,q)]) rfl rfl (l8 a8) EM a6 a6 a8 ?_;intro v1 w3 qK IQ _ _;rw[BL]at qK;have Ei:Hid (Below (w+2) ((w.alloc (AK #[f,n'] 100)).alloc (AK #[a,b] 100)) w3):=((AS _ _).alloc a8 _).grown IQ a8 λk hk=>by cases hk
  have xd:=AO qK;obtain⟨B1,d1,rfl⟩:∃B1 d1,v1=AJ B1 1 d1:=by
   obtain⟨B1,d1,h1,_⟩:=DL (Ig qK (Ao _));exact⟨B1,d1,h1⟩
  clear qK IQ;go_wp2
  have Jz:Hid (Below w w w3):=(((AS w w).alloc ar _).alloc a8 _).trans (Ei.out.mono a5);by_cases m6:U<u2
  ·skip
   have gr:decide ((U:Int)<(u2:Int))=true:=by simp;omega
   have aq:decide (U<u2)=true:=by simp;omega
   obtain⟨t,ht⟩:=ao (u2-U);have aA:(u2:Int)-(U:Int)=(t:Int):=a5;have aw:Ab.wrap (t:Int)=(t:Int):=Al _ a5;have HT:=AO ht;clear ht;have HR:Hid (s.fr.take i++([(a,q)]++[(U,t)])++s.fr.drop (i+1)=R):=by
    unfold Hid;rw[vE.out];unfold MI;dsimp only;rw[if_pos HL.out,if_pos (by rw[HU.out];have:=T4.out;omega)];rw[HQ.out];rw[HU.out,T4.out,HT.out]
   have Tg:w.heap.size+2<=w3.heap.size:=by have:=Ei.out.size;simp at this;omega
   go_region_held3 (λw'=>Below w3.heap.size w3 w'/\w'.cell? w.heap.size=AE (AA AB f)/\w'.cell? (w.heap.size,1)=AE (AA AB n')/\w'.cell? (w.heap.size+1,0)=AE (AA AB a)/\w'.cell? (w.heap.size+1,1)=AE (AA AB b))
    (first
     |(exact QM Ei.out (DA (AS _ _) 1))
     |(exact QM Ei.out I))
    ((go_split_ands;go_at_call 81;(first|(with_reducible refine(YV.out _).mono ?_)|(with_reducible refine(O9.out _).mono ?_));rintro e w4 ⟨rfl,ED⟩;have I:Below w3.heap.size w3 w4:=CR a9 (CV ED (CU a9))))
   have TZ:=AO I;clear I;have ad:w4.ownsRow (w+2) 100 2 (AJ B1 1 d1) 1 (DB [(a,q)]):=Kl xd.out TZ.out;have IE:Below (w+2) ((w.alloc (AK #[f,n'] 100)).alloc (AK #[a,b] 100)) w4:=Ei.out.trans (TZ.out.mono Tg);obtain⟨m0,m1,m2,m3⟩:=ug IE;have Xe:w.heap.size+2<=w4.heap.size:=by have:=IE.size;simp at this;omega
   have PL:=AO IE;have au:=AO ad;clear IE ad;go_wp2
   go_region_held3 (λw'=>Below (w.heap.size+2) ((w.alloc (AK #[AA AB f,AA AB n'] 100)).alloc (AK #[AA AB a,AA AB b] 100)) w'/\w'.ownsRow (w.heap.size+2) 100 2 (AJ B1 1 d1) 1 (DB [(a,q)])/\w.heap.size+2<=w'.heap.size/\w'.cell? ⟨w.heap.size,0,AD⟩=AE (AA AB f)/\w'.cell? ⟨w.heap.size,1,AD⟩=AE (AA AB n')/\w'.cell? ⟨w.heap.size+1,0,AD⟩=AE (AA AB a)/\w'.cell? ⟨w.heap.size+1,1,AD⟩=AE (AA AB b))
    (first
     |(exact⟨DA PL.out 1,au.out,Xe,m0,m1,m2,m3⟩)
     |(exact I)
     |(go_split_ands;exact Wz a9 a9 a9 _)
     |(exact Sk))
    (first
     |(go_split_ands;go_at_call 81;(first|(with_reducible refine(YV.out _).mono ?_)|(with_reducible refine(O9.out _).mono ?_));rintro e Q ⟨rfl,ED⟩;have I:=VK a9 a9 a9 ED)
     |(go_split_ands;refine Ki rfl _ _ 101 rfl (w.heap.size+2) 100 i0 _ 2 16 Ad Yn.out Fa hz Vi rfl a6 (AJ B1 1 d1) 1 (DB [(a,q)]) (by first|rfl|simp) a9 _ 1 1 (DB [(U,t)]) (by first|rfl|simp) rfl (l8 (by first|rfl|simp)) EM a6 a6 a9 ?_;intro v5 Q gK al zX;have Sk:=kr a9 a9 a9 zX al))
   generalize an:1+1=m5 at gK;have az:m5<=2:=a5;rw[<-Dm]at gK;obtain⟨B5,d5,rfl⟩:∃B5 d5,v5=AJ B5 m5 d5:=by
    obtain⟨B5,d5,h1,_⟩:=DL (Ig gK.out (Ao _));exact⟨B5,d5,h1⟩
   have ab:Hid (Q.ownsRow 0 100 2 (AJ B5 m5 d5) m5 (DB ([(a,q)]++[(U,t)]))):=Ig gK.out (Ao _);have KM:Hid (∀k,(AJ B5 m5 d5).ownBlock=AE k->w<=k):=λk hk=>by have:=(gK.out.lt k hk).1;omega
   have EV:Hid (Below w w Q):=(((AS w w).alloc ar _).alloc a8 _).trans (Sk.1.mono a5);clear an gK Sk al zX I m0 m1 m2 m3 Xe;have SV:=Dz H.out.2.2.1 EV.out;have Nt:Row Q p 103 (KB s (AJ g N c)):=H.out.2.1.below EV.out Gi;have EP:=ES Q (i:=i) (j:=i+1) SV ab.out (λk hk e=>by have h1:=(H.out.2.2.1.lt k hk).2;have h2:=KM.out k e;omega) a5 (by have:=HN.out;omega) a5 (by have:=HN.out;omega);have hR:s.fr.take i++([(a,q)]++[(U,t)])++s.fr.drop (i+1)=R:=HR.out;rw[hR]at EP;have MV:((i+1:Nat):Int)=(i:Int)+1:=a5;rw[MV]at EP;have FV:=AO EP;have c5:Q.cell? (p,2)=AE (AJ g N c):=Nt.cell 2;have HC:Hid (∀v' J,JH Q (AJ g N c) R (AH v') J->∃G',Ja (J.setCell (p,2) v') G' p {s with fr:=R}/\DJ G w (J.setCell (p,2) v')/\∀k,G' k->G k\/w<=k):=λv' J O=>Gk H.out EV.out O IX.out;have Lz:Hid (∀v' J,JH Q (AJ g N c) R (AH v') J->J.cell? (p,2)=AE (AJ g N c)/\J.frozen? (p,2)=false):=λv' J O=>by have:=Em H.out EV.out O;exact⟨this.cell 2,this.free 2⟩
   have zO:p<Q:=Nt.lt;clear EP SV Nt hR MV;go_wp2_with fail
   refine FV.out.mono ?_;rintro e J O;obtain⟨v',rfl,IQ,Ff,Ia⟩:=id O;have HX:=AO (HC.out v' J O);obtain⟨c6,f6⟩:=Lz.out v' J O;obtain⟨A',c',rfl,_,_,_⟩:=DL IQ;clear O IQ Ff Ia;go_wp2
   go_end0
   obtain⟨G',h1,h2,h3⟩:=HX.out;exact⟨G',rfl,h1,h2,h3⟩
  ·skip
   have gr:decide ((U:Int)<(u2:Int))=false:=by simp;omega
   have aq:decide (U<u2)=false:=by simp;omega
   have HR:Hid (s.fr.take i++([(a,q)]++[])++s.fr.drop (i+1)=R):=by
    unfold Hid;rw[vE.out];unfold MI;dsimp only;rw[if_pos HL.out,if_neg (by rw[HU.out];have:=T4.out;omega)];rw[HQ.out]
   have Tg:w.heap.size+2<=w3.heap.size:=by have:=Ei.out.size;simp at this;omega
   go_region_held3 (λw'=>Below w3.heap.size w3 w'/\w'.cell? w.heap.size=AE (AA AB f)/\w'.cell? (w.heap.size,1)=AE (AA AB n')/\w'.cell? (w.heap.size+1,0)=AE (AA AB a)/\w'.cell? (w.heap.size+1,1)=AE (AA AB b))
    (first
     |(exact QM Ei.out (DA (AS _ _) 1))
     |(exact QM Ei.out I))
    ((go_split_ands;go_at_call 81;(first|(with_reducible refine(YV.out _).mono ?_)|(with_reducible refine(O9.out _).mono ?_));rintro e w4 ⟨rfl,ED⟩;have I:Below w3.heap.size w3 w4:=CR a9 (CV ED (CU a9))))
   have TZ:=AO I;clear I;have ab:Hid (w4.ownsRow 0 100 2 (AJ B1 1 d1) 1 (DB ([(a,q)]++[]))):=by unfold Hid;rw[AY];exact Ig (Kl xd.out TZ.out) (Ao _)
   have KM:Hid (∀k,(AJ B1 1 d1).ownBlock=AE k->w<=k):=λk hk=>by have:=(xd.out.lt k hk).1;omega
   have EV:Hid (Below w.heap.size w w4):=Jz.out.trans (TZ.out.mono a5);generalize w4=Q at*
   have SV:=Dz H.out.2.2.1 EV.out;have Nt:Row Q p 103 (KB s (AJ g N c)):=H.out.2.1.below EV.out Gi;have EP:=ES Q (i:=i) (j:=i+1) SV ab.out (λk hk e=>by have h1:=(H.out.2.2.1.lt k hk).2;have h2:=KM.out k e;omega) a5 (by have:=HN.out;omega) a5 (by have:=HN.out;omega);have hR:s.fr.take i++([(a,q)]++[])++s.fr.drop (i+1)=R:=HR.out;rw[hR]at EP;have MV:((i+1:Nat):Int)=(i:Int)+1:=a5;rw[MV]at EP;have FV:=AO EP;have c5:Q.cell? (p,2)=AE (AJ g N c):=Nt.cell 2;have HC:Hid (∀v' J,JH Q (AJ g N c) R (AH v') J->∃G',Ja (J.setCell (p,2) v') G' p {s with fr:=R}/\DJ G w (J.setCell (p,2) v')/\∀k,G' k->G k\/w<=k):=λv' J O=>Gk H.out EV.out O IX.out;have Lz:Hid (∀v' J,JH Q (AJ g N c) R (AH v') J->J.cell? (p,2)=AE (AJ g N c)/\J.frozen? (p,2)=false):=λv' J O=>by have:=Em H.out EV.out O;exact⟨this.cell 2,this.free 2⟩
   have zO:p<Q:=Nt.lt;clear EP SV Nt hR MV;go_wp2_with fail
   refine FV.out.mono ?_;rintro e J O;obtain⟨v',rfl,IQ,Ff,Ia⟩:=id O;have HX:=AO (HC.out v' J O);obtain⟨c6,f6⟩:=Lz.out v' J O;obtain⟨A',c',rfl,_,_,_⟩:=DL IQ;clear O IQ Ff Ia;go_wp2
   go_end0
   obtain⟨G',h1,h2,h3⟩:=HX.out;exact⟨G',rfl,h1,h2,h3⟩
 ·have gl:decide ((a:Int)<(f:Int))=false:=by simp;omega
  have ay:decide (a<f)=false:=by simp;omega
  have HL:Hid (¬a<f):=hl;have Ei:Hid (Below (w+2) ((w.alloc (AK #[f,n'] 100)).alloc (AK #[a,b] 100)) ((w.alloc (AK #[f,n'] 100)).alloc (AK #[a,b] 100))):=AS _ _;have xd:Hid (((w.alloc (AK #[f,n'] 100)).alloc (AK #[a,b] 100)).ownsRow (w+2) 100 2 (AJ AD 0 0) 0 (DB [])):=World.ownsRow_nil _ _ _ _;go_enter func83,ntmps83
  go_wp2
  generalize Ky:(w.alloc (AK #[f,n'] 100)).alloc (AK #[a,b] 100)=w3 at xd⊢;have Ei:Hid (Below (w+2) ((w.alloc (AK #[f,n'] 100)).alloc (AK #[a,b] 100)) w3):=Ky▸Ei.out;clear Ky;have Jz:Hid (Below w w w3):=(((AS w w).alloc ar _).alloc a8 _).trans (Ei.out.mono a5);by_cases m6:U<u2
  ·skip
   have gr:decide ((U:Int)<(u2:Int))=true:=by simp;omega
   have aq:decide (U<u2)=true:=by simp;omega
   obtain⟨t,ht⟩:=ao (u2-U);have aA:(u2:Int)-(U:Int)=(t:Int):=a5;have aw:Ab.wrap (t:Int)=(t:Int):=Al _ a5;have HT:=AO ht;clear ht;have HR:Hid (s.fr.take i++([]++[(U,t)])++s.fr.drop (i+1)=R):=by
    unfold Hid;rw[vE.out];unfold MI;dsimp only;rw[if_neg HL.out,if_pos (by rw[HU.out];have:=T4.out;omega)];rw[HU.out,T4.out,HT.out]
   have Tg:w.heap.size+2<=w3.heap.size:=by have:=Ei.out.size;simp at this;omega
   go_region_held3 (λw'=>Below w3.heap.size w3 w'/\w'.cell? w.heap.size=AE (AA AB f)/\w'.cell? (w.heap.size,1)=AE (AA AB n')/\w'.cell? (w.heap.size+1,0)=AE (AA AB a)/\w'.cell? (w.heap.size+1,1)=AE (AA AB b))
    (first
     |(exact QM Ei.out (DA (AS _ _) 1))
     |(exact QM Ei.out I))
    ((go_split_ands;go_at_call 81;(first|(with_reducible refine(YV.out _).mono ?_)|(with_reducible refine(O9.out _).mono ?_));rintro e w4 ⟨rfl,ED⟩;have I:Below w3.heap.size w3 w4:=CR a9 (CV ED (CU a9))))
   have TZ:=AO I;clear I;have ad:w4.ownsRow (w+2) 100 2 (AJ AD 0 0) 0 (DB []):=Kl xd.out TZ.out;have IE:Below (w+2) ((w.alloc (AK #[f,n'] 100)).alloc (AK #[a,b] 100)) w4:=Ei.out.trans (TZ.out.mono Tg);obtain⟨m0,m1,m2,m3⟩:=ug IE;have Xe:w.heap.size+2<=w4.heap.size:=by have:=IE.size;simp at this;omega
   have PL:=AO IE;have au:=AO ad;clear IE ad;go_wp2
   go_region_held3 (λw'=>Below (w.heap.size+2) ((w.alloc (AK #[AA AB f,AA AB n'] 100)).alloc (AK #[AA AB a,AA AB b] 100)) w'/\w'.ownsRow (w.heap.size+2) 100 2 (AJ AD 0 0) 0 (DB [])/\w.heap.size+2<=w'.heap.size/\w'.cell? ⟨w.heap.size,0,AD⟩=AE (AA AB f)/\w'.cell? ⟨w.heap.size,1,AD⟩=AE (AA AB n')/\w'.cell? ⟨w.heap.size+1,0,AD⟩=AE (AA AB a)/\w'.cell? ⟨w.heap.size+1,1,AD⟩=AE (AA AB b))
    (first
     |(exact⟨DA PL.out 1,au.out,Xe,m0,m1,m2,m3⟩)
     |(exact I)
     |(go_split_ands;exact Wz a9 a9 a9 _)
     |(exact Sk))
    (first
     |(go_split_ands;go_at_call 81;(first|(with_reducible refine(YV.out _).mono ?_)|(with_reducible refine(O9.out _).mono ?_));rintro e Q ⟨rfl,ED⟩;have I:=VK a9 a9 a9 ED)
     |(go_split_ands;refine Ki rfl _ _ 101 rfl (w.heap.size+2) 100 i0 _ 2 16 Ad Yn.out Fa hz Vi rfl a6 (AJ AD 0 0) 0 (DB []) (by first|rfl|simp) a9 _ 1 1 (DB [(U,t)]) (by first|rfl|simp) rfl (l8 (by first|rfl|simp)) EM a6 a6 a9 ?_;intro v5 Q gK al zX;have Sk:=kr a9 a9 a9 zX al))
   generalize an:0+1=m5 at gK;have az:m5<=2:=a5;rw[<-Dm]at gK;obtain⟨B5,d5,rfl⟩:∃B5 d5,v5=AJ B5 m5 d5:=by
    obtain⟨B5,d5,h1,_⟩:=DL (Ig gK.out (Ao _));exact⟨B5,d5,h1⟩
   have ab:Hid (Q.ownsRow 0 100 2 (AJ B5 m5 d5) m5 (DB ([]++[(U,t)]))):=Ig gK.out (Ao _);have KM:Hid (∀k,(AJ B5 m5 d5).ownBlock=AE k->w<=k):=λk hk=>by have:=(gK.out.lt k hk).1;omega
   have EV:Hid (Below w w Q):=(((AS w w).alloc ar _).alloc a8 _).trans (Sk.1.mono a5);clear an gK Sk al zX I m0 m1 m2 m3 Xe;have SV:=Dz H.out.2.2.1 EV.out;have Nt:Row Q p 103 (KB s (AJ g N c)):=H.out.2.1.below EV.out Gi;have EP:=ES Q (i:=i) (j:=i+1) SV ab.out (λk hk e=>by have h1:=(H.out.2.2.1.lt k hk).2;have h2:=KM.out k e;omega) a5 (by have:=HN.out;omega) a5 (by have:=HN.out;omega);have hR:s.fr.take i++([]++[(U,t)])++s.fr.drop (i+1)=R:=HR.out;rw[hR]at EP;have MV:((i+1:Nat):Int)=(i:Int)+1:=a5;rw[MV]at EP;have FV:=AO EP;have c5:Q.cell? (p,2)=AE (AJ g N c):=Nt.cell 2;have HC:Hid (∀v' J,JH Q (AJ g N c) R (AH v') J->∃G',Ja (J.setCell (p,2) v') G' p {s with fr:=R}/\DJ G w (J.setCell (p,2) v')/\∀k,G' k->G k\/w<=k):=λv' J O=>Gk H.out EV.out O IX.out;have Lz:Hid (∀v' J,JH Q (AJ g N c) R (AH v') J->J.cell? (p,2)=AE (AJ g N c)/\J.frozen? (p,2)=false):=λv' J O=>by have:=Em H.out EV.out O;exact⟨this.cell 2,this.free 2⟩
   have zO:p<Q:=Nt.lt;clear EP SV Nt hR MV;go_wp2_with fail
   refine FV.out.mono ?_;rintro e J O;obtain⟨v',rfl,IQ,Ff,Ia⟩:=id O;have HX:=AO (HC.out v' J O);obtain⟨c6,f6⟩:=Lz.out v' J O;obtain⟨A',c',rfl,_,_,_⟩:=DL IQ;clear O IQ Ff Ia;go_wp2
   go_end0
   obtain⟨G',h1,h2,h3⟩:=HX.out;exact⟨G',rfl,h1,h2,h3⟩
  ·skip
   have gr:decide ((U:Int)<(u2:Int))=false:=by simp;omega
   have aq:decide (U<u2)=false:=by simp;omega
   have HR:Hid (s.fr.take i++([]++[])++s.fr.drop (i+1)=R):=by
    unfold Hid;rw[vE.out];unfold MI;dsimp only;rw[if_neg HL.out,if_neg (by rw[HU.out];have:=T4.out;omega)]
   have Tg:w.heap.size+2<=w3.heap.size:=by have:=Ei.out.size;simp at this;omega
   go_region_held3 (λw'=>Below w3.heap.size w3 w'/\w'.cell? w.heap.size=AE (AA AB f)/\w'.cell? (w.heap.size,1)=AE (AA AB n')/\w'.cell? (w.heap.size+1,0)=AE (AA AB a)/\w'.cell? (w.heap.size+1,1)=AE (AA AB b))
    (first
     |(exact QM Ei.out (DA (AS _ _) 1))
     |(exact QM Ei.out I))
    ((go_split_ands;go_at_call 81;(first|(with_reducible refine(YV.out _).mono ?_)|(with_reducible refine(O9.out _).mono ?_));rintro e w4 ⟨rfl,ED⟩;have I:Below w3.heap.size w3 w4:=CR a9 (CV ED (CU a9))))
   have TZ:=AO I;clear I;have ab:Hid (w4.ownsRow 0 100 2 (AJ AD 0 0) 0 (DB ([]++[]))):=by unfold Hid;rw[AY];exact Ig (Kl xd.out TZ.out) (Ao _)
   have KM:Hid (∀k,(AJ AD 0 0).ownBlock=AE k->w<=k):=λk hk=>by have:=(xd.out.lt k hk).1;omega
   have EV:Hid (Below w.heap.size w w4):=Jz.out.trans (TZ.out.mono a5);generalize w4=Q at*
   have SV:=Dz H.out.2.2.1 EV.out;have Nt:Row Q p 103 (KB s (AJ g N c)):=H.out.2.1.below EV.out Gi;have EP:=ES Q (i:=i) (j:=i+1) SV ab.out (λk hk e=>by have h1:=(H.out.2.2.1.lt k hk).2;have h2:=KM.out k e;omega) a5 (by have:=HN.out;omega) a5 (by have:=HN.out;omega);have hR:s.fr.take i++([]++[])++s.fr.drop (i+1)=R:=HR.out;rw[hR]at EP;have MV:((i+1:Nat):Int)=(i:Int)+1:=a5;rw[MV]at EP;have FV:=AO EP;have c5:Q.cell? (p,2)=AE (AJ g N c):=Nt.cell 2;have HC:Hid (∀v' J,JH Q (AJ g N c) R (AH v') J->∃G',Ja (J.setCell (p,2) v') G' p {s with fr:=R}/\DJ G w (J.setCell (p,2) v')/\∀k,G' k->G k\/w<=k):=λv' J O=>Gk H.out EV.out O IX.out;have Lz:Hid (∀v' J,JH Q (AJ g N c) R (AH v') J->J.cell? (p,2)=AE (AJ g N c)/\J.frozen? (p,2)=false):=λv' J O=>by have:=Em H.out EV.out O;exact⟨this.cell 2,this.free 2⟩
   have zO:p<Q:=Nt.lt;clear EP SV Nt hR MV;go_wp2_with fail
   refine FV.out.mono ?_;rintro e J O;obtain⟨v',rfl,IQ,Ff,Ia⟩:=id O;have HX:=AO (HC.out v' J O);obtain⟨c6,f6⟩:=Lz.out v' J O;obtain⟨A',c',rfl,_,_,_⟩:=DL IQ;clear O IQ Ff Ia;go_wp2
   go_end0
   obtain⟨G',h1,h2,h3⟩:=HX.out;exact⟨G',rfl,h1,h2,h3⟩
def Next(w:World)(G:Nat->Prop)(p:Nat)(s:Sp)(w':World):Prop:=∃G',Ja w' G' p s/\DJ G w w'/\∀k,G' k->G k\/w<=k
theorem Next.DE{w w' G p s}(h:Ja w G p s)(hb:Below w w w'):Next w G p s w':=⟨G,h.below hb,DJ.DE hb G,λ_ e=>.inl e⟩
theorem Next.behind{w w1 w':World}{G p s}(hb:Below w w w1)(h:Next w1 G p s w'):Next w G p s w':=by
 obtain⟨G',O,J,h3⟩:=h;exact⟨G',O,(DJ.DE hb G).trans J λb e=>.inl e,λk I=>(h3 k I).imp id λh=>Ag hb.size h⟩
def GW(s:Sp)(n:Int):Sp×Nat×Nat:=
 if n<1 then (s,0,1)else if JD s.fr n.toNat<s.fr.length then ({s with fr:=LX s.fr (JD s.fr n.toNat) (Dd s.fr (JD s.fr n.toNat)).1 n.toNat},(Dd s.fr (JD s.fr n.toNat)).1,0)else (s,0,5)
def MN(s:Sp)(f n:Int):Sp×Nat:=
 if n<1 then (s,1)else if Gr s.fr f<s.fr.length/\((Dd s.fr (Gr s.fr f)).1:Int)<=f/\n<=(((Dd s.fr (Gr s.fr f)).1+(Dd s.fr (Gr s.fr f)).2:Nat):Int)-f then ({s with fr:=LX s.fr (Gr s.fr f) f.toNat n.toNat},0)else (s,1)
def E5(s:Sp)(f n:Int):Sp×Nat:=
 if n<1\/¬((s.first:Int)<=f/\n<=((s.first+s.blocks:Nat):Int)-f)\/(EK s.fr f.toNat<s.fr.length/\(Dd s.fr (EK s.fr f.toNat)).1<f.toNat+n.toNat)then (s,1)else ({s with fr:=GN s.fr (EK s.fr f.toNat) f.toNat n.toNat},0)
theorem kL(p:Nat)(s:Sp)(G:Nat->Prop)(n:Int)(w:World)(h:Ja w G p s)(hn:Gj n):
  Calls AP 73 #[AI p,n] w λe w'=>e=AH (AM #[((GW s n).2.1:Nat),((GW s n).2.2:Nat)])/\Next w G p (GW s n).1 w':=by
 have hB:=(AS w w).alloc ar (AK #[n] 3);by_cases O:n<1
 ·have g1:decide (n<1)=true:=by simpa using O
  have HN:Hid (Next w G p (GW s n).1 (w.alloc (AK #[n] 3))):=by unfold Hid GW;rw[if_pos O];exact Next.DE h hB
  have e:(GW s n).2=(0,1):=by unfold GW;rw[if_pos O]
  rw[e];clear h hB O e;go_enter func73,ntmps73
  go_wp2
  go_ret2
  exact⟨rfl,HN.out⟩
 ·have g1:decide (n<1)=false:=by simpa using O
  obtain⟨m,rfl⟩:∃m:Nat,n=(m:Int):=⟨n.toNat,a5⟩;have hm:1<=m:=a5;have Q:=h.below hB;obtain⟨DN,v,hr,ho,hG⟩:=id Q;obtain⟨A,c,rfl,av,Fy,_⟩:=DL ho;have hlen:=DN.len;have c2:(w.alloc (AK #[m] 3)).cell? (p,2)=AE (AJ A s.fr.length c):=hr.cell 2;have k1:(w.alloc (AK #[m] 3)).cell? w=AE (AA AB (m:Int)):=by
   have r1:Row (w.alloc (AK #[m] 3)) w 3 [m]:=heap_alloc_new _ _;exact r1.cell 0
  have J:=Zq w (m:Int) A s.fr.length c s.fr _ k1 ho rfl a5;have an:=AO Q;have HB:=AO hB;have HO:=AO ho;have zA:((m:Int)).toNat=m:=BY m;have Gi:p<w:=by obtain⟨_,v,hr,_⟩:=h;exact hr.lt
  obtain⟨N,hN⟩:=ae s.fr.length;have HN:=AO hN;have OB:GW s (m:Int)=if JD s.fr m<s.fr.length then ({s with fr:=LX s.fr (JD s.fr m) (Dd s.fr (JD s.fr m)).1 m},(Dd s.fr (JD s.fr m)).1,0)else (s,0,5):=by unfold GW;rw[if_neg O,zA]
  by_cases U:JD s.fr m<s.fr.length
  ·rw[if_pos U]at OB;rw[OB];dsimp only;have ad:=N6 U;have I:=J.mono (R':=λe w'=>e=AH (JD s.fr m:Nat)/\Below (w.alloc (AK #[m] 3)).heap.size (w.alloc (AK #[m] 3)) w') (λe w2 hh=>by
    rcases hh with⟨i,hi,Kt,Eu,rfl,DT⟩|⟨hno,rfl,DT⟩
    ·have ab:JD s.fr m=i:=IT a5 (λk hk=>by have:=Kt k hk;simp only[decide_eq_false_iff_not]at this⊢;omega) (λ_=>by simp only[decide_eq_true_eq]at Eu⊢;omega);rw[ab];exact⟨rfl,DT⟩
    ·have h2:=hno _ U;simp only[decide_eq_true_eq,decide_eq_false_iff_not]at ad h2;unfold JD at h2;omega)
   have al:m<=(Dd s.fr (JD s.fr m)).2:=by unfold JD;simpa using ad
   generalize JD s.fr m=i at*
   obtain⟨a,ha⟩:=ao ((Dd s.fr i).1);have RQ:Hid (∀W,Below (w.alloc (AK #[AA AB (m:Int)] 3)).heap.size (w.alloc (AK #[AA AB (m:Int)] 3)) W->∃g,A=AE ⟨g,0,AD⟩/\g<W.heap.size/\W.cell? ⟨g,i*2,AD⟩=AE (AA AB (a:Nat))):=λW hb=>by
    obtain⟨g,O,h2,h3,_⟩:=IM (Dz HO.out hb) U;rw[ha]at h3;exact⟨g,O,h2,h3⟩
   have vV:Hid (∀w2,Below (w.alloc (AK #[m] 3)).heap.size (w.alloc (AK #[m] 3)) w2->Calls AP 83 #[AI p,i,AL #[a,m]] w2 λe w'=>e=AH (AM #[])/\Next w G p {s with fr:=LX s.fr i a m} w'):=λw2 DT=>
    (cW p s G i a m w2 (an.out.below DT) U (by rw[ha];exact AQ _) (by rw[ha];omega) hm).mono λe w' ⟨G',O,h2⟩=>⟨O,Next.behind (HB.out.trans (DT.mono HB.out.size)) ⟨G',h2⟩⟩
   rw[ha];generalize LX s.fr i a m=R at*
   rw[<-hN]at c2 hlen I U;have pX:=AO I;have gi:decide ((i:Int)<0)=false:=a8;have au:(0:Int)<=(i:Int):=a5;have aq:(i:Int)<(N:Int):=a5;clear J I Q DN hr ho hG h O hB zA hN ad al ha OB U;go_enter func73,ntmps73
   go_wp2_with fail
   refine pX.out.mono ?_;rintro e w2 ⟨rfl,DT⟩;obtain⟨g,rfl,hg,Jx⟩:=RQ.out w2 DT;have hcut:=vV.out w2 DT;have Lz:=AO hcut;have cq:=(DT.cell (p:=(p,2)) (by simp;omega)).trans c2;have Tw:=(DT.cell (p:=⟨w.heap.size,0,AD⟩) a8).trans k1;clear hcut DT pX RQ vV c2 k1 HO an;go_wp2_with fail
   refine Lz.out.mono ?_;rintro e w3 ⟨rfl,hx⟩;have HX:=AO hx;clear hx;go_wp2
   go_ret2
   exact⟨rfl,HX.out⟩
  ·rw[if_neg U]at OB;rw[OB];dsimp only;have I:=J.mono (R':=λe w'=>e=AH (AA AB (-1))/\Next w G p s w') (λe w2 hh=>by
    rcases hh with⟨i,hi,Kt,Eu,rfl,DT⟩|⟨hno,rfl,DT⟩
    ·have ab:JD s.fr m=i:=IT a5 (λk hk=>by have:=Kt k hk;simp only[decide_eq_false_iff_not]at this⊢;omega) (λ_=>by simp only[decide_eq_true_eq]at Eu⊢;omega);omega
    ·exact⟨rfl,Next.behind HB.out (Next.DE an.out DT)⟩)
   rw[<-hN]at c2 hlen I;have pX:=AO I;clear J I Q DN hr ho hG h O hB zA hN OB U;go_enter func73,ntmps73
   go_wp2_with fail
   refine pX.out.mono ?_;rintro e w2 ⟨rfl,hx⟩;have HX:=AO hx;clear hx pX;go_wp2
   go_ret2
   exact⟨rfl,HX.out⟩
theorem Xj(p:Nat)(s:Sp)(G:Nat->Prop)(f n:Int)(w:World)(h:Ja w G p s)(hf:Gj f)(hn:Gj n):
  Calls AP 64 #[AI p,f,n] w λe w'=>e=AH ((MN s f n).2:Nat)/\Next w G p (MN s f n).1 w':=by
 by_cases Q:n<1
 ·have g1:decide (n<1)=true:=by simpa using Q
  have HN:Hid (Next w G p (MN s f n).1 w):=by unfold Hid MN;rw[if_pos Q];exact Next.DE h (AS _ _)
  have e:(MN s f n).2=1:=by unfold MN;rw[if_pos Q]
  rw[e];clear h Q e;go_enter func64,ntmps64
  go_wp2
  go_ret
  exact⟨rfl,HN.out⟩
 have g1:decide (n<1)=false:=by simpa using Q
 obtain⟨DN,v,hr,ho,hG⟩:=id h;obtain⟨A,c,rfl,aq,Fy,_⟩:=DL ho;have hlen:=DN.len;have c2:w.cell? (p,2)=AE (AJ A s.fr.length c):=hr.cell 2;have Gi:=hr.lt;have Pq:=Rr p s G f w h;have ab:Gr s.fr f<=s.fr.length:=Ck;have OB:Hid (MN s f n=if Gr s.fr f<s.fr.length/\((Dd s.fr (Gr s.fr f)).1:Int)<=f/\n<=(((Dd s.fr (Gr s.fr f)).1+(Dd s.fr (Gr s.fr f)).2:Nat):Int)-f then ({s with fr:=LX s.fr (Gr s.fr f) f.toNat n.toNat},0)else (s,1)):=by unfold Hid MN;rw[if_neg Q]
 obtain⟨i,hi⟩:=ao (Gr s.fr f);rw[hi]at Pq ab OB;have RO:=AO Pq;have H:=AO h;have HO:=AO ho;have IX:=AO DN;obtain⟨N,hN⟩:=ae s.fr.length;rw[<-hN]at c2 hlen ab;have HN:=AO hN;clear Pq h DN hr ho hG hi hN;by_cases J:i<N
 ·have g2:((i:Int)==(N:Int))=false:=by simp;omega
  have g3:decide ((i:Int)=(N:Int))=false:=by simp;omega
  have an:(0:Int)<=(i:Int):=a5;have al:(i:Int)<(N:Int):=a5;have M6:=IX.out.2.2.getD (i:=i) (by rw[<-HN.out];exact J);have ad:(Dd s.fr i).1+(Dd s.fr i).2<=2000000:=by have:=IX.out.1;have:=IX.out.2.1;omega
  obtain⟨a,ha⟩:=ao ((Dd s.fr i).1);obtain⟨b,hb⟩:=ao ((Dd s.fr i).2);obtain⟨g,rfl,hg,Jx,Li⟩:=IM HO.out (i:=i) (by rw[<-HN.out];exact J);have nL:=λW=>UT a b f n W a5 hf;have HH:=AO nL;have I:=OB.out;rw[ha,hb]at I;rw[ha]at Jx;rw[hb]at Li;have HA:=AO ha;have HB:=AO hb;by_cases O:(a:Int)<=f/\n<=((a+b:Nat):Int)-f
  ·rw[if_pos ⟨by rw[<-HN.out];exact J,O⟩]at I;rw[I];dsimp only;obtain⟨U,rfl⟩:∃U:Nat,f=(U:Int):=⟨f.toNat,a5⟩;obtain⟨n',rfl⟩:∃n':Nat,n=(n':Int):=⟨n.toNat,a5⟩;simp only[BY];have nK:(decide ((a:Int)<=(U:Int))&&decide ((n':Int)<=((a+b:Nat):Int)-(U:Int)))=true:=by simp only[Bool.and_eq_true,decide_eq_true_eq];exact O
   have ji:=AO nK;have vV:Hid (∀w2,Below w w w2->Calls AP 83 #[AI p,i,AL #[U,n']] w2 λe w'=>e=AH (AM #[])/\Next w G p {s with fr:=LX s.fr i U n'} w'):=λw2 DT=>
    (cW p s G i U n' w2 (H.out.below DT) (by rw[<-HN.out];exact J) (by rw[HA.out];omega) (by rw[HA.out,HB.out];omega) a5).mono λe w' ⟨G',Q,h2⟩=>⟨Q,Next.behind DT ⟨G',h2⟩⟩
   generalize LX s.fr i U n'=R at*
   clear I O nK nL ha hb M6 ad OB HO IX;go_enter func64,ntmps64
   go_wp2_with fail
   refine RO.out.mono ?_;rintro e w2 ⟨rfl,DT⟩;have cq:=(DT.cell (p:=(p,2)) Gi).trans c2;have d0:=(DT.cell (p:=(g,i*2)) hg).trans Jx;have d1:=(DT.cell (p:=(g,i*2+1)) hg).trans Li;have Fg:=AO DT;clear DT;go_wp2_with fail
   refine(HH.out _).mono ?_;rintro e w3 ⟨rfl,ED⟩;rw[ji.out];have Ei:=AO (Fg.out.trans (ED.mono Fg.out.size));clear ED cq d0 d1;go_wp2_with fail
   refine(vV.out _ Ei.out).mono ?_;rintro e w4 ⟨rfl,O⟩;have HX:=AO O;clear O;go_wp2
   go_ret
   exact⟨rfl,HX.out⟩
  ·rw[if_neg (λhh=>O hh.2)]at I;rw[I];dsimp only;have nK:(decide ((a:Int)<=f)&&decide (n<=((a+b:Nat):Int)-f))=false:=by
    cases hq:(decide ((a:Int)<=f)&&decide (n<=((a+b:Nat):Int)-f))with
    |false=>rfl
    |true=>simp only[Bool.and_eq_true,decide_eq_true_eq]at hq;exact absurd hq O
   have ji:=AO nK;clear I O nK nL ha hb M6 ad OB HO IX;go_enter func64,ntmps64
   go_wp2_with fail
   refine RO.out.mono ?_;rintro e w2 ⟨rfl,DT⟩;have cq:=(DT.cell (p:=(p,2)) Gi).trans c2;have d0:=(DT.cell (p:=(g,i*2)) hg).trans Jx;have d1:=(DT.cell (p:=(g,i*2+1)) hg).trans Li;have Fg:=AO DT;clear DT;go_wp2_with fail
   refine(HH.out _).mono ?_;rintro e w3 ⟨rfl,ED⟩;rw[ji.out];have HX:Hid (Next w G p s w3):=Next.DE H.out (Fg.out.trans (ED.mono Fg.out.size));clear ED cq d0 d1;go_wp2
   go_ret
   exact⟨rfl,HX.out⟩
 ·obtain rfl:i=N:=a5;have I:=OB.out;rw[if_neg (λhh=>by have:=hh.1;rw[<-HN.out]at this;omega)]at I;rw[I];dsimp only;clear I OB HO IX J;go_enter func64,ntmps64
  go_wp2_with fail
  refine RO.out.mono ?_;rintro e w2 ⟨rfl,DT⟩;have cq:=(DT.cell (p:=(p,2)) Gi).trans c2;have HX:Hid (Next w G p s w2):=Next.DE H.out DT;clear DT;go_wp2
  go_ret
  exact⟨rfl,HX.out⟩
section
variable{l:List Ex}{i f n:Nat}
theorem Rh(e:0<i)(h:(Dd l (i-1)).1+(Dd l (i-1)).2=f):KO l i f=true:=by simp[KO,e,h]
theorem Ke(h:0<i->(Dd l (i-1)).1+(Dd l (i-1)).2≠f):KO l i f=false:=by
 unfold KO;by_cases e:0<i
 ·simp[e,h e]
 ·simp[e]
theorem Rg(e:i<l.length)(h:(Dd l i).1=f):Fv l i f=true:=by simp[Fv,e,h]
theorem Kc(h:i<l.length->(Dd l i).1≠f):Fv l i f=false:=by
 unfold Fv;by_cases e:i<l.length
 ·simp[e,h e]
 ·simp[e]
end
theorem tG(p:Nat)(s:Sp)(G:Nat->Prop)(i f n':Nat)(w:World)(h:Ja w G p s)(hi:i=EK s.fr f)(h1:s.first<=f)(h2:f+n'<=s.first+s.blocks)(hn:1<=n')(ad:∀b,f<=b->b<f+n'->¬hasB s.fr b)(Ol:¬0<i):
  Calls AP 82 #[AI p,i,AL #[f,n']] w λe w'=>∃G',e=AH (AM #[])/\Ja w' G' p {s with fr:=GN s.fr i f n'}/\DJ G w w'/\∀k,G' k->G k\/w<=k:=by
 obtain⟨DN,v,hr,ho,hG⟩:=h;have KF:=My DN.2.2 hn h1 h2 ad;rw[<-hi]at KF;have al:i<=s.fr.length:=by rw[hi];exact Ck
 clear hi ad;have Qv:s.first+s.blocks<=2000000:=by have:=DN.1;have:=DN.2.1;omega
 have Sh:∀k,k<s.fr.length->(Dd s.fr k).1+(Dd s.fr k).2<=2000000:=λk hk=>by have:=DN.2.2.getD hk;omega
 obtain⟨A,c,rfl,aA,Fy,_⟩:=DL ho;have hlen:=DN.len;have c2:w.cell? (p,2)=AE (AJ A s.fr.length c):=hr.cell 2;have Gi:=hr.lt;have Xk:=DN;have Eu:∀k,k<s.fr.length->∃g,A=AE ⟨g,0,AD⟩/\g<w.heap.size/\w.cell? ⟨g,k*2,AD⟩=AE (AA AB (Dd s.fr k).1)/\w.cell? ⟨g,k*2+1,AD⟩=AE (AA AB (Dd s.fr k).2):=λk hk=>IM ho hk;have RQ:=AO Eu;obtain⟨N,hN⟩:=ae s.fr.length;have H0:xW w G p s (AJ A N c):=by subst hN;exact⟨DN,hr,ho,hG⟩
 obtain⟨R,hR⟩:=ae (GN s.fr i f n');have IX:Hid (({s with fr:=R}:Sp).ok):=by rw[hR];exact⟨DN.1,DN.2.1,KF.1⟩
 rw[<-hR];have HR:=AO hR;have H:=AO H0;have HN:Hid (s.fr.length=N):=hN.symm;have bD:=AO Sh;rw[<-hN]at c2 hlen al;have PU:f+n'<=2000000:=a5;have OC:Hid (Below w w (w.alloc (AK #[f,n'] 100))):=(AS _ _).alloc ar _;clear KF DN hr ho hG Eu H0 hN hR Qv Sh Xk h1 h2;have lg:decide ((0:Int)<(i:Int))=false:=by simp;omega
 have ay:decide ((i:Int)>0)=false:=by simp;omega
 have ax:decide (0<i)=false:=by simp;omega
 have WC:Hid (0<i->(Dd s.fr (i-1)).1+(Dd s.fr (i-1)).2≠f):=λhh=>absurd hh Ol;have vP:Hid (f+n'=f+n'):=rfl;go_enter func82,ntmps82
 go_wp2
 go_quiet (fail)
 have Gw:Row ((w.alloc (AK #[f,n'] 100)).drewN nq) w 100 [f,n']:=heap_alloc_new _ _;have PI:Hid (Below w w ((w.alloc (AK #[f,n'] 100)).drewN nq)):=DA OC.out nq;generalize(w.alloc (AK #[f,n'] 100)).drewN nq=wp at*
 go_wp2
 by_cases nC:i<N
 ·obtain⟨U,Ny,Ff,cQ,Lr⟩:=RQ.out (i) (by rw[HN.out];exact nC);have Si:=bD.out (i) (by rw[HN.out];exact nC);subst Ny;obtain⟨a2,Sl⟩:=ao ((Dd s.fr (i)).1);obtain⟨b2,DT⟩:=ao ((Dd s.fr (i)).2);rw[Sl]at cQ;rw[DT]at Lr;rw[Sl,DT]at Si;have WX:=AO Sl;have Ta:=AO DT;obtain⟨u2,RD⟩:=ao (f+n');have O9:Hid (∀W,Calls AP 81 #[AL #[f,n']] W λe w'=>e=AH u2/\Below W W w'):=λW=>by have:=Ip (f) (n') W a5;rwa [RD]at this
  have T4:=AO RD;have Qa:wp.cell? ⟨p,2,AD⟩=AE (AJ (AE ⟨U,0,AD⟩) N c):=(H.out.2.1.below PI.out Gi).cell 2;obtain⟨Uv,TO⟩:=Gw.q2;have S4:=(PI.out.cell (p:=⟨U,(i)*2,AD⟩) Ff).trans cQ;have S3:=(PI.out.cell (p:=⟨U,(i)*2+1,AD⟩) Ff).trans Lr;have IP:w.heap.size<wp.heap.size:=Gw.lt;have Kr:p<wp.heap.size:=a5;have Iy:U<wp.heap.size:=a5;have vn:((i:Int):Int)<(N:Int):=a5;have vo:(0:Int)<=((i:Int):Int):=a5;have rg:decide (((i:Int):Int)<(N:Int))=true:=by simp;omega
  have lM:decide (i<N)=true:=by simp;omega
  clear RD Sl DT;by_cases GU:a2=u2
  ·have rt:decide (a2=u2)=true:=by simp;omega
   have lC:(a2==u2)=true:=by simp;omega
   have lB:((a2:Int)==(u2:Int))=true:=by simp;omega
   obtain⟨n2,PR⟩:=ae (n'+b2);have QX:(n':Int)+(b2:Int)=(n2:Int):=a5;have GS:Ab.wrap (n2:Int)=(n2:Int):=Al _ a5;have az:Ab.wrap (((i:Int):Int)+1)=((i:Int):Int)+1:=Al _ a5;have TS:Hid (Fv s.fr (i) (f+n')=true):=Rg (by rw[HN.out];exact nC) (by rw[WX.out];have:=T4.out;have:=vP.out;omega);have pT:=AO PR;clear PR;go_region_held3 (λw'=>Below wp.heap.size wp w'/\w'.cell? (p,2)=AE (AJ U N c)/\w'.cell? w.heap.size=AE (AA AB f)/\w'.cell? (w.heap.size,1)=AE (AA AB n')/\w'.cell? ⟨U,(i)*2,AD⟩=AE (AA AB a2)/\w'.cell? ⟨U,(i)*2+1,AD⟩=AE (AA AB b2))
    (first
     |(exact⟨DA (AS _ _) 1,Qa,Uv,TO,S4,S3⟩)
     |(exact⟨I,(I.cell Kr).trans Qa,(I.cell IP).trans Uv,(I.cell IP).trans TO,(I.cell Iy).trans S4,(I.cell Iy).trans S3⟩))
    ((go_split_ands;go_at_call 81;(with_reducible refine(O9.out _).mono ?_);rintro e Wb ⟨rfl,ED⟩;have I:Below wp.heap.size wp Wb:=CR a9 (CV ED (CU a9))))
   have Iz:=Gw.below I IP;have PK:=AO (PI.out.trans (I.mono PI.out.size));have LH:=AO I;clear I;have av:=(LH.out.cell (p:=(p,2)) Kr).trans Qa;have au:=(LH.out.cell (p:=⟨U,(i)*2,AD⟩) Iy).trans S4;have aq:=(LH.out.cell (p:=⟨U,(i)*2+1,AD⟩) Iy).trans S3;have aw:=(LH.out.cell (p:=(w,1)) IP).trans TO;have an:=Iz.free 1;generalize Wb=Yx at*
   go_wp2
   go_region
   have He:Row (Yx.setCell (w,1) n2).drew w 100 [f,n2]:=(Iz.set 1 n2).drewN 1;have Ml:Hid (Below w.heap.size w (Yx.setCell ⟨w.heap.size,1,AD⟩ (AA AB n2)).drew):=DA (PK.out.setCell (p:=⟨w.heap.size,1,AD⟩) ar _) 1;clear av au aq aw an LH PK Iz;generalize(Yx.setCell (w.heap.size,1) n2).drew=O at*
   go_wp2
   have RP:Hid (s.fr.take (i)++[(f,n2)]++s.fr.drop (i+1)=R):=by
    unfold Hid;rw[HR.out];unfold GN;rw[Ke WC.out,TS.out];dsimp only;rw[pT.out,Ta.out]
   have ab:w.heap.size<O.heap.size:=He.lt;have c5:O.cell? (p,2)=AE (AJ U N c):=(H.out.2.1.below Ml.out Gi).cell 2;obtain⟨b0,b1⟩:=He.q2;have Xh:p<O.heap.size:=a5;have EV:∀W,W=O.drew.alloc (AK #[f,n2] 100)->Hid (Below w w W):=λW e=>by subst e;exact(DA Ml.out 1).alloc (by have:=Ml.out.size;exact this) _
   have FV:∀W,W=O.drew.alloc (AK #[f,n2] 100)->Hid (Calls AP 107 #[AJ U N c,AA AB ((i:Int)),AA AB ((i:Int)+1),AJ O 1 1] W (JH W (AJ U N c) R)):=λW e=>by
    have NX:=Dz H.out.2.2.1 (EV W e).out;rw[HN.out]at NX;have Ih:Fo W O 1 1 [(f,n2)] [f,n2]:=⟨by subst e;exact heap_alloc_new O.drew _,rfl,AQ _,a5,rfl,rfl⟩;have EP:=ES W (i:=i) (j:=i+1) NX Ih.own (λk hk e2=>by have h1:=(H.out.2.2.1.lt k hk).2;(have e3:O.heap.size=k:=by simpa [Bq]using e2);omega) a5 a5 a5 a5;rw[RP.out]at EP;have Fq:((i:Nat):Int)=(i:Int):=a5;have Ge:((i+1:Nat):Int)=(i:Int)+1:=a5
    first|rw[Fq,Ge]at EP|rw[Fq]at EP
    exact EP
   have FV:=FV _ rfl;have EV:=EV _ rfl;have HC:Hid (∀v' J,JH (O.drew.alloc (AK #[f,n2] 100)) (AJ U N c) R (AH v') J->∃G',Ja (J.setCell (p,2) v') G' p {s with fr:=R}/\DJ G w (J.setCell (p,2) v')/\∀k,G' k->G k\/w<=k):=λv' J Q=>Gk H.out EV.out Q IX.out;clear TS rt lC lB vo vn rg lM Qa Uv TO Kr Iy IP S4 S3 cQ Lr O9 T4 WX Ta Si Ff;have Lz:Hid (∀v' J,JH (O.drew.alloc (AK #[f,n2] 100)) (AJ U N c) R (AH v') J->J.cell? (p,2)=AE (AJ U N c)/\J.frozen? (p,2)=false):=λv' J Q=>by have:=Em H.out EV.out Q;exact⟨this.cell 2,this.free 2⟩
   go_wp2
   go_region_with (go_at_call 107;refine FV.out.mono ?_;rintro e J Q;obtain⟨v',rfl,IQ,Ff,Ia⟩:=id Q;have HX:=AO (HC.out v' J Q);obtain⟨c6,f6⟩:=Lz.out v' J Q;obtain⟨A',c',rfl,_,_,_⟩:=DL IQ;clear Q IQ Ff Ia)
   all_goals(go_wp2;go_end0;obtain⟨G',h1,h2,h3⟩:=HX.out;exact⟨G',rfl,h1,h2,h3⟩)
  ·have rt:decide (a2=u2)=false:=by simp;omega
   have lC:(a2==u2)=false:=by simp;omega
   have lB:((a2:Int)==(u2:Int))=false:=by simp;omega
   have TS:Hid (Fv s.fr (i) (f+n')=false):=Kc λ_=>by rw[WX.out];have:=T4.out;have:=vP.out;omega
   go_wp2
   go_region_held3 (λw'=>Below wp.heap.size wp w'/\w'.cell? (p,2)=AE (AJ U N c)/\w'.cell? w.heap.size=AE (AA AB f)/\w'.cell? (w.heap.size,1)=AE (AA AB n')/\w'.cell? ⟨U,(i)*2,AD⟩=AE (AA AB a2)/\w'.cell? ⟨U,(i)*2+1,AD⟩=AE (AA AB b2))
    (first
     |(exact⟨DA (AS _ _) 1,Qa,Uv,TO,S4,S3⟩)
     |(exact⟨I,(I.cell Kr).trans Qa,(I.cell IP).trans Uv,(I.cell IP).trans TO,(I.cell Iy).trans S4,(I.cell Iy).trans S3⟩))
    ((go_split_ands;go_at_call 81;(with_reducible refine(O9.out _).mono ?_);rintro e Wb ⟨rfl,ED⟩;have I:Below wp.heap.size wp Wb:=CR a9 (CV ED (CU a9))))
   have Iz:=Gw.below I IP;have PK:=AO (PI.out.trans (I.mono PI.out.size));have LH:=AO I;clear I;generalize Wb=O at*
   have Ml:=PK;have He:=Iz;go_wp2
   have RP:Hid (s.fr.take (i)++[(f,n')]++s.fr.drop (i)=R):=by
    unfold Hid;rw[HR.out];unfold GN;rw[Ke WC.out,TS.out]
   have ab:w.heap.size<O.heap.size:=He.lt;have c5:O.cell? (p,2)=AE (AJ U N c):=(H.out.2.1.below Ml.out Gi).cell 2;obtain⟨b0,b1⟩:=He.q2;have Xh:p<O.heap.size:=a5;have EV:∀W,W=O.drew.alloc (AK #[f,n'] 100)->Hid (Below w w W):=λW e=>by subst e;exact(DA Ml.out 1).alloc (by have:=Ml.out.size;exact this) _
   have FV:∀W,W=O.drew.alloc (AK #[f,n'] 100)->Hid (Calls AP 107 #[AJ U N c,AA AB ((i:Int)),AA AB ((i:Int)),AJ O 1 1] W (JH W (AJ U N c) R)):=λW e=>by
    have NX:=Dz H.out.2.2.1 (EV W e).out;rw[HN.out]at NX;have Ih:Fo W O 1 1 [(f,n')] [f,n']:=⟨by subst e;exact heap_alloc_new O.drew _,rfl,AQ _,a5,rfl,rfl⟩;have EP:=ES W (i:=i) (j:=i) NX Ih.own (λk hk e2=>by have h1:=(H.out.2.2.1.lt k hk).2;(have e3:O.heap.size=k:=by simpa [Bq]using e2);omega) a5 a5 a5 a5;rw[RP.out]at EP;have Fq:((i:Nat):Int)=(i:Int):=a5;have Ge:((i:Nat):Int)=(i:Int):=a5
    first|rw[Fq,Ge]at EP|rw[Fq]at EP
    exact EP
   have FV:=FV _ rfl;have EV:=EV _ rfl;have HC:Hid (∀v' J,JH (O.drew.alloc (AK #[f,n'] 100)) (AJ U N c) R (AH v') J->∃G',Ja (J.setCell (p,2) v') G' p {s with fr:=R}/\DJ G w (J.setCell (p,2) v')/\∀k,G' k->G k\/w<=k):=λv' J Q=>Gk H.out EV.out Q IX.out;clear TS rt lC lB vo vn rg lM Qa Uv TO Kr Iy IP S4 S3 cQ Lr O9 T4 WX Ta Si Ff;have Lz:Hid (∀v' J,JH (O.drew.alloc (AK #[f,n'] 100)) (AJ U N c) R (AH v') J->J.cell? (p,2)=AE (AJ U N c)/\J.frozen? (p,2)=false):=λv' J Q=>by have:=Em H.out EV.out Q;exact⟨this.cell 2,this.free 2⟩
   go_wp2
   go_region_with (go_at_call 107;refine FV.out.mono ?_;rintro e J Q;obtain⟨v',rfl,IQ,Ff,Ia⟩:=id Q;have HX:=AO (HC.out v' J Q);obtain⟨c6,f6⟩:=Lz.out v' J Q;obtain⟨A',c',rfl,_,_,_⟩:=DL IQ;clear Q IQ Ff Ia)
   all_goals(go_wp2;go_end0;obtain⟨G',h1,h2,h3⟩:=HX.out;exact⟨G',rfl,h1,h2,h3⟩)
 ·have rg:decide (((i:Int):Int)<(N:Int))=false:=by simp;omega
  have lM:decide (i<N)=false:=by simp;omega
  have TS:Hid (Fv s.fr (i) (f+n')=false):=Kc λhh=>by rw[HN.out]at hh;omega
  have Qa:wp.cell? (p,2)=AE (AJ A N c):=(H.out.2.1.below PI.out Gi).cell 2;have Kr:p<wp:=by have:=Gw.lt;omega
  go_quiet (fail)
  have He:=Gw.drewN nq;have Ml:Hid (Below w w (wp.drewN nq)):=DA PI.out nq;generalize wp.drewN nq=O at*
  go_wp2
  have RP:Hid (s.fr.take (i)++[(f,n')]++s.fr.drop (i)=R):=by
   unfold Hid;rw[HR.out];unfold GN;rw[Ke WC.out,TS.out]
  have ab:w.heap.size<O.heap.size:=He.lt;have c5:O.cell? (p,2)=AE (AJ A N c):=(H.out.2.1.below Ml.out Gi).cell 2;obtain⟨b0,b1⟩:=He.q2;have Xh:p<O.heap.size:=a5;have EV:∀W,W=O.drew.alloc (AK #[f,n'] 100)->Hid (Below w w W):=λW e=>by subst e;exact(DA Ml.out 1).alloc (by have:=Ml.out.size;exact this) _
  have FV:∀W,W=O.drew.alloc (AK #[f,n'] 100)->Hid (Calls AP 107 #[AJ A N c,AA AB ((i:Int)),AA AB ((i:Int)),AJ O 1 1] W (JH W (AJ A N c) R)):=λW e=>by
   have NX:=Dz H.out.2.2.1 (EV W e).out;rw[HN.out]at NX;have Ih:Fo W O 1 1 [(f,n')] [f,n']:=⟨by subst e;exact heap_alloc_new O.drew _,rfl,AQ _,a5,rfl,rfl⟩;have EP:=ES W (i:=i) (j:=i) NX Ih.own (λk hk e2=>by have h1:=(H.out.2.2.1.lt k hk).2;(have e3:O.heap.size=k:=by simpa [Bq]using e2);omega) a5 a5 a5 a5;rw[RP.out]at EP;have Fq:((i:Nat):Int)=(i:Int):=a5;have Ge:((i:Nat):Int)=(i:Int):=a5
   first|rw[Fq,Ge]at EP|rw[Fq]at EP
   exact EP
  have FV:=FV _ rfl;have EV:=EV _ rfl;have HC:Hid (∀v' J,JH (O.drew.alloc (AK #[f,n'] 100)) (AJ A N c) R (AH v') J->∃G',Ja (J.setCell (p,2) v') G' p {s with fr:=R}/\DJ G w (J.setCell (p,2) v')/\∀k,G' k->G k\/w<=k):=λv' J Q=>Gk H.out EV.out Q IX.out;have Lz:Hid (∀v' J,JH (O.drew.alloc (AK #[f,n'] 100)) (AJ A N c) R (AH v') J->J.cell? (p,2)=AE (AJ A N c)/\J.frozen? (p,2)=false):=λv' J Q=>by have:=Em H.out EV.out Q;exact⟨this.cell 2,this.free 2⟩
  go_wp2
  go_region_with (go_at_call 107;refine FV.out.mono ?_;rintro e J Q;obtain⟨v',rfl,IQ,Ff,Ia⟩:=id Q;have HX:=AO (HC.out v' J Q);obtain⟨c6,f6⟩:=Lz.out v' J Q;obtain⟨A',c',rfl,_,_,_⟩:=DL IQ;clear Q IQ Ff Ia)
  all_goals(go_wp2;go_end0;obtain⟨G',h1,h2,h3⟩:=HX.out;exact⟨G',rfl,h1,h2,h3⟩)
theorem tE(p:Nat)(s:Sp)(G:Nat->Prop)(i f n':Nat)(w:World)(h:Ja w G p s)(hi:i=EK s.fr f)(h1:s.first<=f)(h2:f+n'<=s.first+s.blocks)(hn:1<=n')(an:∀b,f<=b->b<f+n'->¬hasB s.fr b)(Ol:0<i)(Zz:(Dd s.fr (i-1)).1+(Dd s.fr (i-1)).2≠f):
  Calls AP 82 #[AI (AE ⟨p,0,AD⟩),AA AB i,AL #[AA AB f,AA AB n']] w λe w'=>∃G',e=AH (AM #[])/\Ja w' G' p {s with fr:=GN s.fr i f n'}/\DJ G w w'/\∀k,G' k->G k\/w.heap.size<=k:=by
 obtain⟨DN,v,hr,ho,hG⟩:=h;have KF:=My DN.2.2 hn h1 h2 an;rw[<-hi]at KF;have az:i<=s.fr.length:=by rw[hi];exact Ck
 clear hi an;have Qv:s.first+s.blocks<=2000000:=by have:=DN.1;have:=DN.2.1;omega
 have Sh:∀k,k<s.fr.length->(Dd s.fr k).1+(Dd s.fr k).2<=2000000:=λk hk=>by have:=DN.2.2.getD hk;omega
 obtain⟨A,c,rfl,a7,Fy,_⟩:=DL ho;have hlen:=DN.len;have c2:w.cell? ⟨p,2,AD⟩=AE (AJ A s.fr.length c):=hr.cell 2;have Gi:=hr.lt;have Xk:=DN;have Eu:∀k,k<s.fr.length->∃g,A=AE ⟨g,0,AD⟩/\g<w.heap.size/\w.cell? ⟨g,k*2,AD⟩=AE (AA AB (Dd s.fr k).1)/\w.cell? ⟨g,k*2+1,AD⟩=AE (AA AB (Dd s.fr k).2):=λk hk=>IM ho hk;have RQ:=AO Eu;obtain⟨N,hN⟩:=ae s.fr.length;have H0:xW w G p s (AJ A N c):=by subst hN;exact⟨DN,hr,ho,hG⟩
 obtain⟨R,hR⟩:=ae (GN s.fr i f n');have IX:Hid (({s with fr:=R}:Sp).ok):=by rw[hR];exact⟨DN.1,DN.2.1,KF.1⟩
 rw[<-hR];have HR:=AO hR;have H:=AO H0;have HN:Hid (s.fr.length=N):=hN.symm;have bD:=AO Sh;rw[<-hN]at c2 hlen az;have PU:f+n'<=2000000:=a5;have OC:Hid (Below w.heap.size w (w.alloc (AK #[AA AB f,AA AB n'] 100))):=(AS _ _).alloc ar _;clear KF DN hr ho hG Eu H0 hN hR Qv Sh Xk h1 h2;obtain⟨j,rfl⟩:∃j,i=j+1:=⟨i-1,a5⟩;obtain⟨g0,rfl,aq,yq,yp⟩:=RQ.out j (by rw[HN.out];omega);have zm:=bD.out j (by rw[HN.out];omega);obtain⟨a0,RH⟩:=ao ((Dd s.fr j).1);obtain⟨b0,ab⟩:=ao ((Dd s.fr j).2);rw[RH]at yq;rw[ab]at yp;rw[RH,ab]at zm;have QG:=AO RH;have YW:=AO ab;obtain⟨u0,Zt⟩:=ao (a0+b0);have au:Hid (∀W,Calls AP 81 #[AL #[AA AB a0,AA AB b0]] W λe w'=>e=AH (AA AB (u0:Nat))/\Below W.heap.size W w'):=λW=>by have:=Ip a0 b0 W a5;rwa [Zt]at this
 have pH:=AO Zt;have Oo:Row (w.alloc (AK #[AA AB f,AA AB n'] 100)) w.heap.size 100 [AA AB f,AA AB n']:=heap_alloc_new _ _;have a3:(0:Int)<=(j:Int):=a5;have a1:(j:Int)<(N:Int):=a5;have aS:Ab.wrap ((j:Int)+1-1)=(j:Int):=by rw[show (j:Int)+1-1=j by omega];exact Al _ a5
 have aR:Ab.wrap (j:Int)=(j:Int):=Al _ a5;clear Zt RH ab;have ay:¬u0=f:=by rw[BV,QG.out,YW.out,pH.out]at Zz;exact Zz
 clear Zz;have ax:decide (u0=f)=false:=by simp;omega
 have aw:(u0==f)=false:=by simp;omega
 have av:((u0:Int)==(f:Int))=false:=by simp;omega
 have WC:Hid (0<j+1->(Dd s.fr (j+1-1)).1+(Dd s.fr (j+1-1)).2≠f):=λ_=>by rw[BV,QG.out,YW.out,pH.out];exact ay
 have vP:Hid (f+n'=f+n'):=rfl;go_enter func82,ntmps82
 go_wp2
 generalize w.alloc (AK #[AA AB f,AA AB n'] 100)=wb at*
 have jH:=OC;have xR:wb.cell? ⟨p,2,AD⟩=AE (AJ (AE ⟨g0,0,AD⟩) N c):=(H.out.2.1.below jH.out Gi).cell 2;have ad:wb.cell? ⟨w.heap.size,0,AD⟩=AE (AA AB f):=Oo.cell 0;have XY:=(jH.out.cell (p:=⟨g0,j*2,AD⟩) aq).trans yq;have XX:=(jH.out.cell (p:=⟨g0,j*2+1,AD⟩) aq).trans yp;have Xd:w.heap.size<wb.heap.size:=Oo.lt;have gI:p<wb.heap.size:=a5;have Vp:g0<wb.heap.size:=a5;go_region_held3 (λw'=>Below wb.heap.size wb w'/\w'.cell? ⟨p,2,AD⟩=AE (AJ (AE ⟨g0,0,AD⟩) N c)/\w'.cell? ⟨w.heap.size,0,AD⟩=AE (AA AB f)/\w'.cell? ⟨g0,j*2,AD⟩=AE (AA AB a0)/\w'.cell? ⟨g0,j*2+1,AD⟩=AE (AA AB b0))
  (first
   |(exact⟨DA (AS _ _) 1,xR,ad,XY,XX⟩)
   |(exact⟨I,(I.cell gI).trans xR,(I.cell Xd).trans ad,(I.cell Vp).trans XY,(I.cell Vp).trans XX⟩))
  ((go_split_ands;go_at_call 81;(with_reducible refine(au.out _).mono ?_);rintro e qm ⟨rfl,ED⟩;have I:Below wb.heap.size wb qm:=CR a9 (CV ED (CU a9))))
 have Oq:=Oo.below I Xd;have pn:=AO (jH.out.trans (I.mono jH.out.size));have U2:=AO I;clear I;generalize qm=wp at*
 have Gw:=Oq;have PI:=pn;clear U2 Oq pn xR ad XY XX Xd gI Vp Oo jH OC ax aw av au pH QG YW yq yp;go_wp2
 by_cases nC:(j+1)<N
 ·obtain⟨U,Ny,Ff,cQ,Lr⟩:=RQ.out ((j+1)) (by rw[HN.out];exact nC);have Si:=bD.out ((j+1)) (by rw[HN.out];exact nC);obtain rfl:U=g0:=by injection Ny with Ny;injection Ny with Ny;exact Ny.symm
  obtain⟨a2,Sl⟩:=ao ((Dd s.fr ((j+1))).1);obtain⟨b2,DT⟩:=ao ((Dd s.fr ((j+1))).2);rw[Sl]at cQ;rw[DT]at Lr;rw[Sl,DT]at Si;have WX:=AO Sl;have Ta:=AO DT;obtain⟨u2,RD⟩:=ao (f+n');have O9:Hid (∀W,Calls AP 81 #[AL #[AA AB f,AA AB n']] W λe w'=>e=AH (AA AB (u2:Nat))/\Below W.heap.size W w'):=λW=>by have:=Ip (f) (n') W a5;rwa [RD]at this
  have T4:=AO RD;have Qa:wp.cell? ⟨p,2,AD⟩=AE (AJ (AE ⟨U,0,AD⟩) N c):=(H.out.2.1.below PI.out Gi).cell 2;have Uv:wp.cell? ⟨w.heap.size,0,AD⟩=AE (AA AB f):=Gw.cell 0;have TO:wp.cell? ⟨w.heap.size,1,AD⟩=AE (AA AB n'):=Gw.cell 1;have S4:=(PI.out.cell (p:=⟨U,((j+1))*2,AD⟩) Ff).trans cQ;have S3:=(PI.out.cell (p:=⟨U,((j+1))*2+1,AD⟩) Ff).trans Lr;have IP:w.heap.size<wp.heap.size:=Gw.lt;have Kr:p<wp.heap.size:=a5;have Iy:U<wp.heap.size:=a5;have vn:((j:Int)+1:Int)<(N:Int):=a5;have vo:(0:Int)<=((j:Int)+1:Int):=a5;have rg:decide (((j:Int)+1:Int)<(N:Int))=true:=by simp;omega
  have lM:decide ((j+1)<N)=true:=by simp;omega
  clear RD Sl DT;by_cases GU:a2=u2
  ·have rt:decide (a2=u2)=true:=by simp;omega
   have lC:(a2==u2)=true:=by simp;omega
   have lB:((a2:Int)==(u2:Int))=true:=by simp;omega
   obtain⟨n2,PR⟩:=ae (n'+b2);have QX:(n':Int)+(b2:Int)=(n2:Int):=a5;have GS:Ab.wrap (n2:Int)=(n2:Int):=Al _ a5;have a6:Ab.wrap (((j:Int)+1:Int)+1)=((j:Int)+1:Int)+1:=Al _ a5;have TS:Hid (Fv s.fr ((j+1)) (f+n')=true):=Rg (by rw[HN.out];exact nC) (by rw[WX.out];have:=T4.out;have:=vP.out;omega);have pT:=AO PR;clear PR;go_region_held3 (λw'=>Below wp.heap.size wp w'/\w'.cell? ⟨p,2,AD⟩=AE (AJ (AE ⟨U,0,AD⟩) N c)/\w'.cell? ⟨w.heap.size,0,AD⟩=AE (AA AB f)/\w'.cell? ⟨w.heap.size,1,AD⟩=AE (AA AB n')/\w'.cell? ⟨U,((j+1))*2,AD⟩=AE (AA AB a2)/\w'.cell? ⟨U,((j+1))*2+1,AD⟩=AE (AA AB b2))
    (first
     |(exact⟨DA (AS _ _) 1,Qa,Uv,TO,S4,S3⟩)
     |(exact⟨I,(I.cell Kr).trans Qa,(I.cell IP).trans Uv,(I.cell IP).trans TO,(I.cell Iy).trans S4,(I.cell Iy).trans S3⟩))
    ((go_split_ands;go_at_call 81;(with_reducible refine(O9.out _).mono ?_);rintro e Wb ⟨rfl,ED⟩;have I:Below wp.heap.size wp Wb:=CR a9 (CV ED (CU a9))))
   have Iz:=Gw.below I IP;have PK:=AO (PI.out.trans (I.mono PI.out.size));have LH:=AO I;clear I;have aD:=(LH.out.cell (p:=⟨p,2,AD⟩) Kr).trans Qa;have aC:=(LH.out.cell (p:=⟨U,((j+1))*2,AD⟩) Iy).trans S4;have aB:=(LH.out.cell (p:=⟨U,((j+1))*2+1,AD⟩) Iy).trans S3;have aE:=(LH.out.cell (p:=⟨w.heap.size,1,AD⟩) IP).trans TO;have aA:=Iz.free 1;generalize Wb=Yx at*
   go_wp2
   go_region
   have He:Row (Yx.setCell ⟨w.heap.size,1,AD⟩ (AA AB n2)).drew w.heap.size 100 [AA AB f,AA AB n2]:=(Iz.set 1 (AA AB n2)).drewN 1;have Ml:Hid (Below w.heap.size w (Yx.setCell ⟨w.heap.size,1,AD⟩ (AA AB n2)).drew):=DA (PK.out.setCell (p:=⟨w.heap.size,1,AD⟩) ar _) 1;clear aD aC aB aE aA LH PK Iz;generalize(Yx.setCell ⟨w.heap.size,1,AD⟩ (AA AB n2)).drew=J at*
   go_wp2
   have RP:Hid (s.fr.take ((j+1))++[(f,n2)]++s.fr.drop ((j+1)+1)=R):=by
    unfold Hid;rw[HR.out];unfold GN;rw[Ke WC.out,TS.out];dsimp only;rw[pT.out,Ta.out]
   have al:w.heap.size<J.heap.size:=He.lt;have c5:J.cell? ⟨p,2,AD⟩=AE (AJ (AE ⟨U,0,AD⟩) N c):=(H.out.2.1.below Ml.out Gi).cell 2;have b0:J.cell? ⟨w.heap.size,0,AD⟩=AE (AA AB f):=He.cell 0;have b1:J.cell? ⟨w.heap.size,1,AD⟩=AE (AA AB n2):=He.cell 1;have Xh:p<J.heap.size:=a5;have EV:∀W,W=J.drew.alloc (AK #[AA AB f,AA AB n2] 100)->Hid (Below w.heap.size w W):=λW e=>by subst e;exact(DA Ml.out 1).alloc (by have:=Ml.out.size;exact this) _
   have FV:∀W,W=J.drew.alloc (AK #[AA AB f,AA AB n2] 100)->Hid (Calls AP 107 #[AJ (AE ⟨U,0,AD⟩) N c,AA AB ((j:Int)+1),AA AB ((j:Int)+1+1),AJ (AE ⟨J.heap.size,0,AD⟩) 1 1] W (JH W (AJ (AE ⟨U,0,AD⟩) N c) R)):=λW e=>by
    have NX:=Dz H.out.2.2.1 (EV W e).out;rw[HN.out]at NX;have Ih:Fo W J.heap.size 1 1 [(f,n2)] [AA AB f,AA AB n2]:=⟨by subst e;exact heap_alloc_new J.drew _,rfl,AQ _,a5,rfl,rfl⟩;have EP:=ES W (i:=(j+1)) (j:=(j+1)+1) NX Ih.own (λk hk e2=>by have h1:=(H.out.2.2.1.lt k hk).2;(have e3:J.heap.size=k:=by simpa [Bq]using e2);omega) a5 a5 a5 a5;rw[RP.out]at EP;have Fq:(((j+1):Nat):Int)=(j:Int)+1:=a5;have Ge:(((j+1)+1:Nat):Int)=(j:Int)+1+1:=a5
    first|rw[Fq,Ge]at EP|rw[Fq]at EP
    exact EP
   have FV:=FV _ rfl;have EV:=EV _ rfl;have HC:Hid (∀v' O,JH (J.drew.alloc (AK #[AA AB f,AA AB n2] 100)) (AJ (AE ⟨U,0,AD⟩) N c) R (AH v') O->∃G',Ja (O.setCell ⟨p,2,AD⟩ v') G' p {s with fr:=R}/\DJ G w (O.setCell ⟨p,2,AD⟩ v')/\∀k,G' k->G k\/w.heap.size<=k):=λv' O Q=>Gk H.out EV.out Q IX.out;clear TS rt lC lB vo vn rg lM Qa Uv TO Kr Iy IP S4 S3 cQ Lr O9 T4 WX Ta Si Ff;have Lz:Hid (∀v' O,JH (J.drew.alloc (AK #[AA AB f,AA AB n2] 100)) (AJ (AE ⟨U,0,AD⟩) N c) R (AH v') O->O.cell? ⟨p,2,AD⟩=AE (AJ (AE ⟨U,0,AD⟩) N c)/\O.frozen? ⟨p,2,AD⟩=false):=λv' O Q=>by have:=Em H.out EV.out Q;exact⟨this.cell 2,this.free 2⟩
   go_wp2
   go_region_with (go_at_call 107;refine FV.out.mono ?_;rintro e O Q;obtain⟨v',rfl,IQ,Ff,Ia⟩:=id Q;have HX:=AO (HC.out v' O Q);obtain⟨c6,f6⟩:=Lz.out v' O Q;obtain⟨A',c',rfl,_,_,_⟩:=DL IQ;clear Q IQ Ff Ia)
   all_goals(go_wp2;go_end0;obtain⟨G',h1,h2,h3⟩:=HX.out;exact⟨G',rfl,h1,h2,h3⟩)
  ·have rt:decide (a2=u2)=false:=by simp;omega
   have lC:(a2==u2)=false:=by simp;omega
   have lB:((a2:Int)==(u2:Int))=false:=by simp;omega
   have TS:Hid (Fv s.fr ((j+1)) (f+n')=false):=Kc λ_=>by rw[WX.out];have:=T4.out;have:=vP.out;omega
   go_wp2
   go_region_held3 (λw'=>Below wp.heap.size wp w'/\w'.cell? ⟨p,2,AD⟩=AE (AJ (AE ⟨U,0,AD⟩) N c)/\w'.cell? ⟨w.heap.size,0,AD⟩=AE (AA AB f)/\w'.cell? ⟨w.heap.size,1,AD⟩=AE (AA AB n')/\w'.cell? ⟨U,((j+1))*2,AD⟩=AE (AA AB a2)/\w'.cell? ⟨U,((j+1))*2+1,AD⟩=AE (AA AB b2))
    (first
     |(exact⟨DA (AS _ _) 1,Qa,Uv,TO,S4,S3⟩)
     |(exact⟨I,(I.cell Kr).trans Qa,(I.cell IP).trans Uv,(I.cell IP).trans TO,(I.cell Iy).trans S4,(I.cell Iy).trans S3⟩))
    ((go_split_ands;go_at_call 81;(with_reducible refine(O9.out _).mono ?_);rintro e Wb ⟨rfl,ED⟩;have I:Below wp.heap.size wp Wb:=CR a9 (CV ED (CU a9))))
   have Iz:=Gw.below I IP;have PK:=AO (PI.out.trans (I.mono PI.out.size));have LH:=AO I;clear I;generalize Wb=J at*
   have Ml:=PK;have He:=Iz;go_wp2
   have RP:Hid (s.fr.take ((j+1))++[(f,n')]++s.fr.drop ((j+1))=R):=by
    unfold Hid;rw[HR.out];unfold GN;rw[Ke WC.out,TS.out]
   have al:w.heap.size<J.heap.size:=He.lt;have c5:J.cell? ⟨p,2,AD⟩=AE (AJ (AE ⟨U,0,AD⟩) N c):=(H.out.2.1.below Ml.out Gi).cell 2;have b0:J.cell? ⟨w.heap.size,0,AD⟩=AE (AA AB f):=He.cell 0;have b1:J.cell? ⟨w.heap.size,1,AD⟩=AE (AA AB n'):=He.cell 1;have Xh:p<J.heap.size:=a5;have EV:∀W,W=J.drew.alloc (AK #[AA AB f,AA AB n'] 100)->Hid (Below w.heap.size w W):=λW e=>by subst e;exact(DA Ml.out 1).alloc (by have:=Ml.out.size;exact this) _
   have FV:∀W,W=J.drew.alloc (AK #[AA AB f,AA AB n'] 100)->Hid (Calls AP 107 #[AJ (AE ⟨U,0,AD⟩) N c,AA AB ((j:Int)+1),AA AB ((j:Int)+1),AJ (AE ⟨J.heap.size,0,AD⟩) 1 1] W (JH W (AJ (AE ⟨U,0,AD⟩) N c) R)):=λW e=>by
    have NX:=Dz H.out.2.2.1 (EV W e).out;rw[HN.out]at NX;have Ih:Fo W J.heap.size 1 1 [(f,n')] [AA AB f,AA AB n']:=⟨by subst e;exact heap_alloc_new J.drew _,rfl,AQ _,a5,rfl,rfl⟩;have EP:=ES W (i:=(j+1)) (j:=(j+1)) NX Ih.own (λk hk e2=>by have h1:=(H.out.2.2.1.lt k hk).2;(have e3:J.heap.size=k:=by simpa [Bq]using e2);omega) a5 a5 a5 a5;rw[RP.out]at EP;have Fq:(((j+1):Nat):Int)=(j:Int)+1:=a5;have Ge:(((j+1):Nat):Int)=(j:Int)+1:=a5
    first|rw[Fq,Ge]at EP|rw[Fq]at EP
    exact EP
   have FV:=FV _ rfl;have EV:=EV _ rfl;have HC:Hid (∀v' O,JH (J.drew.alloc (AK #[AA AB f,AA AB n'] 100)) (AJ (AE ⟨U,0,AD⟩) N c) R (AH v') O->∃G',Ja (O.setCell ⟨p,2,AD⟩ v') G' p {s with fr:=R}/\DJ G w (O.setCell ⟨p,2,AD⟩ v')/\∀k,G' k->G k\/w.heap.size<=k):=λv' O Q=>Gk H.out EV.out Q IX.out;clear TS rt lC lB vo vn rg lM Qa Uv TO Kr Iy IP S4 S3 cQ Lr O9 T4 WX Ta Si Ff;have Lz:Hid (∀v' O,JH (J.drew.alloc (AK #[AA AB f,AA AB n'] 100)) (AJ (AE ⟨U,0,AD⟩) N c) R (AH v') O->O.cell? ⟨p,2,AD⟩=AE (AJ (AE ⟨U,0,AD⟩) N c)/\O.frozen? ⟨p,2,AD⟩=false):=λv' O Q=>by have:=Em H.out EV.out Q;exact⟨this.cell 2,this.free 2⟩
   go_wp2
   go_region_with (go_at_call 107;refine FV.out.mono ?_;rintro e O Q;obtain⟨v',rfl,IQ,Ff,Ia⟩:=id Q;have HX:=AO (HC.out v' O Q);obtain⟨c6,f6⟩:=Lz.out v' O Q;obtain⟨A',c',rfl,_,_,_⟩:=DL IQ;clear Q IQ Ff Ia)
   all_goals(go_wp2;go_end0;obtain⟨G',h1,h2,h3⟩:=HX.out;exact⟨G',rfl,h1,h2,h3⟩)
 ·have rg:decide (((j:Int)+1:Int)<(N:Int))=false:=by simp;omega
  have lM:decide ((j+1)<N)=false:=by simp;omega
  have TS:Hid (Fv s.fr ((j+1)) (f+n')=false):=Kc λhh=>by rw[HN.out]at hh;omega
  have Qa:wp.cell? ⟨p,2,AD⟩=AE (AJ (AE ⟨g0,0,AD⟩) N c):=(H.out.2.1.below PI.out Gi).cell 2;have Kr:p<wp.heap.size:=by have:=Gw.lt;omega
  go_quiet (fail)
  have He:=Gw.drewN nq;have Ml:Hid (Below w.heap.size w (wp.drewN nq)):=DA PI.out nq;generalize wp.drewN nq=J at*
  go_wp2
  have RP:Hid (s.fr.take ((j+1))++[(f,n')]++s.fr.drop ((j+1))=R):=by
   unfold Hid;rw[HR.out];unfold GN;rw[Ke WC.out,TS.out]
  have al:w.heap.size<J.heap.size:=He.lt;have c5:J.cell? ⟨p,2,AD⟩=AE (AJ (AE ⟨g0,0,AD⟩) N c):=(H.out.2.1.below Ml.out Gi).cell 2;have b0:J.cell? ⟨w.heap.size,0,AD⟩=AE (AA AB f):=He.cell 0;have b1:J.cell? ⟨w.heap.size,1,AD⟩=AE (AA AB n'):=He.cell 1;have Xh:p<J.heap.size:=a5;have EV:∀W,W=J.drew.alloc (AK #[AA AB f,AA AB n'] 100)->Hid (Below w.heap.size w W):=λW e=>by subst e;exact(DA Ml.out 1).alloc (by have:=Ml.out.size;exact this) _
  have FV:∀W,W=J.drew.alloc (AK #[AA AB f,AA AB n'] 100)->Hid (Calls AP 107 #[AJ (AE ⟨g0,0,AD⟩) N c,AA AB ((j:Int)+1),AA AB ((j:Int)+1),AJ (AE ⟨J.heap.size,0,AD⟩) 1 1] W (JH W (AJ (AE ⟨g0,0,AD⟩) N c) R)):=λW e=>by
   have NX:=Dz H.out.2.2.1 (EV W e).out;rw[HN.out]at NX;have Ih:Fo W J.heap.size 1 1 [(f,n')] [AA AB f,AA AB n']:=⟨by subst e;exact heap_alloc_new J.drew _,rfl,AQ _,a5,rfl,rfl⟩;have EP:=ES W (i:=(j+1)) (j:=(j+1)) NX Ih.own (λk hk e2=>by have h1:=(H.out.2.2.1.lt k hk).2;(have e3:J.heap.size=k:=by simpa [Bq]using e2);omega) a5 a5 a5 a5;rw[RP.out]at EP;have Fq:(((j+1):Nat):Int)=(j:Int)+1:=a5;have Ge:(((j+1):Nat):Int)=(j:Int)+1:=a5
   first|rw[Fq,Ge]at EP|rw[Fq]at EP
   exact EP
  have FV:=FV _ rfl;have EV:=EV _ rfl;have HC:Hid (∀v' O,JH (J.drew.alloc (AK #[AA AB f,AA AB n'] 100)) (AJ (AE ⟨g0,0,AD⟩) N c) R (AH v') O->∃G',Ja (O.setCell ⟨p,2,AD⟩ v') G' p {s with fr:=R}/\DJ G w (O.setCell ⟨p,2,AD⟩ v')/\∀k,G' k->G k\/w.heap.size<=k):=λv' O Q=>Gk H.out EV.out Q IX.out;have Lz:Hid (∀v' O,JH (J.drew.alloc (AK #[AA AB f,AA AB n'] 100)) (AJ (AE ⟨g0,0,AD⟩) N c) R (AH v') O->O.cell? ⟨p,2,AD⟩=AE (AJ (AE ⟨g0,0,AD⟩) N c)/\O.frozen? ⟨p,2,AD⟩=false):=λv' O Q=>by have:=Em H.out EV.out Q;exact⟨this.cell 2,this.free 2⟩
  go_wp2
  go_region_with (go_at_call 107;refine FV.out.mono ?_;rintro e O Q;obtain⟨v',rfl,IQ,Ff,Ia⟩:=id Q;have HX:=AO (HC.out v' O Q);obtain⟨c6,f6⟩:=Lz.out v' O Q;obtain⟨A',c',rfl,_,_,_⟩:=DL IQ;clear Q IQ Ff Ia)
  all_goals(go_wp2;go_end0;obtain⟨G',h1,h2,h3⟩:=HX.out;exact⟨G',rfl,h1,h2,h3⟩)
theorem tD(p:Nat)(s:Sp)(G:Nat->Prop)(i f n':Nat)(w:World)(h:Ja w G p s)(hi:i=EK s.fr f)(h1:s.first<=f)(h2:f+n'<=s.first+s.blocks)(hn:1<=n')(ay:∀b,f<=b->b<f+n'->¬hasB s.fr b)(Ol:0<i)(Zz:(Dd s.fr (i-1)).1+(Dd s.fr (i-1)).2=f):
  Calls AP 82 #[AI (AE ⟨p,0,AD⟩),AA AB i,AL #[AA AB f,AA AB n']] w λe w'=>∃G',e=AH (AM #[])/\Ja w' G' p {s with fr:=GN s.fr i f n'}/\DJ G w w'/\∀k,G' k->G k\/w.heap.size<=k:=by
 obtain⟨DN,v,hr,ho,hG⟩:=h;have KF:=My DN.2.2 hn h1 h2 ay;rw[<-hi]at KF;have aR:i<=s.fr.length:=by rw[hi];exact Ck
 clear hi ay;have Qv:s.first+s.blocks<=2000000:=by have:=DN.1;have:=DN.2.1;omega
 have Sh:∀k,k<s.fr.length->(Dd s.fr k).1+(Dd s.fr k).2<=2000000:=λk hk=>by have:=DN.2.2.getD hk;omega
 obtain⟨A,c,rfl,bb,Fy,_⟩:=DL ho;have hlen:=DN.len;have c2:w.cell? ⟨p,2,AD⟩=AE (AJ A s.fr.length c):=hr.cell 2;have Gi:=hr.lt;have Xk:=DN;have Eu:∀k,k<s.fr.length->∃g,A=AE ⟨g,0,AD⟩/\g<w.heap.size/\w.cell? ⟨g,k*2,AD⟩=AE (AA AB (Dd s.fr k).1)/\w.cell? ⟨g,k*2+1,AD⟩=AE (AA AB (Dd s.fr k).2):=λk hk=>IM ho hk;have RQ:=AO Eu;obtain⟨N,hN⟩:=ae s.fr.length;have H0:xW w G p s (AJ A N c):=by subst hN;exact⟨DN,hr,ho,hG⟩
 obtain⟨R,hR⟩:=ae (GN s.fr i f n');have IX:Hid (({s with fr:=R}:Sp).ok):=by rw[hR];exact⟨DN.1,DN.2.1,KF.1⟩
 rw[<-hR];have HR:=AO hR;have H:=AO H0;have HN:Hid (s.fr.length=N):=hN.symm;have bD:=AO Sh;rw[<-hN]at c2 hlen aR;have PU:f+n'<=2000000:=a5;have OC:Hid (Below w.heap.size w (w.alloc (AK #[AA AB f,AA AB n'] 100))):=(AS _ _).alloc ar _;clear KF DN hr ho hG Eu H0 hN hR Qv Sh Xk h1 h2;obtain⟨j,rfl⟩:∃j,i=j+1:=⟨i-1,a5⟩;obtain⟨g0,rfl,az,yq,yp⟩:=RQ.out j (by rw[HN.out];omega);have zm:=bD.out j (by rw[HN.out];omega);obtain⟨J,RH⟩:=ao ((Dd s.fr j).1);obtain⟨b0,ab⟩:=ao ((Dd s.fr j).2);rw[RH]at yq;rw[ab]at yp;rw[RH,ab]at zm;have QG:=AO RH;have YW:=AO ab;obtain⟨u0,Zt⟩:=ao (J+b0);have aA:Hid (∀W,Calls AP 81 #[AL #[AA AB J,AA AB b0]] W λe w'=>e=AH (AA AB (u0:Nat))/\Below W.heap.size W w'):=λW=>by have:=Ip J b0 W a5;rwa [Zt]at this
 have pH:=AO Zt;have Oo:Row (w.alloc (AK #[AA AB f,AA AB n'] 100)) w.heap.size 100 [AA AB f,AA AB n']:=heap_alloc_new _ _;have a8:(0:Int)<=(j:Int):=a5;have a7:(j:Int)<(N:Int):=a5;have a6:Ab.wrap ((j:Int)+1-1)=(j:Int):=by rw[show (j:Int)+1-1=j by omega];exact Al _ a5
 have a3:Ab.wrap (j:Int)=(j:Int):=Al _ a5;clear Zt RH ab;have aE:u0=f:=by rw[BV,QG.out,YW.out,pH.out]at Zz;exact Zz
 clear Zz;have aD:decide (u0=f)=true:=by simp;omega
 have aC:(u0==f)=true:=by simp;omega
 have aB:((u0:Int)==(f:Int))=true:=by simp;omega
 obtain⟨U,RF⟩:=ae (b0+n');have UZ:(b0:Int)+(n':Int)=(U:Int):=a5;have Ns:Ab.wrap (U:Int)=(U:Int):=Al _ (by have:=pH.out;omega);have WC:Hid ((Dd s.fr (j+1-1)).1+(Dd s.fr (j+1-1)).2=f):=by unfold Hid;rw[BV,QG.out,YW.out,pH.out];exact aE
 have xp:Hid ((Dd s.fr (j+1-1)).1=J):=by unfold Hid;rw[BV];exact QG.out
 have aw:Hid ((Dd s.fr (j+1-1)).2+n'=U):=by unfold Hid;rw[BV,YW.out];exact RF.symm
 have vP:Hid (f+n'=J+U):=by unfold Hid;have:=pH.out;omega
 have bc:J+U<=2000000:=by have:=vP.out;omega
 clear RF;go_enter func82,ntmps82
 go_wp2
 generalize w.alloc (AK #[AA AB f,AA AB n'] 100)=wb at*
 have jH:=OC;have xR:wb.cell? ⟨p,2,AD⟩=AE (AJ (AE ⟨g0,0,AD⟩) N c):=(H.out.2.1.below jH.out Gi).cell 2;have av:wb.cell? ⟨w.heap.size,0,AD⟩=AE (AA AB f):=Oo.cell 0;have XY:=(jH.out.cell (p:=⟨g0,j*2,AD⟩) az).trans yq;have XX:=(jH.out.cell (p:=⟨g0,j*2+1,AD⟩) az).trans yp;have Xd:w.heap.size<wb.heap.size:=Oo.lt;have gI:p<wb.heap.size:=a5;have Vp:g0<wb.heap.size:=a5;go_region_held3 (λw'=>Below wb.heap.size wb w'/\w'.cell? ⟨p,2,AD⟩=AE (AJ (AE ⟨g0,0,AD⟩) N c)/\w'.cell? ⟨w.heap.size,0,AD⟩=AE (AA AB f)/\w'.cell? ⟨g0,j*2,AD⟩=AE (AA AB J)/\w'.cell? ⟨g0,j*2+1,AD⟩=AE (AA AB b0))
  (first
   |(exact⟨DA (AS _ _) 1,xR,av,XY,XX⟩)
   |(exact⟨I,(I.cell gI).trans xR,(I.cell Xd).trans av,(I.cell Vp).trans XY,(I.cell Vp).trans XX⟩))
  ((go_split_ands;go_at_call 81;(with_reducible refine(aA.out _).mono ?_);rintro e qm ⟨rfl,ED⟩;have I:Below wb.heap.size wb qm:=CR a9 (CV ED (CU a9))))
 have Oq:=Oo.below I Xd;have pn:=AO (jH.out.trans (I.mono jH.out.size));have U2:=AO I;clear I;have aq:=(U2.out.cell (p:=⟨p,2,AD⟩) gI).trans xR;have an:=(U2.out.cell (p:=⟨g0,j*2,AD⟩) Vp).trans XY;have al:=(U2.out.cell (p:=⟨g0,j*2+1,AD⟩) Vp).trans XX;have au:qm.cell? ⟨w.heap.size,1,AD⟩=AE (AA AB n'):=Oq.cell 1;have aS:qm.cell? ⟨w.heap.size,0,AD⟩=AE (AA AB f):=Oq.cell 0;have ad:=Oq.free 1;have a1:=Oq.free 0;generalize qm=Yx at*
 clear xR av XY XX;go_wp2
 go_region
 have Gw:Row ((Yx.setCell ⟨w.heap.size,0,AD⟩ (AA AB J)).setCell ⟨w.heap.size,1,AD⟩ (AA AB U)).drew w.heap.size 100 [AA AB J,AA AB U]:=((Oq.set 0 (AA AB J)).set 1 (AA AB U)).drewN 1;have PI:Hid (Below w.heap.size w ((Yx.setCell ⟨w.heap.size,0,AD⟩ (AA AB J)).setCell ⟨w.heap.size,1,AD⟩ (AA AB U)).drew):=DA ((pn.out.setCell (p:=⟨w.heap.size,0,AD⟩) ar _).setCell (p:=⟨w.heap.size,1,AD⟩) ar _) 1;clear aq an al au aS ad a1 U2 Oq pn Xd gI Vp Oo jH OC aD aC aB aA pH QG YW yq yp;generalize((Yx.setCell ⟨w.heap.size,0,AD⟩ (AA AB J)).setCell ⟨w.heap.size,1,AD⟩ (AA AB U)).drew=wp at*
 go_wp2
 by_cases nC:(j+1)<N
 ·obtain⟨g2,Ny,Ff,cQ,Lr⟩:=RQ.out ((j+1)) (by rw[HN.out];exact nC);have Si:=bD.out ((j+1)) (by rw[HN.out];exact nC);obtain rfl:g2=g0:=by injection Ny with Ny;injection Ny with Ny;exact Ny.symm
  obtain⟨a2,Sl⟩:=ao ((Dd s.fr ((j+1))).1);obtain⟨b2,DT⟩:=ao ((Dd s.fr ((j+1))).2);rw[Sl]at cQ;rw[DT]at Lr;rw[Sl,DT]at Si;have WX:=AO Sl;have Ta:=AO DT;obtain⟨u2,RD⟩:=ao (J+U);have O9:Hid (∀W,Calls AP 81 #[AL #[AA AB J,AA AB U]] W λe w'=>e=AH (AA AB (u2:Nat))/\Below W.heap.size W w'):=λW=>by have:=Ip (J) (U) W a5;rwa [RD]at this
  have T4:=AO RD;have Qa:wp.cell? ⟨p,2,AD⟩=AE (AJ (AE ⟨g2,0,AD⟩) N c):=(H.out.2.1.below PI.out Gi).cell 2;have Uv:wp.cell? ⟨w.heap.size,0,AD⟩=AE (AA AB J):=Gw.cell 0;have TO:wp.cell? ⟨w.heap.size,1,AD⟩=AE (AA AB U):=Gw.cell 1;have S4:=(PI.out.cell (p:=⟨g2,((j+1))*2,AD⟩) Ff).trans cQ;have S3:=(PI.out.cell (p:=⟨g2,((j+1))*2+1,AD⟩) Ff).trans Lr;have IP:w.heap.size<wp.heap.size:=Gw.lt;have Kr:p<wp.heap.size:=a5;have Iy:g2<wp.heap.size:=a5;have vn:((j:Int)+1:Int)<(N:Int):=a5;have vo:(0:Int)<=((j:Int)+1:Int):=a5;have rg:decide (((j:Int)+1:Int)<(N:Int))=true:=by simp;omega
  have lM:decide ((j+1)<N)=true:=by simp;omega
  clear RD Sl DT;by_cases GU:a2=u2
  ·have rt:decide (a2=u2)=true:=by simp;omega
   have lC:(a2==u2)=true:=by simp;omega
   have lB:((a2:Int)==(u2:Int))=true:=by simp;omega
   obtain⟨n2,PR⟩:=ae (U+b2);have QX:(U:Int)+(b2:Int)=(n2:Int):=a5;have GS:Ab.wrap (n2:Int)=(n2:Int):=Al _ a5;have ba:Ab.wrap (((j:Int)+1:Int)+1)=((j:Int)+1:Int)+1:=Al _ a5;have TS:Hid (Fv s.fr ((j+1)) (f+n')=true):=Rg (by rw[HN.out];exact nC) (by rw[WX.out];have:=T4.out;have:=vP.out;omega);have pT:=AO PR;clear PR;go_region_held3 (λw'=>Below wp.heap.size wp w'/\w'.cell? ⟨p,2,AD⟩=AE (AJ (AE ⟨g2,0,AD⟩) N c)/\w'.cell? ⟨w.heap.size,0,AD⟩=AE (AA AB J)/\w'.cell? ⟨w.heap.size,1,AD⟩=AE (AA AB U)/\w'.cell? ⟨g2,((j+1))*2,AD⟩=AE (AA AB a2)/\w'.cell? ⟨g2,((j+1))*2+1,AD⟩=AE (AA AB b2))
    (first
     |(exact⟨DA (AS _ _) 1,Qa,Uv,TO,S4,S3⟩)
     |(exact⟨I,(I.cell Kr).trans Qa,(I.cell IP).trans Uv,(I.cell IP).trans TO,(I.cell Iy).trans S4,(I.cell Iy).trans S3⟩))
    ((go_split_ands;go_at_call 81;(with_reducible refine(O9.out _).mono ?_);rintro e Wb ⟨rfl,ED⟩;have I:Below wp.heap.size wp Wb:=CR a9 (CV ED (CU a9))))
   have Iz:=Gw.below I IP;have PK:=AO (PI.out.trans (I.mono PI.out.size));have LH:=AO I;clear I;have aq:=(LH.out.cell (p:=⟨p,2,AD⟩) Kr).trans Qa;have an:=(LH.out.cell (p:=⟨g2,((j+1))*2,AD⟩) Iy).trans S4;have al:=(LH.out.cell (p:=⟨g2,((j+1))*2+1,AD⟩) Iy).trans S3;have au:=(LH.out.cell (p:=⟨w.heap.size,1,AD⟩) IP).trans TO;have ad:=Iz.free 1;generalize Wb=Yx at*
   go_wp2
   go_region
   have He:Row (Yx.setCell ⟨w.heap.size,1,AD⟩ (AA AB n2)).drew w.heap.size 100 [AA AB J,AA AB n2]:=(Iz.set 1 (AA AB n2)).drewN 1;have Ml:Hid (Below w.heap.size w (Yx.setCell ⟨w.heap.size,1,AD⟩ (AA AB n2)).drew):=DA (PK.out.setCell (p:=⟨w.heap.size,1,AD⟩) ar _) 1;clear aq an al au ad LH PK Iz;generalize(Yx.setCell ⟨w.heap.size,1,AD⟩ (AA AB n2)).drew=O at*
   go_wp2
   have RP:Hid (s.fr.take (j)++[(J,n2)]++s.fr.drop ((j+1)+1)=R):=by
    unfold Hid;rw[HR.out];unfold GN;rw[Rh a5 WC.out,TS.out];dsimp only;rw[xp.out,aw.out,pT.out,Ta.out];simp
   have ax:w.heap.size<O.heap.size:=He.lt;have c5:O.cell? ⟨p,2,AD⟩=AE (AJ (AE ⟨g2,0,AD⟩) N c):=(H.out.2.1.below Ml.out Gi).cell 2;have b0:O.cell? ⟨w.heap.size,0,AD⟩=AE (AA AB J):=He.cell 0;have b1:O.cell? ⟨w.heap.size,1,AD⟩=AE (AA AB n2):=He.cell 1;have Xh:p<O.heap.size:=a5;have EV:∀W,W=O.drew.alloc (AK #[AA AB J,AA AB n2] 100)->Hid (Below w.heap.size w W):=λW e=>by subst e;exact(DA Ml.out 1).alloc (by have:=Ml.out.size;exact this) _
   have FV:∀W,W=O.drew.alloc (AK #[AA AB J,AA AB n2] 100)->Hid (Calls AP 107 #[AJ (AE ⟨g2,0,AD⟩) N c,AA AB ((j:Int)),AA AB ((j:Int)+1+1),AJ (AE ⟨O.heap.size,0,AD⟩) 1 1] W (JH W (AJ (AE ⟨g2,0,AD⟩) N c) R)):=λW e=>by
    have NX:=Dz H.out.2.2.1 (EV W e).out;rw[HN.out]at NX;have Ih:Fo W O.heap.size 1 1 [(J,n2)] [AA AB J,AA AB n2]:=⟨by subst e;exact heap_alloc_new O.drew _,rfl,AQ _,a5,rfl,rfl⟩;have EP:=ES W (i:=j) (j:=(j+1)+1) NX Ih.own (λk hk e2=>by have h1:=(H.out.2.2.1.lt k hk).2;(have e3:O.heap.size=k:=by simpa [Bq]using e2);omega) a5 a5 a5 a5;rw[RP.out]at EP;have Fq:((j:Nat):Int)=(j:Int):=a5;have Ge:(((j+1)+1:Nat):Int)=(j:Int)+1+1:=a5
    first|rw[Fq,Ge]at EP|rw[Fq]at EP
    exact EP
   have FV:=FV _ rfl;have EV:=EV _ rfl;have HC:Hid (∀v' Q,JH (O.drew.alloc (AK #[AA AB J,AA AB n2] 100)) (AJ (AE ⟨g2,0,AD⟩) N c) R (AH v') Q->∃G',Ja (Q.setCell ⟨p,2,AD⟩ v') G' p {s with fr:=R}/\DJ G w (Q.setCell ⟨p,2,AD⟩ v')/\∀k,G' k->G k\/w.heap.size<=k):=λv' Q hg=>Gk H.out EV.out hg IX.out;clear TS rt lC lB vo vn rg lM Qa Uv TO Kr Iy IP S4 S3 cQ Lr O9 T4 WX Ta Si Ff;have Lz:Hid (∀v' Q,JH (O.drew.alloc (AK #[AA AB J,AA AB n2] 100)) (AJ (AE ⟨g2,0,AD⟩) N c) R (AH v') Q->Q.cell? ⟨p,2,AD⟩=AE (AJ (AE ⟨g2,0,AD⟩) N c)/\Q.frozen? ⟨p,2,AD⟩=false):=λv' Q hg=>by have:=Em H.out EV.out hg;exact⟨this.cell 2,this.free 2⟩
   go_wp2
   go_region_with (go_at_call 107;refine FV.out.mono ?_;rintro e Q hg;obtain⟨v',rfl,IQ,Ff,Ia⟩:=id hg;have HX:=AO (HC.out v' Q hg);obtain⟨c6,f6⟩:=Lz.out v' Q hg;obtain⟨A',c',rfl,_,_,_⟩:=DL IQ;clear hg IQ Ff Ia)
   all_goals(go_wp2;go_end0;obtain⟨G',h1,h2,h3⟩:=HX.out;exact⟨G',rfl,h1,h2,h3⟩)
  ·have rt:decide (a2=u2)=false:=by simp;omega
   have lC:(a2==u2)=false:=by simp;omega
   have lB:((a2:Int)==(u2:Int))=false:=by simp;omega
   have TS:Hid (Fv s.fr ((j+1)) (f+n')=false):=Kc λ_=>by rw[WX.out];have:=T4.out;have:=vP.out;omega
   go_wp2
   go_region_held3 (λw'=>Below wp.heap.size wp w'/\w'.cell? ⟨p,2,AD⟩=AE (AJ (AE ⟨g2,0,AD⟩) N c)/\w'.cell? ⟨w.heap.size,0,AD⟩=AE (AA AB J)/\w'.cell? ⟨w.heap.size,1,AD⟩=AE (AA AB U)/\w'.cell? ⟨g2,((j+1))*2,AD⟩=AE (AA AB a2)/\w'.cell? ⟨g2,((j+1))*2+1,AD⟩=AE (AA AB b2))
    (first
     |(exact⟨DA (AS _ _) 1,Qa,Uv,TO,S4,S3⟩)
     |(exact⟨I,(I.cell Kr).trans Qa,(I.cell IP).trans Uv,(I.cell IP).trans TO,(I.cell Iy).trans S4,(I.cell Iy).trans S3⟩))
    ((go_split_ands;go_at_call 81;(with_reducible refine(O9.out _).mono ?_);rintro e Wb ⟨rfl,ED⟩;have I:Below wp.heap.size wp Wb:=CR a9 (CV ED (CU a9))))
   have Iz:=Gw.below I IP;have PK:=AO (PI.out.trans (I.mono PI.out.size));have LH:=AO I;clear I;generalize Wb=O at*
   have Ml:=PK;have He:=Iz;go_wp2
   have RP:Hid (s.fr.take (j)++[(J,U)]++s.fr.drop ((j+1))=R):=by
    unfold Hid;rw[HR.out];unfold GN;rw[Rh a5 WC.out,TS.out];dsimp only;rw[xp.out,aw.out];simp
   have ax:w.heap.size<O.heap.size:=He.lt;have c5:O.cell? ⟨p,2,AD⟩=AE (AJ (AE ⟨g2,0,AD⟩) N c):=(H.out.2.1.below Ml.out Gi).cell 2;have b0:O.cell? ⟨w.heap.size,0,AD⟩=AE (AA AB J):=He.cell 0;have b1:O.cell? ⟨w.heap.size,1,AD⟩=AE (AA AB U):=He.cell 1;have Xh:p<O.heap.size:=a5;have EV:∀W,W=O.drew.alloc (AK #[AA AB J,AA AB U] 100)->Hid (Below w.heap.size w W):=λW e=>by subst e;exact(DA Ml.out 1).alloc (by have:=Ml.out.size;exact this) _
   have FV:∀W,W=O.drew.alloc (AK #[AA AB J,AA AB U] 100)->Hid (Calls AP 107 #[AJ (AE ⟨g2,0,AD⟩) N c,AA AB ((j:Int)),AA AB ((j:Int)+1),AJ (AE ⟨O.heap.size,0,AD⟩) 1 1] W (JH W (AJ (AE ⟨g2,0,AD⟩) N c) R)):=λW e=>by
    have NX:=Dz H.out.2.2.1 (EV W e).out;rw[HN.out]at NX;have Ih:Fo W O.heap.size 1 1 [(J,U)] [AA AB J,AA AB U]:=⟨by subst e;exact heap_alloc_new O.drew _,rfl,AQ _,a5,rfl,rfl⟩;have EP:=ES W (i:=j) (j:=(j+1)) NX Ih.own (λk hk e2=>by have h1:=(H.out.2.2.1.lt k hk).2;(have e3:O.heap.size=k:=by simpa [Bq]using e2);omega) a5 a5 a5 a5;rw[RP.out]at EP;have Fq:((j:Nat):Int)=(j:Int):=a5;have Ge:(((j+1):Nat):Int)=(j:Int)+1:=a5
    first|rw[Fq,Ge]at EP|rw[Fq]at EP
    exact EP
   have FV:=FV _ rfl;have EV:=EV _ rfl;have HC:Hid (∀v' Q,JH (O.drew.alloc (AK #[AA AB J,AA AB U] 100)) (AJ (AE ⟨g2,0,AD⟩) N c) R (AH v') Q->∃G',Ja (Q.setCell ⟨p,2,AD⟩ v') G' p {s with fr:=R}/\DJ G w (Q.setCell ⟨p,2,AD⟩ v')/\∀k,G' k->G k\/w.heap.size<=k):=λv' Q hg=>Gk H.out EV.out hg IX.out;clear TS rt lC lB vo vn rg lM Qa Uv TO Kr Iy IP S4 S3 cQ Lr O9 T4 WX Ta Si Ff;have Lz:Hid (∀v' Q,JH (O.drew.alloc (AK #[AA AB J,AA AB U] 100)) (AJ (AE ⟨g2,0,AD⟩) N c) R (AH v') Q->Q.cell? ⟨p,2,AD⟩=AE (AJ (AE ⟨g2,0,AD⟩) N c)/\Q.frozen? ⟨p,2,AD⟩=false):=λv' Q hg=>by have:=Em H.out EV.out hg;exact⟨this.cell 2,this.free 2⟩
   go_wp2
   go_region_with (go_at_call 107;refine FV.out.mono ?_;rintro e Q hg;obtain⟨v',rfl,IQ,Ff,Ia⟩:=id hg;have HX:=AO (HC.out v' Q hg);obtain⟨c6,f6⟩:=Lz.out v' Q hg;obtain⟨A',c',rfl,_,_,_⟩:=DL IQ;clear hg IQ Ff Ia)
   all_goals(go_wp2;go_end0;obtain⟨G',h1,h2,h3⟩:=HX.out;exact⟨G',rfl,h1,h2,h3⟩)
 ·have rg:decide (((j:Int)+1:Int)<(N:Int))=false:=by simp;omega
  have lM:decide ((j+1)<N)=false:=by simp;omega
  have TS:Hid (Fv s.fr ((j+1)) (f+n')=false):=Kc λhh=>by rw[HN.out]at hh;omega
  have Qa:wp.cell? ⟨p,2,AD⟩=AE (AJ (AE ⟨g0,0,AD⟩) N c):=(H.out.2.1.below PI.out Gi).cell 2;have Kr:p<wp.heap.size:=by have:=Gw.lt;omega
  go_quiet (fail)
  have He:=Gw.drewN nq;have Ml:Hid (Below w.heap.size w (wp.drewN nq)):=DA PI.out nq;generalize wp.drewN nq=O at*
  go_wp2
  have RP:Hid (s.fr.take (j)++[(J,U)]++s.fr.drop ((j+1))=R):=by
   unfold Hid;rw[HR.out];unfold GN;rw[Rh a5 WC.out,TS.out];dsimp only;rw[xp.out,aw.out];simp
  have ax:w.heap.size<O.heap.size:=He.lt;have c5:O.cell? ⟨p,2,AD⟩=AE (AJ (AE ⟨g0,0,AD⟩) N c):=(H.out.2.1.below Ml.out Gi).cell 2;have b0:O.cell? ⟨w.heap.size,0,AD⟩=AE (AA AB J):=He.cell 0;have b1:O.cell? ⟨w.heap.size,1,AD⟩=AE (AA AB U):=He.cell 1;have Xh:p<O.heap.size:=a5;have EV:∀W,W=O.drew.alloc (AK #[AA AB J,AA AB U] 100)->Hid (Below w.heap.size w W):=λW e=>by subst e;exact(DA Ml.out 1).alloc (by have:=Ml.out.size;exact this) _
  have FV:∀W,W=O.drew.alloc (AK #[AA AB J,AA AB U] 100)->Hid (Calls AP 107 #[AJ (AE ⟨g0,0,AD⟩) N c,AA AB ((j:Int)),AA AB ((j:Int)+1),AJ (AE ⟨O.heap.size,0,AD⟩) 1 1] W (JH W (AJ (AE ⟨g0,0,AD⟩) N c) R)):=λW e=>by
   have NX:=Dz H.out.2.2.1 (EV W e).out;rw[HN.out]at NX;have Ih:Fo W O.heap.size 1 1 [(J,U)] [AA AB J,AA AB U]:=⟨by subst e;exact heap_alloc_new O.drew _,rfl,AQ _,a5,rfl,rfl⟩;have EP:=ES W (i:=j) (j:=(j+1)) NX Ih.own (λk hk e2=>by have h1:=(H.out.2.2.1.lt k hk).2;(have e3:O.heap.size=k:=by simpa [Bq]using e2);omega) a5 a5 a5 a5;rw[RP.out]at EP;have Fq:((j:Nat):Int)=(j:Int):=a5;have Ge:(((j+1):Nat):Int)=(j:Int)+1:=a5
   first|rw[Fq,Ge]at EP|rw[Fq]at EP
   exact EP
  have FV:=FV _ rfl;have EV:=EV _ rfl;have HC:Hid (∀v' Q,JH (O.drew.alloc (AK #[AA AB J,AA AB U] 100)) (AJ (AE ⟨g0,0,AD⟩) N c) R (AH v') Q->∃G',Ja (Q.setCell ⟨p,2,AD⟩ v') G' p {s with fr:=R}/\DJ G w (Q.setCell ⟨p,2,AD⟩ v')/\∀k,G' k->G k\/w.heap.size<=k):=λv' Q hg=>Gk H.out EV.out hg IX.out;have Lz:Hid (∀v' Q,JH (O.drew.alloc (AK #[AA AB J,AA AB U] 100)) (AJ (AE ⟨g0,0,AD⟩) N c) R (AH v') Q->Q.cell? ⟨p,2,AD⟩=AE (AJ (AE ⟨g0,0,AD⟩) N c)/\Q.frozen? ⟨p,2,AD⟩=false):=λv' Q hg=>by have:=Em H.out EV.out hg;exact⟨this.cell 2,this.free 2⟩
  go_wp2
  go_region_with (go_at_call 107;refine FV.out.mono ?_;rintro e Q hg;obtain⟨v',rfl,IQ,Ff,Ia⟩:=id hg;have HX:=AO (HC.out v' Q hg);obtain⟨c6,f6⟩:=Lz.out v' Q hg;obtain⟨A',c',rfl,_,_,_⟩:=DL IQ;clear hg IQ Ff Ia)
  all_goals(go_wp2;go_end0;obtain⟨G',h1,h2,h3⟩:=HX.out;exact⟨G',rfl,h1,h2,h3⟩)
theorem mM(p:Nat)(s:Sp)(G:Nat->Prop)(i f n':Nat)(w:World)(h:Ja w G p s)(hi:i=EK s.fr f)(U:s.first<=f)(Q:f+n'<=s.first+s.blocks)(O:1<=n')(I:∀b,f<=b->b<f+n'->¬hasB s.fr b):
  Calls AP 82 #[AI p,i,AL #[f,n']] w λe w'=>∃G',e=AH (AM #[])/\Ja w' G' p {s with fr:=GN s.fr i f n'}/\DJ G w w'/\∀k,G' k->G k\/w<=k:=by
 by_cases Ol:0<i
 ·by_cases J:(Dd s.fr (i-1)).1+(Dd s.fr (i-1)).2=f
  ·exact tD p s G i f n' w h hi U Q O I Ol J
  ·exact tE p s G i f n' w h hi U Q O I Ol J
 ·exact tG p s G i f n' w h hi U Q O I Ol
theorem Next.refl{w G p s}(h:Ja w G p s):Next w G p s w:=Next.DE h (AS _ _)
theorem Xx(p:Nat)(s:Sp)(G:Nat->Prop)(f n:Int)(w:World)(h:Ja w G p s)(hf:Gj f)(hn:Gj n):
  Calls AP 63 #[AI p,f,n] w λe w'=>e=AH ((E5 s f n).2:Nat)/\Next w G p (E5 s f n).1 w':=by
 by_cases h1:n<1
 ·have g1:decide (n<1)=true:=by simpa using h1
  have J:E5 s f n=(s,1):=by unfold E5;rw[if_pos (.inl h1)]
  rw[J];have HN:Hid (Next w G p s w):=Next.refl h;clear h h1 J;go_enter func63,ntmps63
  go_wp2
  go_ret
  exact⟨rfl,HN.out⟩
 have g1:decide (n<1)=false:=by simpa using h1
 obtain⟨DN,v,hr,ho,hG⟩:=id h;obtain⟨A,c,rfl,aw,Fy,_⟩:=DL ho;have hlen:=DN.len;have Qv:s.first+s.blocks<=2000000:=by have:=DN.1;have:=DN.2.1;omega
 obtain⟨c0,c1,c2⟩:=hr.q3;have Gi:=hr.lt;have HH:Hid (∀W,Calls AP 79 #[AL #[s.first,s.blocks],f,n] W λe w'=>e=AH (.bool (decide ((s.first:Int)<=f)&&decide (n<=((s.first+s.blocks:Nat):Int)-f)))/\Below W W w'):=λW=>UT s.first s.blocks f n W a5 hf;by_cases h2:¬((s.first:Int)<=f/\n<=((s.first+s.blocks:Nat):Int)-f)
 ·have nK:(decide ((s.first:Int)<=f)&&decide (n<=((s.first+s.blocks:Nat):Int)-f))=false:=by
   cases hq:(decide ((s.first:Int)<=f)&&decide (n<=((s.first+s.blocks:Nat):Int)-f))with
   |false=>rfl
   |true=>simp only[Bool.and_eq_true,decide_eq_true_eq]at hq;exact absurd hq h2
  have J:E5 s f n=(s,1):=by unfold E5;rw[if_pos (.inr (.inl h2))]
  rw[J];have ji:=AO nK;have H:=AO h;generalize s.fr.length=N at*
  clear h h1 h2 J nK DN hr ho hG;go_enter func63,ntmps63
  go_wp2_with fail
  refine(HH.out _).mono ?_;rintro e w2 ⟨rfl,DT⟩;rw[ji.out];have HX:Hid (Next w G p s w2):=Next.DE H.out DT;clear DT;go_wp2
  go_ret
  exact⟨rfl,HX.out⟩
 have h2:=Classical.not_not.1 h2;obtain⟨f,rfl⟩:∃f':Nat,f=(f':Int):=⟨f.toNat,a5⟩;obtain⟨n',rfl⟩:∃n':Nat,n=(n':Int):=⟨n.toNat,a5⟩;have nK:(decide ((s.first:Int)<=(f:Int))&&decide ((n':Int)<=((s.first+s.blocks:Nat):Int)-(f:Int)))=true:=by simp only[Bool.and_eq_true,decide_eq_true_eq];exact h2
 have ji:=AO nK;have J:E5 s (f:Int) (n':Int)=if EK s.fr f<s.fr.length/\(Dd s.fr (EK s.fr f)).1<f+n' then (s,1)else ({s with fr:=GN s.fr (EK s.fr f) f n'},0):=by
  unfold E5;simp only[BY];by_cases hq:EK s.fr f<s.fr.length/\(Dd s.fr (EK s.fr f)).1<f+n'
  ·rw[if_pos hq,if_pos (.inr (.inr hq))]
  ·rw[if_neg hq,if_neg (by rintro(h3|h3|h3);exact h1 h3;exact h3 h2;exact hq h3)]
 have Kv:s.first<=f:=a5;have Gv:f+n'<=s.first+s.blocks:=a5;have jU:1<=n':=a5;have az:f+n'<=2000000:=a5;have al:=Mw DN.2.2 (f:=f) jU;have an:EK s.fr f<=s.fr.length:=Ck;have RO:Hid (∀W,Below w w W->Calls AP 80 #[AI p,f] W λe w'=>e=AH (EK s.fr f:Nat)/\Below W W w'):=λW hb=>by
  have:=Rr p s G (f:Int) W (h.below hb);rw[UN]at this;exact this
 have HJ:Hid (¬(EK s.fr f<s.fr.length/\(Dd s.fr (EK s.fr f)).1<f+n')->∀W,Below w w W->Calls AP 82 #[AI p,(EK s.fr f:Nat),AL #[f,n']] W λe w'=>e=AH (AM #[])/\Next w G p {s with fr:=GN s.fr (EK s.fr f) f n'} w'):=λhq W hb=>
  (mM p s G (EK s.fr f) f n' W (h.below hb) rfl Kv Gv jU (al.2 λU=>by
   rcases Ak (Dd s.fr (EK s.fr f)).1 (f+n')with h3|h3
   ·exact absurd ⟨U,h3⟩ hq
   ·exact h3)).mono λe w' ⟨G',h1,h2⟩=>⟨h1,Next.behind hb ⟨G',h2⟩⟩
 obtain⟨u,hu⟩:=ao (f+n');have HE:Hid (∀W,Calls AP 81 #[AL #[f,n']] W λe w'=>e=AH u/\Below W W w'):=λW=>by have:=Ip f n' W a5;rwa [hu]at this
 rw[hu]at J HJ;have RQ:Hid (∀k,k<s.fr.length->∃g,A=AE ⟨g,0,AD⟩/\g<w.heap.size/\w.cell? ⟨g,k*2,AD⟩=AE (AA AB (Dd s.fr k).1)/\w.cell? ⟨g,k*2+1,AD⟩=AE (AA AB (Dd s.fr k).2)):=λk hk=>IM ho hk;have H:=AO h;obtain⟨N,hN⟩:=ae s.fr.length;rw[<-hN]at c2 hlen an J HJ RQ;have HN:=AO hN;generalize GN s.fr (EK s.fr f) f n'=R at*
 generalize EK s.fr f=i at*
 have Qx:=λ(W:World) (hb:Below w w W)=>(hb.alloc (o:=AK #[f,n'] 100) hb.size);have jI:=AO Qx;clear h h1 h2 nK DN hr ho hG al hu Qv hN Qx Kv Gv;by_cases U:i<N
 ·obtain⟨g,rfl,hg,Jx,Li⟩:=RQ.out i U;generalize(Dd s.fr i).1=a at*
  have av:(0:Int)<=(i:Int):=a5;have au:(i:Int)<(N:Int):=a5;have gi:decide ((i:Int)<(N:Int))=true:=by simp;omega
  have aq:decide (i<N)=true:=by simp;omega
  by_cases ab:a<u
  ·have ga:decide ((a:Int)<(u:Int))=true:=by simp;omega
   have ar:decide (a<u)=true:=by simp;omega
   rw[if_pos ⟨U,ab⟩]at J;rw[J];dsimp only;clear J HJ;go_enter func63,ntmps63
   go_wp2_with fail
   refine(HH.out _).mono ?_;rintro e w2 ⟨rfl,DT⟩;rw[ji.out];have Q:=AO DT;clear DT;go_wp2_with fail
   refine(RO.out _ (jI.out _ Q.out)).mono ?_;rintro e w3 ⟨rfl,ED⟩;have Qx:Row (w2.alloc (AK #[f,n'] 100)) w2 100 [f,n']:=heap_alloc_new _ _;have Nw:=Qx.below ED a8;have O:=AO ((jI.out _ Q.out).trans (ED.mono (jI.out _ Q.out).size));obtain⟨b0,b1⟩:=Nw.q2;have cq:=(O.out.cell (p:=(p,2)) Gi).trans c2;have G9:w2.heap.size<w3.heap.size:=Nw.lt;have tW:p<w3:=by have:=O.out.size;omega
   have d0:=(O.out.cell (p:=⟨g,i*2,AD⟩) hg).trans Jx;have Ia:g<w3.heap.size:=by have:=O.out.size;omega
   clear ED Qx Nw Q RO HH ji c0 c1 c2 Jx Li;go_wp2
   go_region_held3 (λw'=>Below w3.heap.size w3 w'/\w'.cell? ⟨p,2,AD⟩=AE (AJ (AE ⟨g,0,AD⟩) N c)/\w'.cell? ⟨w2.heap.size,0,AD⟩=AE (AA AB (f:Int))/\w'.cell? ⟨w2.heap.size,1,AD⟩=AE (AA AB (n':Int))/\w'.cell? ⟨g,i*2,AD⟩=AE (AA AB (a:Int)))
    (first
     |(exact⟨DA (AS _ _) 1,cq,b0,b1,d0⟩)
     |(exact⟨I,(I.cell tW).trans cq,(I.cell G9).trans b0,(I.cell G9).trans b1,(I.cell Ia).trans d0⟩))
    ((go_split_ands;go_at_call 81;(with_reducible refine(HE.out _).mono ?_);rintro e w4 ⟨rfl,IE⟩;have I:Below w3.heap.size w3 w4:=CR a9 (CV IE (CU a9))))
   have HX:Hid (Next w G p s w4):=Next.DE H.out (O.out.trans (I.mono O.out.size));clear I;go_wp2
   go_ret
   exact⟨rfl,HX.out⟩
  ·have ga:decide ((a:Int)<(u:Int))=false:=by simp;omega
   have ar:decide (a<u)=false:=by simp;omega
   rw[if_neg (λhh=>ab hh.2)]at J;rw[J];dsimp only;have HQ:Hid (¬(i<N/\a<u)):=λhh=>ab hh.2;clear J;go_enter func63,ntmps63
   go_wp2_with fail
   refine(HH.out _).mono ?_;rintro e w2 ⟨rfl,DT⟩;rw[ji.out];have Q:=AO DT;clear DT;go_wp2_with fail
   refine(RO.out _ (jI.out _ Q.out)).mono ?_;rintro e w3 ⟨rfl,ED⟩;have Qx:Row (w2.alloc (AK #[f,n'] 100)) w2 100 [f,n']:=heap_alloc_new _ _;have Nw:=Qx.below ED a8;have O:=AO ((jI.out _ Q.out).trans (ED.mono (jI.out _ Q.out).size));obtain⟨b0,b1⟩:=Nw.q2;have cq:=(O.out.cell (p:=(p,2)) Gi).trans c2;have G9:w2.heap.size<w3.heap.size:=Nw.lt;have tW:p<w3:=by have:=O.out.size;omega
   have d0:=(O.out.cell (p:=⟨g,i*2,AD⟩) hg).trans Jx;have Ia:g<w3.heap.size:=by have:=O.out.size;omega
   clear ED Qx Nw Q RO HH ji c0 c1 c2 Jx Li;go_wp2
   go_region_held3 (λw'=>Below w3.heap.size w3 w'/\w'.cell? ⟨p,2,AD⟩=AE (AJ (AE ⟨g,0,AD⟩) N c)/\w'.cell? ⟨w2.heap.size,0,AD⟩=AE (AA AB (f:Int))/\w'.cell? ⟨w2.heap.size,1,AD⟩=AE (AA AB (n':Int))/\w'.cell? ⟨g,i*2,AD⟩=AE (AA AB (a:Int)))
    (first
     |(exact⟨DA (AS _ _) 1,cq,b0,b1,d0⟩)
     |(exact⟨I,(I.cell tW).trans cq,(I.cell G9).trans b0,(I.cell G9).trans b1,(I.cell Ia).trans d0⟩))
    ((go_split_ands;go_at_call 81;(with_reducible refine(HE.out _).mono ?_);rintro e w4 ⟨rfl,IE⟩;have I:Below w3.heap.size w3 w4:=CR a9 (CV IE (CU a9))))
   have ad:=AO (HJ.out HQ.out w4 (O.out.trans (I.mono O.out.size)));have ay:=(I.cell (p:=w2) G9).trans b0;have ax:=(I.cell (p:=(w2,1)) G9).trans b1;clear I b0 b1 cq d0;go_wp2_with fail
   refine ad.out.mono ?_;rintro e w5 ⟨rfl,hx⟩;have HX:=AO hx;clear hx;go_wp2
   go_ret
   exact⟨rfl,HX.out⟩
 ·have gi:decide ((i:Int)<(N:Int))=false:=by simp;omega
  have aq:decide (i<N)=false:=by simp;omega
  rw[if_neg (λhh=>U hh.1)]at J;rw[J];dsimp only;have HQ:Hid (¬(i<N/\(Dd s.fr i).1<u)):=λhh=>U hh.1;clear J;go_enter func63,ntmps63
  go_wp2_with fail
  refine(HH.out _).mono ?_;rintro e w2 ⟨rfl,DT⟩;rw[ji.out];have Q:=AO DT;clear DT;go_wp2_with fail
  refine(RO.out _ (jI.out _ Q.out)).mono ?_;rintro e w3 ⟨rfl,ED⟩;have Qx:Row (w2.alloc (AK #[f,n'] 100)) w2 100 [f,n']:=heap_alloc_new _ _;have Nw:=Qx.below ED a8;have O:=AO ((jI.out _ Q.out).trans (ED.mono (jI.out _ Q.out).size));obtain⟨b0,b1⟩:=Nw.q2;have cq:=(O.out.cell (p:=(p,2)) Gi).trans c2;have G9:w2.heap.size<w3.heap.size:=Nw.lt;have tW:p<w3:=by have:=O.out.size;omega
  clear ED Qx Nw Q RO HH ji c0 c1 c2;go_wp2
  go_quiet (fail)
  have ad:=AO (HJ.out HQ.out (w3.drewN nq) (DA O.out nq));go_wp2_with fail
  refine ad.out.mono ?_;rintro e w5 ⟨rfl,hx⟩;have HX:=AO hx;clear hx;go_wp2
  go_ret
  exact⟨rfl,HX.out⟩
def QN(s:Sp)(k n:Nat):Prop:=∀b,k<=b->b<k+n->hasB s.fr b
structure jA (s s':Sp) (a n:Nat):Prop where
 room:QN s a n
 first:s'.first=s.first
 blocks:s'.blocks=s.blocks
 has:∀b,hasB s'.fr b↔hasB s.fr b/\¬(a<=b/\b<a+n)
 sum:EI s'.fr+n=EI s.fr
 ok:s'.ok
theorem Wj{s i a n}(h:s.ok)(hi:i<s.fr.length)(J:(Dd s.fr i).1<=a)(I:a+n<=(Dd s.fr i).1+(Dd s.fr i).2)(e:1<=n):jA s {s with fr:=LX s.fr i a n} a n:=by
 obtain⟨U,Q,O⟩:=YC h.2.2 hi J I e;exact⟨λb hb DT=>⟨_,RI hi,a5,a5⟩,rfl,rfl,Q,O,h.1,h.2.1,U⟩
theorem Y9{s}(h:s.ok){n:Nat}(I:1<=n):(∃s' a,GW s n=(s',a,0)/\jA s s' a n/\∀k,QN s k n->a<=k)\/(GW s n=(s,0,5)/\∀k,¬QN s k n):=by
 unfold GW;rw[if_neg a5,BY];by_cases e:JD s.fr n<s.fr.length
 ·rw[if_pos e];obtain⟨O,J⟩:=iJ h.2.2 I e;exact .inl ⟨_,_,rfl,Wj h e ar a5 I,J⟩
 ·rw[if_neg e];exact .inr ⟨rfl,λk=>oH h.2.2 I a5 k⟩
theorem SW{s}(h:s.ok)(f n:Int):(∃s' a m,f=(a:Nat)/\n=(m:Nat)/\1<=m/\MN s f n=(s',0)/\jA s s' a m)\/(MN s f n=(s,1)/\∀a m:Nat,f=a->n=m->1<=m->¬QN s a m):=by
 unfold MN;by_cases J:n<1
 ·rw[if_pos J];exact .inr ⟨rfl,λa m _ e hm=>by omega⟩
 ·rw[if_neg J];by_cases I:Gr s.fr f<s.fr.length/\((Dd s.fr (Gr s.fr f)).1:Int)<=f/\n<=(((Dd s.fr (Gr s.fr f)).1+(Dd s.fr (Gr s.fr f)).2:Nat):Int)-f
  ·rw[if_pos I];obtain⟨a,rfl⟩:∃a:Nat,f=(a:Int):=⟨f.toNat,a5⟩;obtain⟨m,rfl⟩:∃m:Nat,n=(m:Int):=⟨n.toNat,a5⟩;simp only[BY];exact .inl ⟨_,a,m,rfl,rfl,a5,rfl,Wj h I.1 a5 a5 a5⟩
  ·rw[if_neg I];refine .inr ⟨rfl,λa m Q hm h1 O=>I ?_⟩;subst Q;subst hm;rw[UN];obtain⟨U,h3,h4⟩:=Zd h.2.2 h1 O;exact⟨U,a5,a5⟩
structure AW0 (s s':Sp) (a n:Nat):Prop where
 lo:s.first<=a
 hi:a+n<=s.first+s.blocks
 AD:∀b,a<=b->b<a+n->¬hasB s.fr b
 first:s'.first=s.first
 blocks:s'.blocks=s.blocks
 has:∀b,hasB s'.fr b↔hasB s.fr b\/(a<=b/\b<a+n)
 sum:EI s'.fr=EI s.fr+n
 ok:s'.ok
theorem Jj{s}(h:s.ok)(f n:Int):(∃s' a m,f=(a:Nat)/\n=(m:Nat)/\1<=m/\E5 s f n=(s',0)/\AW0 s s' a m)\/
  (E5 s f n=(s,1)/\∀a m:Nat,f=a->n=m->1<=m->¬(s.first<=a/\a+m<=s.first+s.blocks/\∀b,a<=b->b<a+m->¬hasB s.fr b)):=by
 unfold E5;by_cases e:n<1\/¬((s.first:Int)<=f/\n<=((s.first+s.blocks:Nat):Int)-f)\/(EK s.fr f.toNat<s.fr.length/\(Dd s.fr (EK s.fr f.toNat)).1<f.toNat+n.toNat)
 ·rw[if_pos e];refine .inr ⟨rfl,λa m Q hm O hh=>?_⟩;subst Q;subst hm;simp only[BY]at e;rcases e with e|e|e
  ·omega
  ·exact e ⟨a5,a5⟩
  ·have:=(Mw h.2.2 O).1 hh.2.2 e.1;omega
 ·rw[if_neg e];have O:¬n<1:=λh=>e (.inl h);have h2:(s.first:Int)<=f/\n<=((s.first+s.blocks:Nat):Int)-f:=Classical.not_not.1 λh=>e (.inr (.inl h));obtain⟨a,rfl⟩:∃a:Nat,f=(a:Int):=⟨f.toNat,a5⟩;obtain⟨m,rfl⟩:∃m:Nat,n=(m:Int):=⟨n.toNat,a5⟩;simp only[BY]at e⊢;have I:∀b,a<=b->b<a+m->¬hasB s.fr b:=(Mw h.2.2 a5).2 λJ=>by
   rcases Ak (Dd s.fr (EK s.fr a)).1 (a+m)with h3|h3
   ·exact absurd (.inr (.inr ⟨J,h3⟩)) e
   ·exact h3
  obtain⟨c1,c2,U⟩:=My h.2.2 (show 1<=m by omega) (show s.first<=a by omega) a5 I;exact .inl ⟨_,a,m,rfl,rfl,a5,rfl,⟨a5,a5,I,rfl,rfl,c2,U,h.1,h.2.1,c1⟩⟩
theorem kR(k r:Nat):qC (k+1) r=st (qC k r):=by
 rw[show k+1=1+k by omega,kT];rfl
theorem sn(r c:Nat)(w:World)(U:r<4294967296)(hc:c<256):
  Calls AP 136 #[.int .u32 r,.int .u32 c] w λe w'=>e=AH (.int .u32 (so r c))/\w=w':=by
 have Q:=u32_xor_nat r c U a5;have HX:=AO Q;have h0:r^^^c<4294967296:=Nat.xor_lt_two_pow (n:=32) U a5;clear Q;go_enter func136,ntmps136
 go_wp2
 rw[HX.out];go_loop [0,9] (λnv J=>∃k n:Nat,k<=8/\n<4294967296/\J=AA AB k/\nv=.int .u32 n/\Hid (n=qC k (r^^^c))) (λ_ J=>8-(BF J).toNat)
 case atStart=>exact⟨0,_,a5,h0,rfl,rfl,rfl⟩
 case round=>
  obtain⟨k,n,hk,hn,rfl,rfl,HN⟩:=hrel;by_cases ab:k<8
  ·have hand:bits .and .u32 (n:Int) 1=((n%2:Nat):Int):=by
    have h:=u32_and_nat n 1 hn a6;rwa [Nat.and_one_is_mod]at h
   have hdiv:IntKind.u32.wrap ((n:Int)/2)=((n/2:Nat):Int):=by rw[IntKind.wrap_u32'];omega
   have O:=AO (u32_xor_nat (n/2) 3988292384 a5 a6);have HS:Hid (∀m,m=st n->m=qC (k+1) (r^^^c)):=λm hm=>by rw[hm,kR,HN.out]
   have HL:Hid (st n<4294967296):=ve hn;by_cases I:n%2=1
   ·have g:(bits .and .u32 (n:Int) 1==1)=true:=by rw[hand,I];rfl
    clear hand hdiv;go_wp2
    go_round
    case rel=>exact⟨k+1,n/2^^^3988292384,a5,by have:=HL.out;unfold st at this;rwa [if_pos I]at this,by go_num,congrArg (BZ .u32) O.out,HS.out _ (by unfold st;rw[if_pos I])⟩
    case measure=>simp[BF];omega
   ·have g:(bits .and .u32 (n:Int) 1==1)=false:=by rw[hand,show n%2=0 by omega];rfl
    clear hand hdiv;go_wp2
    go_round
    case rel=>exact⟨k+1,n/2,a5,a5,by go_num,rfl,HS.out _ (by unfold st;rw[if_neg I])⟩
    case measure=>simp[BF];omega
  ·obtain rfl:k=8:=a5;go_wp2
   go_ret
   exact⟨RA (by rw[HN.out];rfl),rfl⟩
theorem cy(s:Nat)(I:s<4294967296):bits .xor .u32 IntKind.u32.max (s:Int)=(cm s:Int):=by
 rw[show IntKind.u32.max=4294967295 by decide];have h:=u32_xor_nat 4294967295 s a6 I;have e:cm s=4294967295^^^s:=by unfold cm cmx top;exact Eq.refl _
 rw[e];exact h
theorem Oa(s x:Nat)(w:World)(Q:s<4294967296)(hx:x<18446744073709551616):
  Calls AP 117 #[.int .u32 s,.int .u64 x] w λe w'=>e=AH (.int .u32 (nx s x))/\w=w':=by
 have HX:=AO (cy s Q);have h0:cm s<4294967296:=cX Q;go_enter func117,ntmps117
 go_wp2
 rw[HX.out];go_loop [1,5,8] (λxv rv I=>∃k y r:Nat,k<=8/\r<4294967296/\y<18446744073709551616/\I=AA AB k/\xv=.int .u64 y/\rv=.int .u32 r/\Hid (wd (8-k) r y=wd 8 (cm s) x)) (λ_ _ I=>8-(BF I).toNat)
 case atStart=>exact⟨0,x,_,a5,h0,hx,rfl,rfl,rfl,rfl⟩
 case round=>
  obtain⟨k,y,r,hk,J,hy,rfl,rfl,rfl,U⟩:=hrel;by_cases ab:k<8
  ·have hb:bits .and .u64 (y:Int) 255%4294967296=((y%256:Nat):Int):=by
    have h:=u64_and_nat y 255 hy a6;rw[show (255:Nat)=2^8-1 from rfl,Nat.and_two_pow_sub_one_eq_mod]at h;have O:bits .and .u64 (y:Int) 255=((y%256:Nat):Int):=h;rw[O];omega
   have HB:=AO hb;clear hb;have HS:Hid (wd (8-(k+1)) (so r (y%256)) (y/256)=wd 8 (cm s) x):=by
    have h:=U.out;rw[show 8-k=(8-(k+1))+1 by omega]at h;exact h
   have HL:=br J (show y%256<256 by omega);go_wp2_with fail
   rw[HB.out];refine(sn r (y%256) _ J a5).mono ?_;rintro e w' ⟨rfl,rfl⟩;go_wp2
   go_round
   case rel=>exact⟨k+1,y/256,_,a5,HL,a5,by go_num,by go_num,rfl,HS.out⟩
   case measure=>simp[BF];omega
  ·obtain rfl:k=8:=a5;have HC:Hid (bits .xor .u32 IntKind.u32.max (r:Int)=(nx s x:Int)):=by
    have h:=U.out;unfold Hid;rw[cy r J];have O:r=wd 8 (cm s) x:=h;rw[O];exact Eq.refl _
   go_wp2
   go_ret
   exact⟨RA HC.out,rfl⟩
theorem bQ{l:List Nat}{n k c}(I:l.length=n)(J:k<n)(e:c=l.getD k 0):nx (sm (l.take k)) c=sm (l.take (k+1)):=by
 rw[List.take_succ_eq_append_getElem a5,VI,e,AT,AU a5];exact Eq.refl _
theorem rW(a:Option Addr)(n cap:Nat)(l:List Nat)(w:World){B}(Q:Reads .u64 w B a n l)(hn:n<=1000000):
  Calls AP 116 #[AJ a n cap] w λe w'=>e=AH (.int .u32 (sm l))/\w=w':=by
 have Gg:=AO Q.1;go_enter func116,ntmps116
 go_wp2
 go_loop [3,8] (λsv J=>∃k s:Nat,k<=n/\s<4294967296/\J=AA AB k/\sv=.int .u32 s/\Hid (s=sm (l.take k))) (λ_ J=>n-(BF J).toNat)
 case atStart=>exact⟨0,0,a5,a5,rfl,rfl,rfl⟩
 case round=>
  obtain⟨k,s,hk,O,rfl,rfl,U⟩:=hrel;by_cases I:k<n
  ·obtain⟨b,o,c,rfl,hb,hc,hw,HC⟩:=Q.at_ I;have zl:=Ra hw;have HS:Hid (nx s c=sm (l.take (k+1))):=by
    unfold Hid;rw[U.out];exact bQ Gg.out I HC.out
   have HL:=XP c O;go_wp2_with fail
   refine(Oa s c _ O zl).mono ?_;rintro e w' ⟨rfl,rfl⟩;go_wp2
   go_round
   case rel=>exact⟨k+1,_,a5,HL,by go_num,rfl,HS.out⟩
   case measure=>simp[BF];omega
  ·obtain rfl:k=n:=a5;go_wp2
   go_ret
   exact⟨RA (by rw[U.out,Ay (by have:=Gg.out;omega)]),rfl⟩
def SH(s a:Int):Bool:=decide (8<=s)&&decide (s<=256)&&decide (0<=a)
theorem bh(s a:Int)(w:World):Calls AP 100 #[s,a] w λe w'=>e=AH (.bool (SH s a))/\w=w':=by
 by_cases O:8<=s
 ·have U:decide (s≥8)=true:=by simpa using O
  by_cases J:s<=256
  ·have Q:decide (s<=256)=true:=by simpa using J
   have I:Hid (SH s a=decide (a≥0)):=by unfold Hid SH;simp[O,J]
   rw[I.out];go_enter func100,ntmps100
   go_wp2
   go_ret
   exact⟨rfl,rfl⟩
  ·have Q:decide (s<=256)=false:=by simp;omega
   have I:Hid (SH s a=false):=by unfold Hid SH;simp[J]
   rw[I.out];go_enter func100,ntmps100
   go_wp2
   go_ret
   exact⟨rfl,rfl⟩
 ·have U:decide (s≥8)=false:=by simp;omega
  have I:Hid (SH s a=false):=by unfold Hid SH;simp[O]
  rw[I.out];go_enter func100,ntmps100
  go_wp2
  go_ret
  exact⟨rfl,rfl⟩
theorem yS(l:List Nat)(a b:Nat):nx (nx (sm l) a) b=sm (l++[a,b]):=by
 rw[<-VI,<-VI];simp
theorem UQ(a:Option Addr)(n cap:Nat)(l:List Nat)(num ad:Nat)(w:World){B}(hl:Reads .u64 w B a n l)(hn:n<=1000000)(Xl:num<4294967296)(ab:ad<=9223372036854775807):
  Calls AP 101 #[AJ a n cap,.int .u64 num,ad] w λe w'=>e=AH (.int .u64 (Ht l num ad))/\w=w':=by
 have Gg:=AO hl.1;have hs0:=UH l;have Gp:=XP num hs0;have G9:=XP ad Gp;have Lw:Hid (nx (nx (sm l) num) ad=sm (l++[num,ad])):=yS l num ad;have U:Hid (bits .or .u64 ((num:Int)*4294967296) (IntKind.u64.wrap ((sm (l++[num,ad]):Nat):Int))=(Ht l num ad:Int)):=by
  unfold Hid;have e:IntKind.u64.wrap ((sm (l++[num,ad]):Nat):Int)=((sm (l++[num,ad]):Nat):Int):=by
   have:=UH (l++[num,ad]);exact IntWalk.u64_in _ a5
  rw[e];have h:=u64_or_nat (num*4294967296) (sm (l++[num,ad])) a5 (by have:=UH (l++[num,ad]);omega);rw[sq]at h;rw[<-h];simp
 go_enter func101,ntmps101
 go_wp2_with fail
 refine(rW AD 0 0 [] w (B:=0) ⟨rfl,a8,λh=>absurd h a5⟩ a5).mono ?_;rintro e w' ⟨rfl,rfl⟩;go_wp2
 go_loop [7,13] (λsv O=>∃k s:Nat,k<=n/\s<4294967296/\O=AA AB k/\sv=.int .u32 s/\Hid (s=sm (l.take k))) (λ_ O=>n-(BF O).toNat)
 case atStart=>exact⟨0,0,a5,a5,rfl,rfl,rfl⟩
 case round=>
  obtain⟨k,s,hk,J,rfl,rfl,HN⟩:=hrel;by_cases I:k<n
  ·obtain⟨b,o,c,rfl,hb,hc,hw,HC⟩:=hl.at_ I;have zl:=Ra hw;have HS:Hid (nx s c=sm (l.take (k+1))):=by
    unfold Hid;rw[HN.out];exact bQ Gg.out I HC.out
   have HL:=XP c J;go_wp2_with fail
   refine(Oa s c _ J zl).mono ?_;rintro e w' ⟨rfl,rfl⟩;go_wp2
   go_round
   case rel=>exact⟨k+1,_,a5,HL,by go_num,rfl,HS.out⟩
   case measure=>simp[BF];omega
  ·obtain rfl:k=n:=a5;have Q:Hid (s=sm l):=by
    unfold Hid;rw[HN.out,Ay (by have:=Gg.out;omega)]
   go_wp2_with fail
   refine(Oa s num _ J a5).mono ?_;rintro e w' ⟨rfl,rfl⟩;go_wp2_with fail
   refine(Oa (nx s num) ad _ (XP num J) a5).mono ?_;rintro e w' ⟨rfl,rfl⟩;have HF:Hid (nx (nx s num) ad=sm (l++[num,ad])):=by unfold Hid;rw[Q.out];exact Lw.out
   rw[HF.out];go_wp2
   go_ret
   exact⟨RA U.out,rfl⟩
theorem dV(x:Nat)(w:World):Calls AP 135 #[.int .u64 x] w λe w'=>e=AH (.bool (decide (x≠0)))/\w=w':=by
 by_cases h:x=0
 ·subst h;go_enter func135,ntmps135
  go_wp2
  go_ret
  exact⟨rfl,rfl⟩
 ·have I:Hid (decide (x≠0)=true):=by unfold Hid;simpa using h
  rw[I.out];have g:((x:Int) !=0)=true:=by simp;omega
  go_enter func135,ntmps135
  go_wp2
  go_ret
  exact⟨rfl,rfl⟩
def J6(l:List Nat):Bool:=decide (∀x∈l,x=0)
theorem mU(a:Option Addr)(n cap:Nat)(l:List Nat)(w:World){B}(hl:Reads .u64 w B a n l)(hn:n<=1000000):
  Calls AP 146 #[AJ a n cap,.func (.func 135) #[] #[]] w λe w'=>(J6 l=true/\e=AH (AA AB (-1))/\w=w')\/(J6 l=false/\∃i:Nat,e=AH i/\w=w'):=by
 have Gg:=AO hl.1;go_enter func146,ntmps146
 go_wp2
 go_loop [5,8] (λ_ U=>∃k:Nat,k<=n/\U=AA AB k/\Hid (∀x∈l.take k,x=0)) (λ_ U=>n-(BF U).toNat)
 case atStart=>exact⟨0,a5,rfl,by unfold Hid;simp⟩
 case round=>
  obtain⟨k,hk,rfl,HN⟩:=hrel;by_cases ab:k<n
  ·obtain⟨b,o,c,rfl,hb,hc,hw,HC⟩:=hl.at_ ab;have O:=dV c w;by_cases J:c=0
   ·have HS:Hid (∀x∈l.take (k+1),x=0):=by
     intro x I;have Q:k<l.length:=by have:=Gg.out;omega
     rw[List.take_succ_eq_append_getElem Q]at I;rcases Ah.1 I with I|I
     ·exact HN.out x I
     ·simp at I;have:=HC.out;rw[AT,AU Q]at this;rw[I,<-J,this];rfl
    have hd:decide (c≠0)=false:=by simpa using J
    rw[hd]at O;have GR:=AO O;clear O hd J;go_wp2_with fail
    refine GR.out.mono ?_;rintro e w' ⟨rfl,rfl⟩;go_wp2
    go_round
    case rel=>exact⟨k+1,a5,by go_num,HS.out⟩
    case measure=>simp[BF];omega
   ·have HZ:Hid (J6 l=false):=by
     unfold Hid J6;rw[decide_eq_false_iff_not];intro h;have Q:k<l.length:=by have:=Gg.out;omega
     have h1:=h l[k] (CO Q);have:=HC.out;rw[AT,AU Q]at this;exact J (by rw[this];exact h1)
    have hd:decide (c≠0)=true:=by simpa using J
    rw[hd]at O;have GR:=AO O;clear O hd J;go_wp2_with fail
    refine GR.out.mono ?_;rintro e w' ⟨rfl,rfl⟩;go_wp2
    go_ret
    exact .inr ⟨HZ.out,k,rfl,rfl⟩
  ·have HZ:Hid (J6 l=true):=by
    unfold Hid J6;rw[decide_eq_true_eq];have h:=HN.out;rwa [Ay (by have:=Gg.out;omega)]at h
   go_wp2
   go_ret
   exact .inl ⟨HZ.out,rfl,rfl⟩
theorem oX(a:Option Addr)(n cap:Nat)(l:List Nat)(w:World){B}(U:Reads .u64 w B a n l)(Q:n<=1000000):
  Calls AP 134 #[AJ a n cap,.func (.func 135) #[] #[]] w λe w'=>e=AH (.bool (!J6 l))/\w=w':=by
 have J:=mU a n cap l w U Q
 cases I:J6 l with
 |true=>
  rw[I]at J;have O:=AO J;clear J I;go_enter func134,ntmps134
  go_wp2_with fail
  refine O.out.mono ?_;rintro e w' (⟨_,rfl,rfl⟩|⟨I,_⟩)
  ·go_wp2
   go_ret
   exact⟨rfl,rfl⟩
  ·cases I
 |false=>
  rw[I]at J;have O:=AO J;clear J I;go_enter func134,ntmps134
  go_wp2_with fail
  refine O.out.mono ?_;rintro e w' (⟨I,_⟩|⟨_,i,rfl,rfl⟩)
  ·cases I
  ·have hi:decide ((i:Int)≥0)=true:=a8;go_wp2
   go_ret
   exact⟨rfl,rfl⟩
theorem ox(a:Option Addr)(n cap:Nat)(l:List Nat)(w:World){B}(Q:Reads .u64 w B a n l)(O:n<=1000000):
  Calls AP 115 #[AJ a n cap] w λe w'=>e=AH (.bool (J6 l))/\w=w':=by
 have I:=oX a n cap l w Q O
 cases hz:J6 l with
 |true=>
  rw[hz]at I;have J:=AO I;clear I hz;go_enter func115,ntmps115
  go_wp2_with fail
  refine J.out.mono ?_;rintro e w' ⟨rfl,rfl⟩;go_wp2
  go_ret
  exact⟨rfl,rfl⟩
 |false=>
  rw[hz]at I;have J:=AO I;clear I hz;go_enter func115,ntmps115
  go_wp2_with fail
  refine J.out.mono ?_;rintro e w' ⟨rfl,rfl⟩;go_wp2
  go_ret
  exact⟨rfl,rfl⟩
theorem QO:(AP.info? 120).map (λi=>(i.zero,i.size,i.bytes))=AE (AE (.int .u64 0),1,8):=a7
theorem vg:(AP.info? 120).map (·.size)=AE 1:=a7
theorem fJ(w:World)(e:TypeId):(w.alloc (AK #[] e)).ownsRow w e 1 (AJ w 0 0) 0 []:=
 ⟨rfl,.inr ⟨w.heap.size,0,#[],rfl,AQ _,heap_alloc_new _ _,AQ _,Ao _,rfl,rfl⟩⟩
theorem Y6(A:Option Addr)(n c:Nat)(l:List Nat)(w:World){B}(I:Reads .u64 w B A n l)(Q:A≠AD)(PR:n<=1000000)(hB:B<=w):
  Calls AP 104 #[AJ A n c] w λe w'=>∃v,e=AH v/\w'.ownsRow w 120 1 v n (l.map λx:Nat=>BZ .u64 x)/\Below w w w':=by
 obtain⟨U,hi,Fa,FJ,KU⟩:=info_parts QO;rcases A with _|⟨b,off,z⟩
 ·exact absurd rfl Q
 have HL:=AO I;have J:=AO I.1;clear I Q;have hq:=λw=>Go.Lib.run_eql_slice_nil (P:=AP) w 116 120 (AE ⟨b,off,z⟩) n c 0 0 Be;go_enter func104,ntmps104
 go_wp2_with (with_reducible refine EW 7 ?_)
 unfold Hid;refine Jc _ rfl _ _ 116 rfl w 120 U (.int .u64 0) 8 Be hi Fa FJ KU rfl _ 0 [] rfl (fJ w 120) (AE ⟨b,off,z⟩) n c (l.map λx:Nat=>BZ .u64 x) rfl (by rw[Ai];exact J.out) (HL.out.GQ ((AS _ w).alloc a5 _:Below B w _)).source Ut a5 a5 a8 ?_;intro v' w' O hb;rw[BM,BL]at O;have HO:=AO O;have HB:=AO (((AS w w).alloc ar _).trans hb);clear O hb;go_wp2
 go_ret
 exact⟨v',rfl,HO.out,HB.out⟩
def vw(x:Nat):Value:=.int .u64 x
theorem map_set(l:List Nat)(k x:Nat):(l.map vw).set k (vw x)=(l.set k x).map vw:=by rw[List.map_set]
theorem fh(size:Nat)(l:List Nat):splice (BC size (BZ .u64 0)) 0 (l.map vw)=(l++BC (size-l.length) 0).map vw:=by
 unfold splice;rw[Bs,BL,BM,Ai,List.drop_replicate,Cn,List.map_replicate];rfl
theorem sk{size tag l}(h:l.length<=size-2)(J:2<=size):(l++BC (size-l.length) 0).set (size-2) tag=Ez size tag l++[0]:=by
 have e:BC (size-l.length) 0=BC (size-2-l.length) 0++[0,0]:=by
  rw[show size-l.length=size-2-l.length+2 by omega,<-List.replicate_append_replicate];rfl
 rw[e,<-AR,Ap _ _ (by simp;omega)];have I:size-2-(l++BC (size-2-l.length) 0).length=0:=by rw[Aa,List.length_replicate];omega
 rw[I];unfold Ez;rw[AR (l++ _)];rfl
theorem mH{size z F}(h:F.length=size-1):(F++[0]).set (size-1) z=F++[z]:=by
 rw[Ap _ _ a5,h,As];rfl
theorem MF{l:List Nat}{k}(h:k<l.length):(l.map vw)[k]?=AE (.int .u64 (l.getD k 0:Nat)):=by
 rw[Bk,AU h,AT,AU h];rfl
theorem Row.words{w g n t}{l:List Nat}(h:Row w g t (l.map vw))(I:n<=l.length)(hu:∀x∈l,(Cp .u64 (x:Nat)).wf=true):Reads .u64 w w g n (l.take n):=
 h.reads (by rw[AZ];omega) (λx e=>hu x (Bw e)) (λi hi=>by
  rw[MF a5]
  congr 2
  rw[AT,AT,At,if_pos hi]) h.lt
theorem yd(size ad tag:Nat)(a:Option Addr)(n c:Nat)(l:List Nat)(w:World){B}(hl:Reads .u64 w B a n l)(hB:B<=w)(h8:8<=size)(aD:size<=256)(al:ad<=9223372036854775807)(ht:tag<18446744073709551616)(hn:n<=size-2):
  Calls AP 76 #[size,ad,.int .u64 tag,AJ a n c] w λe w'=>e=AH (AM #[AJ w size size,()])/\Row w' w 120 ((Gq size ad tag l).map vw)/\Below w w w':=by
 obtain⟨i0,hi,Fa,FJ,KU⟩:=info_parts QO;have hlen:=hl.1;have hu:NO l:=λx O=>Ra (hl.2.1 x O);have HM:Hid (∀w,Calls AP 100 #[size,ad] w λe w'=>e=AH true/\w=w'):=λw=>by
  have h:=bh size ad w;have e:SH size ad=true:=by unfold SH;simp;omega
  rwa [e]at h
 obtain⟨I,Gp⟩:=ae (size-1);obtain⟨J,G9⟩:=ae (size-2);obtain⟨num,Xl⟩:=ae (n+1);have b1:I+1<=size/\size<=I+1:=a5;have b2:J+2<=size/\size<=J+2:=a5;have b3:num<=n+1/\n+1<=num:=a5;have aE:(size:Int)-1=(I:Int):=a5;have aR:(size:Int)-2=(J:Int):=a5;have MX:(n:Int)+1=(num:Int):=a5;have hg:decide ((n:Int)>(J:Int))=false:=by simp;omega
 have av:Hid (∀cs:List Value,cs=l.map vw->splice (BC size (BZ .u64 0)) 0 cs=(l++BC (size-l.length) 0).map vw):=by
  rintro cs rfl;exact fh size l
 have aq:Hid (((l++BC (size-l.length) 0).map vw).set J (vw tag)=(Ez size tag l++[0]).map vw):=by
  unfold Hid;rw[map_set,G9,sk a5 a5]
 have hF:=Pz (tag:=tag) (pl:=l) (size:=size) a5 a5;have Qf:Hid (∀z,((Ez size tag l++[0]).map vw).set I (vw z)=(Ez size tag l++[z]).map vw):=by
  intro z;rw[map_set,Gp,mH hF]
 have xe:Hid (Gq size ad tag l=Ez size tag l++[Ht (Ez size tag l) num ad]):=by
  unfold Hid Gq;rw[hlen,Xl]
 have ao:=AO (Ue (size:=size) hu ht);have au:Hid ((l++BC (size-l.length) 0).length=size):=by unfold Hid;simp;omega
 have pW:Hid ((Ez size tag l).length=I):=by unfold Hid;rw[hF,Gp]
 have HL:=AO hl;have Q:=AO hlen;rw[xe.out];generalize ab:Ht (Ez size tag l) num ad=z;have an:=AO ab;clear ab;generalize l++BC (size-l.length) 0=L1 at*
 generalize Ez size tag l=F at*
 clear hF Gp G9 Xl hlen hl hu xe;have hcut:=λW=>Fh (P:=AP) W 116 120 i0 Be hi w size size I a5 AB (I:Int) rfl;go_enter func76,ntmps76
 go_wp2_with fail
 refine(HM.out _).mono ?_;rintro e w1 ⟨rfl,rfl⟩;go_wp2_with (with_reducible refine EW 23 ?_)
 unfold Hid;refine JA _ rfl _ _ 116 rfl 120 i0 (.int .u64 0) Be hi Fa FJ rfl AB AB _ _ size rfl rfl rfl rfl (by rw[KU];omega) a5 ?_;intro w2 EC DT G9;have O8:=AO EC;have U:=AO DT;clear EC DT G9;go_wp2_with (with_reducible refine EW 26 ?_)
 unfold Hid;have QD:=AO ((HL.out.GQ (B:=B) (w':=w2) ⟨U.out.os,U.out.tape,U.out.output,by have:=U.out.size;omega,λk hk=>U.out.block k a5⟩).source);refine Ed rfl _ _ 116 116 rfl 120 Be vg a6 w a size size n c rfl rfl w 0 _ 120 O8.out (l.map vw) (by rw[Ai,Q.out,Cm];exact(Bi a5).symm) (λh0=>⟨rfl,QD.out (by have:=Q.out;rw[Ai]at h0;omega)⟩) (by rw[Ai,List.length_replicate,Q.out];omega) (λv hv=>by obtain⟨x,_,rfl⟩:=Av.1 hv;rfl) ?_;intro w3 FT Om;have IG:Hid (Row w3 w 120 (L1.map vw)):=by
  have h:=FT.out;rwa [av.out _ rfl]at h
 have Ei:=AO (U.out.trans (Om.out.below (by have:=U.out.size;exact this) (λb hb=>by rw[hb];exact AQ _)));clear FT Om;have aC:w3.cell? (w,J)=AE (.int .u64 (L1.getD J 0:Nat)):=by
  rw[IG.out.cell];exact MF (by have:=au.out;omega)
 have cA:=IG.out.free J;have ax:(0:Int)<=(J:Int):=a5;have aw:(J:Int)<(size:Int):=a5;have az:(0:Int)<=(I:Int):=a5;have ay:(I:Int)<(size:Int):=a5;have dM:Hid (Row (w3.setCell (w,J) (.int .u64 tag)) w 120 ((F++[0]).map vw)):=by
  have h:=IG.out.set J (vw tag);rw[aq.out]at h;exact h
 have PL:Hid (Below w w (w3.setCell (w,J) (.int .u64 tag))):=Ei.out.setCell ar _;go_wp2_with fail
 have Lx:=AO (dM.out.words (n:=I) (by have:=pW.out;simp;omega) (λx O=>by
  rcases Ah.1 O with O|O
  ·exact PY (ao.out x O)
  ·simp at O;subst O;exact PY a6))
 have PW:Hid ((F++[0]).take I=F):=by unfold Hid;rw[<-pW.out];exact List.take_left' rfl
 generalize w3.setCell (w.heap.size,J) (.int .u64 tag)=w4 at*
 rw[PW.out]at Lx;refine(UQ w I size F num ad w4 Lx.out a5 a5 al).mono ?_;rintro e w5 ⟨rfl,rfl⟩;rw[an.out];have HZ:=AO (Qf.out z);have aA:w4.cell? (w,I)=AE (.int .u64 ((F++[0]).getD I 0:Nat)):=by
  rw[dM.out.cell];exact MF (by have:=pW.out;simp;omega)
 have aB:=dM.out.free I;have J0:Hid (Row (w4.setCell (w,I) (.int .u64 z)) w 120 ((F++[z]).map vw)):=by
  have h:=dM.out.set I (vw z);rw[HZ.out]at h;exact h
 have EV:Hid (Below w w (w4.setCell (w,I) (.int .u64 z))):=PL.out.setCell ar _;go_wp2
 go_ret2
 exact⟨rfl,J0.out,EV.out⟩
theorem Reads.mid{k w}{B b off n i m:Nat}{l}(h:Reads k w B (b,off) n l)(Z2:i+m<=n):Reads k w B (b,off+i) m ((l.drop i).take m):=by
 obtain⟨h1,Q,h3⟩:=h;refine⟨by rw[AZ,Aq];omega,λx I=>Q x (List.mem_of_mem_drop (Bw I)),λhp=>?_⟩;obtain⟨b',SD,e,hb,O⟩:=h3 a5;injection e with e;injection e with e1 U;subst e1;subst U
 refine⟨b,off+i,rfl,hb,λj J=>?_⟩;rw[B8,O (i+j) a5]
 congr 3
 rw[AT,AT,At,if_pos J,Bc]
theorem uJ(a:Option Addr)(n c ad:Nat)(l:List Nat)(w:World){B}(hl:Reads .u64 w B a n l)(hB:B<=w)(hc:n<=c)(h8:8<=n)(aD:n<=256)(aq:ad<=9223372036854775807):
  Calls AP 97 #[AJ a n c,ad] w λe w'=>(okW l ad=false/\e=AH (AM #[AJ AD 0 0,.int .u64 0,AA AB 6])/\Below w w w')\/
   (okW l ad=true/\∃v,e=AH (AM #[v,.int .u64 (Pa l),()])/\w'.ownsRow w 120 1 v (GH l-1) ((l.take (GH l-1)).map vw)/\Below w w w'):=by
 obtain⟨i0,hi,Fa,FJ,KU⟩:=info_parts QO;have hlen:=hl.1;have HM:Hid (∀w,Calls AP 100 #[n,ad] w λe w'=>e=AH true/\w=w'):=λw=>by
  have h:=bh n ad w;have e:SH n ad=true:=by unfold SH;simp;omega
  rwa [e]at h
 obtain⟨b,o,rfl,nj,GA⟩:=hl.2.2 a5;obtain⟨I,Gp⟩:=ae (n-1);obtain⟨J,G9⟩:=ae (n-2);obtain⟨num,Xl⟩:=ae (GH l);obtain⟨tag,zC⟩:=ae (Pa l);obtain⟨z,hz⟩:=ae (l.getD I 0);have c1:w.cell? (b,o+I)=AE (.int .u64 (z:Nat)):=by rw[hz];exact GA I a5
 have c2:w.cell? (b,o+J)=AE (.int .u64 (tag:Nat)):=by
  rw[zC];unfold Pa;rw[hlen,<-G9];exact GA J a5
 have ao:num=z/4294967296:=by rw[Xl,hz];unfold GH;rw[hlen,Gp]
 have aB:z<18446744073709551616:=by
  rw[hz];exact Ra (hl.2.1 _ (by rw[AT,AU a5];exact CO _))
 have hdiv:(z:Int)/4294967296=(num:Int):=a5;have av:num<4294967296:=a5;have b1:I+1<=n/\n<=I+1:=a5;have b2:J+2<=n/\n<=J+2:=a5;have aE:(n:Int)-1=(I:Int):=a5;have aR:(n:Int)-2=(J:Int):=a5;have az:(0:Int)<=(I:Int):=a5;have ay:(I:Int)<(n:Int):=a5;have ax:(0:Int)<=(J:Int):=a5;have aw:(J:Int)<(n:Int):=a5;have HL:=AO hl;have an:=AO hlen;have HB:=AO hB;rw[<-zC];rw[<-Xl];have U:=AO Xl;have HZ:=AO hz;have vC:=AO Gp;have Lw:=AO G9;clear GA hlen hl Gp G9 Xl zC hz ao;by_cases h1:num<1
 ·have O:Hid (okW l ad=false):=by
   unfold Hid okW;rw[<-U.out];simp;omega
  have g1:decide ((num:Int)<1)=true:=by simp;omega
  go_enter func97,ntmps97
  go_wp2_with fail
  refine(HM.out _).mono ?_;rintro e w1 ⟨rfl,rfl⟩;go_wp2
  go_ret3
  exact .inl ⟨O.out,rfl,AS _ _⟩
 have g1:decide ((num:Int)<1)=false:=by simp;omega
 by_cases h2:I<num
 ·have O:Hid (okW l ad=false):=by
   unfold Hid okW;rw[<-U.out,an.out,<-vC.out];simp;omega
  have g2:decide ((num:Int)>(I:Int))=true:=by simp;omega
  go_enter func97,ntmps97
  go_wp2_with fail
  refine(HM.out _).mono ?_;rintro e w1 ⟨rfl,rfl⟩;go_wp2
  go_ret3
  exact .inl ⟨O.out,rfl,AS _ _⟩
 have g2:decide ((num:Int)>(I:Int))=false:=by simp;omega
 obtain⟨p,hp⟩:=ae (num-1);obtain⟨m,hm⟩:=ae (J-p);obtain⟨cp,al⟩:=ae (c-p);have bp:p+1<=num/\num<=p+1:=a5;have bm:p+m<=J/\J<=p+m:=a5;have aC:(num:Int)-1=(p:Int):=a5;have Q:Hid (okW l ad=true↔J6 ((l.drop p).take m)=true/\z=Ht (l.take I) num ad):=by
  have h:=yl (ad:=ad) an.out a5 (show 1<=GH l by rw[<-U.out];omega) (by rw[<-U.out];omega);rw[<-U.out,<-hp,<-Lw.out,<-vC.out,<-hm,<-HZ.out]at h;unfold Hid J6;rw[decide_eq_true_eq];exact h
 have k1:=λW=>Fh (P:=AP) W 116 120 i0 Be hi (b,o) n c p a5 .u64 (p:Int) rfl;have k2:=λW=>sF (P:=AP) W 116 120 i0 Be hi FJ b o n c p J a5 a5 a5 .u64 AB (p:Int) (J:Int) rfl rfl;have k3:=λW=>Fh (P:=AP) W 116 120 i0 Be hi (b,o) n c I a5 AB (I:Int) rfl;rw[<-hm,<-al]at k2;have ar:=AO (HL.out.mid (i:=p) (m:=m) a5);have QF:=AO (HL.out.take (m:=I) a5);have au:=AO (HL.out.take (m:=p) a5);rw[<-hp];have H1:Hid (∀r q,Calls AP 115 #[AJ (b,o+p) m cp] (w.drewN (r+q)) λe w'=>e=AH (.bool (J6 ((l.drop p).take m)))/\∃j,w'=w.drewN (r+j)):=λr q=>
  ((ox _ m cp _ _ (ar.out.drewN (r+q)) a5).mono λ_ _ h=>⟨h.1,q,h.2.symm⟩)
 have H2:Hid (∀r q,Calls AP 101 #[AJ (b,o) I c,.int .u64 num,ad] (w.drewN (r+q)) λe w'=>e=AH (.int .u64 (Ht (l.take I) num ad))/\∃j,w'=w.drewN (r+j)):=λr q=>
  ((UQ _ I c _ num ad _ (QF.out.drewN (r+q)) a5 av aq).mono λ_ _ h=>⟨h.1,q,h.2.symm⟩)
 generalize Ht (l.take I) num ad=zz at*
 have aA:∀q,(w.drewN q).cell? (b,o+I)=AE (.int .u64 (z:Nat)):=λ_=>c1;clear hp hm al
 cases Td:J6 ((l.drop p).take m)with
 |false=>
  rw[Td]at H1;have O:Hid (okW l ad=false):=by
   unfold Hid;rw[Bool.eq_false_iff];intro h;have:=(Q.out.1 h).1;rw[Td]at this;cases this
  clear Td Q;go_enter func97,ntmps97
  go_wp2_with fail
  refine(HM.out _).mono ?_;rintro e w1 ⟨rfl,rfl⟩;go_wp2
  go_quiet (fail)
  go_wp2
  go_quiet (with_reducible first|exact H1.out _ _|exact H2.out _ _)
  go_wp2
  go_ret3
  exact .inl ⟨O.out,rfl,DA (DA (AS _ _) _) _⟩
 |true=>
  rw[Td]at H1;by_cases he:z=zz
  ·subst he;have pF:Hid (okW l ad=true):=Q.out.2 ⟨Td,rfl⟩;clear Td Q;have GR:Hid (∀q,Calls AP 104 #[AJ (b,o) p c] (w.drewN q) λe w'=>∃v,e=AH v/\w'.ownsRow w 120 1 v p ((l.take p).map vw)/\Below w w w'):=λq=>
    (Y6 (b,o) p c (l.take p) (w.drewN q) (au.out.drewN q) a8 a5 HB.out).mono λe w' ⟨v,h1,h2,h3⟩=>⟨v,h1,h2,(DA (AS w.heap.size w) q).trans h3⟩
   have cq:∀q,(w.drewN q).cell? (b,o+J)=AE (.int .u64 (tag:Nat)):=λ_=>c2;go_enter func97,ntmps97
   go_wp2_with fail
   refine(HM.out _).mono ?_;rintro e w1 ⟨rfl,rfl⟩;go_wp2
   go_quiet (fail)
   go_wp2
   go_quiet (with_reducible first|exact H1.out _ _|exact H2.out _ _)
   go_wp2
   have RC:Ab.wrap (J:Int)=(J:Int):=Al _ a5;go_region_held3 (λw'=>w'.cell? (b,o+J)=AE (.int .u64 (tag:Nat)))
    (first|exact c2|exact e2) ((go_at_call 104;refine(GR.out _).mono ?_;rintro e w2 ⟨v,rfl,ab,ED⟩;have e2:w2.cell? (b,o+J)=AE (.int .u64 (tag:Nat)):=(ED.cell (p:=(b,o+J)) (BN nj HB.out)).trans c2))
   have HO:=AO ab;have Ei:=AO ED;clear ab ED;go_wp2
   go_ret3
   exact .inr ⟨pF.out,v,rfl,HO.out,Ei.out⟩
  ·have O:Hid (okW l ad=false):=by
    unfold Hid;rw[Bool.eq_false_iff];intro h;exact he (Q.out.1 h).2
   have g3:((z:Int) !=(zz:Int))=true:=by simp;omega
   clear Td Q;go_enter func97,ntmps97
   go_wp2_with fail
   refine(HM.out _).mono ?_;rintro e w1 ⟨rfl,rfl⟩;go_wp2
   go_quiet (fail)
   go_wp2
   go_quiet (with_reducible first|exact H1.out _ _|exact H2.out _ _)
   go_wp2
   go_ret3
   exact .inl ⟨O.out,rfl,DA (DA (AS _ _) _) _⟩
def Xb(v:Value):Option (DataW Value×List MemPlace):=AE (.held v,[])
theorem law:Maps.Keyed AP 3:=Maps.int_keyed underlying3
theorem yw{x}(h:Gj x):keyOf AP 3 x=AE (.int AB x):=Maps.keyOf_int_mk underlying3 h
theorem AF2{x}(h:Gj x):WideAt.IsKeyLit (.int AB x):=law.key (yw h)
def Fn(D:DataW Value)(f:Int->Option Value):Prop:=
 Maps.IsMap D/\(∀x,Gj x->f x=AD->Maps.has D (.int AB x)=false)/\∀x v,Gj x->f x=AE v->Maps.has D (.int AB x)=true/\∀zd,D.atKey (.int AB x) zd=.held v
theorem Fn.empty:Fn (.map []) nothing:=⟨Maps.isMap_empty,λ_ _ _=>rfl,λ_ _ _ h=>by cases h⟩
theorem Fn.put{D f}(h:Fn D f){i}(hi:Gj i)(v:Value):Fn (D.put (.int AB i) (.held v)) (WN f i v):=by
 obtain⟨Q,h1,h2⟩:=h;have J:∀{x:Int},x≠i->(Cp AB x)≠.int AB i:=λI e=>I (by injection e);refine⟨Q.put _ _,λx I O=>?_,λx u I hu=>?_⟩
 ·by_cases e:x=i
  ·subst e;rw[Kb]at O;cases O
  ·rw[JV _ _ e]at O;rw[Maps.has_put_other (J e)];exact h1 x I O
 ·by_cases e:x=i
  ·subst e;rw[Kb]at hu;injection hu with hu;subst hu
   exact⟨Maps.has_put_same Q (AF2 I) _,λU=>Maps.atKey_put_same Q (AF2 I) _ _⟩
  ·rw[JV _ _ e]at hu;rw[Maps.has_put_other (J e)];exact⟨(h2 x u I hu).1,λU=>by rw[Maps.atKey_put_other (J e)];exact(h2 x u I hu).2 U⟩
def Lt(w:World)(b n:Nat)(f:Int->Option Value):Prop:=∃D:DataW Value,w.ownsMap AP 3 Xb b n D/\Fn D f
theorem Lt.lt{w b n f}(h:Lt w b n f):b<w:=by obtain⟨D,h,_⟩:=h;exact h.lt
theorem Lt.same{w w' b n f}(h:Lt w b n f)(hb:w'.heap[b]?=w.heap[b]?):Lt w' b n f:=by
 obtain⟨D,⟨es,clock,I,e⟩,k⟩:=h;exact⟨D,⟨es,clock,hb.trans I,e⟩,k⟩
theorem Lt.made(w:World):Lt (w.alloc (.map #[] 0)) w 0 nothing:=⟨_,World.ownsMap_made w AP 3 Xb,Fn.empty⟩
theorem Lt.ET{w b n g f t cs}(h:Lt w b n f)(I:Row w g t cs):g≠b:=by
 obtain⟨D,⟨es,clock,J,_⟩,_⟩:=h;intro e;subst e;unfold Row at I;rw[J]at I;cases I
def Words(w:World)(G:Nat->Prop)(v:Value)(l:List Nat):Prop:=
 ∃g c cs,v=AJ (AE ⟨g,0,AD⟩) l.length c/\Row w g 120 cs/\G g/\l.length<=c/\c<=maxLen/\0<l.length/\(∀x∈l,(Cp .u64 (x:Nat)).wf=true)/\cs.take l.length=l.map λx:Nat=>BZ .u64 x
theorem Words.GQ{w w' G G' v l}(h:Words w G v l)(O:∀k cs,Row w k 120 cs->G k->w'.heap[k]?=w.heap[k]?)(I:∀k cs,Row w k 120 cs->G k->G' k):Words w' G' v l:=by
 obtain⟨g,c,cs,rfl,e,J,Q⟩:=h;exact⟨g,c,cs,rfl,(O g cs e J).trans e,I g cs e J,Q⟩
theorem Words.reads{w G v l}(h:Words w G v l):∃A c,v=AJ A l.length c/\A≠AD/\Reads .u64 w w A l.length l:=by
 obtain⟨g,c,cs,rfl,e,O,_,_,hp,hw,I⟩:=h;refine⟨_,c,rfl,a8,e.reads rfl hw (λi hi=>?_) e.lt⟩;have J:(cs.take l.length)[i]?=cs[i]?:=by rw[At,if_pos hi]
 rw[<-J,I,Bk,AU hi,AT,AU hi];rfl
def Rel(w:World)(G:Nat->Prop):Option Value->Option (List Nat)->Prop
 |none,AD=>True
 |some v,AE l=>Words w G v l
 | _,_=>False
theorem Rel.GQ{w w' G G' v l}(h:Rel w G v l)(I:∀k cs,Row w k 120 cs->G k->w'.heap[k]?=w.heap[k]?)(e:∀k cs,Row w k 120 cs->G k->G' k):Rel w' G' v l:=by
 match v,l,h with
 |none,AD,_=>trivial
 |some v,AE l,h=>exact Words.GQ h I e
def LD(w:World)(G:Nat->Prop)(b n:Nat)(fl:Int->Option (List Nat)):Prop:=∃f,Lt w b n f/\∀x,Rel w G (f x) (fl x)
def NY:List (Int×Value)->List Value
 |[]=>[]
 |e::l=>AA AB e.1::e.2::NY l
theorem Ou:∀l m,NY (l++m)=NY l++NY m
 |[],_=>rfl
 |e::l,m=>by show _:: _::NY (l++m)= _;rw[Ou l m];rfl
def KL(w:World)(G:Nat->Prop)(v:Value)(l:List (Int×List Nat)):Prop:=
 ∃rs:List (Int×Value),w.ownsRow 0 166 2 v l.length (NY rs)/\rs.length=l.length/\(∀(i:Nat) (r:Int×Value) (e:Int×List Nat),rs[i]?=AE r->l[i]?=AE e->r.1=e.1/\Words w G r.2 e.2)/\∀k,v.ownBlock=AE k->G k
def cellsOf(s:St)(bl bf:Nat)(v:Value):List Value:=
 [s.size,s.blocks,.map (AE bl),.map (AE bf),v,.bool s.fb,s.fn,.bool s.tb,s.tn,.bool s.down,s.Dp]
structure Fits (s:St) (n:Nat):Prop where
 size:8<=s.size/\s.size<=256
 blocks:0<=s.blocks/\s.blocks<=1000000
 fn:0<=s.fn/\s.fn<=1000000
 tn:0<=s.tn/\s.tn<=1000000
 Dp:0<=s.Dp/\s.Dp<=n
 small:n<=1000000
 Ds:∀e∈s.Ds,Gj e.1/\e.2.length=s.size
 fl:∀x l,s.fl x=AE l->l.length=s.size
def p8(w:World)(G:Nat->Prop)(p:Nat)(s:St)(n m:Nat):Prop:=
 Fits s n/\∃bl bf v nl,Row w p 94 (cellsOf s bl bf v)/\LD w G bl nl s.fl/\LD w G bf s.Ds.length (lay nothing s.Ds)/\KL w G v s.Ds/\bl≠bf/\G p/\G bl/\G bf/\(∀k,G k->k<w)/\nl+s.Ds.length<=m
def NC(w:World)(G:Nat->Prop)(p:Nat)(s:St)(n:Nat):Prop:=p8 w G p s n n
section
variable{w w':World}{G G':Nat->Prop}
theorem LD.GQ{b n fl}(h:LD w G b n fl)(hb:w'.heap[b]?=w.heap[b]?)(I:∀k cs,Row w k 120 cs->G k->w'.heap[k]?=w.heap[k]?)(e:∀k cs,Row w k 120 cs->G k->G' k):LD w' G' b n fl:=by
 obtain⟨f,O,J⟩:=h;exact⟨f,O.same hb,λx=>(J x).GQ I e⟩
theorem LD.lt{b n fl}(h:LD w G b n fl):b<w:=by obtain⟨f,e,_⟩:=h;exact e.lt
theorem LD.ET{b n g fl t cs}(h:LD w G b n fl)(e:Row w g t cs):g≠b:=by obtain⟨f,I,_⟩:=h;exact I.ET e
theorem KL.GQ{v l}(h:KL w G v l)(O:∀k,v.ownBlock=AE k->G k->w'.heap[k]?=w.heap[k]?/\G' k)(U:∀k cs,Row w k 120 cs->G k->w'.heap[k]?=w.heap[k]?)(J:∀k cs,Row w k 120 cs->G k->G' k):KL w' G' v l:=by
 obtain⟨rs,h1,h2,h3,h4⟩:=h;exact⟨rs,Fw h1 λk I=>(O k I (h4 k I)).1,h2,λi r e Q he=>⟨(h3 i r e Q he).1,(h3 i r e Q he).2.GQ U J⟩,λk I=>(O k I (h4 k I)).2⟩
theorem KL.nil(w:World)(G:Nat->Prop):KL w G (AJ AD 0 0) []:=⟨[],World.ownsRow_nil _ _ _ _,rfl,λi r e h=>by simp at h,λk h=>by simp[Bq]at h⟩
theorem KL.ET{v l}(h:KL w G v l){g}{t}{cs}(I:Row w g t cs)(J:t≠166):v.ownBlock≠AE g:=by
 obtain⟨rs,⟨_,O⟩,_⟩:=h;rcases O with⟨rfl,_⟩|⟨g',cap,cur,rfl,_,hh,_⟩
 ·simp[Bq]
 ·simp only[Bq];intro e;injection e with e;subst e
  unfold Row at I;rw[hh]at I;injection I with I;injection I with _ I;exact J I.symm
theorem KL.Vb{v l}(h:KL w G v l){b n}{fl}(J:LD w G b n fl):v.ownBlock≠AE b:=by
 obtain⟨rs,⟨_,I⟩,_⟩:=h;rcases I with⟨rfl,_⟩|⟨g',cap,cur,rfl,_,hh,_⟩
 ·simp[Bq]
 ·simp only[Bq];intro e;injection e with e;subst e
  obtain⟨f,⟨D,⟨es,clock,I,_⟩,_⟩,_⟩:=J;rw[I]at hh;cases hh
theorem KL.form{v l}(h:KL w G v l):∃A c,v=AJ A l.length c:=by
 obtain⟨rs,⟨_,e⟩,_⟩:=h;rcases e with⟨rfl,h0⟩|⟨g,cap,cur,rfl,_⟩
 ·exact⟨AD,0,by rw[h0]⟩
 ·exact⟨_,_,rfl⟩
theorem NC.GQ{p s n}(h:NC w G p s n)(I:∀k,G k->w'.heap[k]?=w.heap[k]?)(U:w.heap.size<=w'.heap.size):NC w' G p s n:=by
 obtain⟨h0,bl,bf,v,nl,h1,h2,h3,h4,h5,Q,O,J,h9,OH⟩:=h;exact⟨h0,bl,bf,v,nl,(I p Q).trans h1,h2.GQ (I bl O) (λk _ _ e=>I k e) (λk _ _ e=>e),h3.GQ (I bf J) (λk _ _ e=>I k e) (λk _ _ e=>e),h4.GQ (λk _ e=>⟨I k e,e⟩) (λk _ _ e=>I k e) (λk _ _ e=>e),h5,Q,O,J,λk e=>BN (h9 k e) U,OH⟩
theorem NC.below{p s n}(h:NC w G p s n)(hb:Below w w w'):NC w' G p s n:=
 h.GQ (λk e=>hb.block k (by obtain⟨_,_,_,_,_,_,_,_,_,_,_,_,_,I,_⟩:=h;exact I k e)) hb.size
theorem NC.lt{p s n}(h:NC w G p s n){k}(e:G k):k<w:=by obtain⟨_,_,_,_,_,_,_,_,_,_,_,_,_,I,_⟩:=h;exact I k e
theorem NC.E4{F p s n}(h:NC w G p s n)(hb:DJ F w w')(hF:∀k,G k->¬F k):NC w' G p s n:=
 h.GQ (λk e=>hb.block k (h.lt e) (hF k e)) hb.size
theorem NC.fits{p s n}(h:NC w G p s n):Fits s n:=h.1
theorem NC.Qp{p s n}(h:NC w G p s n):G p:=by obtain⟨_,_,_,_,_,_,_,_,_,_,e,_⟩:=h;exact e
theorem Fits.mono{s n n'}(h:Fits s n)(I:n<=n')(e:n'<=1000000):Fits s n':=⟨h.size,h.blocks,h.fn,h.tn,⟨h.Dp.1,by have:=h.Dp.2;omega⟩,e,h.Ds,h.fl⟩
theorem NC.mono{p s n n'}(h:NC w G p s n)(I:n<=n')(U:n'<=1000000):NC w G p s n':=by
 obtain⟨h0,bl,bf,v,nl,h1,h2,h3,h4,h5,e,Q,O,J,OH⟩:=h;exact⟨h0.mono I U,bl,bf,v,nl,h1,h2,h3,h4,h5,e,Q,O,J,a5⟩
theorem p8.up{p s n m}(h:p8 w G p s n m)(hm:m<=n):NC w G p s n:=by
 obtain⟨h0,bl,bf,v,nl,U,Q,h3,h4,h5,e,O,J,I,OH⟩:=h;exact⟨h0,bl,bf,v,nl,U,Q,h3,h4,h5,e,O,J,I,a5⟩
theorem NC.begin{p:Nat}{s:St}{n:Nat}(h:NC w G p s n){b:Bool}{bl bf:Nat}{v:Value}(O:Row w p 94 (cellsOf s bl bf v))(h2:Row w' p 94 (cellsOf (begin s b).2 bl bf v))(hf:DJ (λk=>k=p) w w')(ad:Fits (begin s b).2 (n+1)):p8 w' G p (begin s b).2 (n+1) n:=by
 obtain⟨h0,Q,U,v',nl,J,k2,k3,k4,k5,k6,k7,k8,k9,bw⟩:=h;obtain⟨e1,e2,e3,e4⟩:=Gf s b;have e0:cellsOf s bl bf v=cellsOf s Q U v':=by
  unfold Row at O J;rw[O]at J;injection J with J;injection J with J;simpa using J
 obtain⟨rfl,rfl,rfl⟩:bl=Q/\bf=U/\v=v':=by simpa [cellsOf]using e0
 have ab:∀k cs,Row w k 120 cs->k≠p:=by
  intro k cs I e;subst e;unfold Row at O I;rw[O]at I;injection I with I;injection I with _ I;exact absurd I a6
 have Dg:bl≠p:=λe=>k2.ET O e.symm;have DT:bf≠p:=λe=>k3.ET O e.symm;have SZ:∀k cs,Row w k 120 cs->G k->w'.heap[k]?=w.heap[k]?:=λk cs I hg=>hf.block k I.lt (ab k cs I);refine⟨ad,bl,bf,v,nl,h2,?_,?_,?_,k5,k6,k7,k8,λk I=>BN (k9 k I) hf.size,by rw[e4];omega⟩
 ·rw[e3];exact k2.GQ (hf.block bl k2.lt Dg) SZ (λk _ _ I=>I)
 ·rw[e4];exact k3.GQ (hf.block bf k3.lt DT) SZ (λk _ _ I=>I)
 ·rw[e4];exact k4.GQ (λk I hg=>⟨hf.block k (k9 k hg) λe=>k4.ET O a6 (by rw[<-e];exact I),hg⟩) SZ (λk _ _ I=>I)
end
theorem aY{s n}(h:Fits s n)(hn:n<1000000)(b:Bool):Fits (begin s b).2 (n+1):=by
 obtain⟨e1,e2,e3,e4⟩:=Gf s b;have J:=aa s b;have hf:(0<=(begin s b).2.fn/\(begin s b).2.fn<=1000000)/\(0<=(begin s b).2.tn/\(begin s b).2.tn<=1000000):=by
  have Q:=h.fn;have O:=h.tn;unfold begin;by_cases hd:s.down=true
  ·rw[if_pos hd];exact⟨Q,O⟩
  rw[if_neg hd];by_cases hb:b=false
  ·rw[if_pos hb];exact⟨Q,O⟩
  rw[if_neg hb];by_cases U:s.fb=true/\s.fn=0
  ·rw[if_pos U];exact⟨Q,O⟩
  rw[if_neg U];have I:0<=(if s.fb=true then s.fn-1 else s.fn)/\(if s.fb=true then s.fn-1 else s.fn)<=1000000:=by
   split
   ·rename_i hB;have:s.fn≠0:=λe=>U ⟨hB,e⟩;omega
   ·exact Q
  by_cases hC:s.tb=true/\s.tn=0
  ·dsimp only;rw[if_pos hC];exact⟨I,by dsimp only;omega⟩
  ·dsimp only;rw[if_neg hC];refine⟨I,?_⟩;show 0<=(if s.tb=true then s.tn-1 else s.tn)/\(if s.tb=true then s.tn-1 else s.tn)<=1000000
   split
   ·rename_i hB;have:s.tn≠0:=λe=>hC ⟨hB,e⟩;omega
   ·exact O
 refine⟨by rw[e1];exact h.size,by rw[e2];exact h.blocks,hf.1,hf.2,?_,a5,by rw[e4,e1];exact h.Ds,by rw[e3,e1];exact h.fl⟩;have:=h.Dp;rcases J with J|J<;>rw[J]<;>omega
end Go.Proofs.YthfnbpjegjbbiaaGreat
