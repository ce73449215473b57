/- What the laws stand on. -/
import Derived.Laws.BitsAllLaws
import Derived.Test.YthfnbpjegjbbiaaGreatRows
import Derived.WalkKit
import Derived.ProofKit
import Derived.OpenShut
import Derived.LoopTactic
import Derived.Outline
import Derived.Lib.Varint
import Derived.Lib.Hide
import Derived.Deep.QuietTactic
import Derived.BigQuiet
import Derived.Below
import Derived.Deep.Draws
import Derived.Laws.CopyOwn
import Derived.Laws.OwnMore
import Derived.Laws.MakeOwn
import Derived.Laws.Bits64b
import Derived.OwnWalk
import Derived.Laws.BytesArg
import Derived.Deep.RegionHeld3
import Derived.Deep.AppendLies
import Derived.Deep.DeepCutAuto
import Derived.Deep.CutBlock
import Derived.Lib.SmallJoins
import Derived.Deep.Slices
import Derived.Deep.Fields
import Derived.Maps.AppendAt
import Derived.Lib.AppendZerosOnto
import Derived.Lib.Overlaps
import Derived.Deep.RegionLaw
import Derived.Laws.Externs
import Derived.IntWalk
import Derived.Lib.QuietBelow
import Derived.Lib.SliceRun
import Derived.BigRegion
import Derived.Maps.OwnSet
import Derived.Maps.RangeWalk
import Derived.Shelf.SlMaps.Clone
import Derived.LaidEqlPtr
import Derived.WalkSpells
import Derived.ChangeKeysEq
import Derived.Laws.StructEq
import Derived.Defers
import Derived.Laws.EntriesVeiled
import Derived.Deep.CutRange
import Derived.StillTailTactics
import Derived.ShutString
import Derived.ChangeOld
namespace Go.Proofs.YthfnbpjegjbbiaaGreat
set_option linter.unusedVariables false
set_option maxRecDepth 100000
set_option maxHeartbeats 8000000
open Go.ChangeShapes Go.WideShapes Go.ChangeAt Go.RowKit
open Go.Joins Go.Deep
open Go.ChangeShapes Go.WideShapes Go.ChangeAt Go.RowKit Go.Maps
open Go.ChangeMaps (setBlock heap_setBlock_same heap_setBlock_other)
open Go.Value renaming pointer → AI
open Go.Value renaming int → AA
open Go.IntKind renaming i64 → AB
open Option renaming some → AE
open Option renaming none → AD
open Lib renaming hid → AG
open Go.Ending renaming returned → AH
open Go.Value renaming slice → AJ
open Go.Obj renaming cells → AK
open Go.Value renaming agg → AL
open Go.Value renaming tuple → AM
open Go.Lib renaming hid → AO
open Go.Proofs.Tryz renaming prog → AP, underlying101 → Ad, underlying116 → Bc, results139 → Ca
open Nat renaming le_refl → AQ, mul_le_mul_right → Ae, le_trans → Af, lt_or_ge → Am, sub_self → Ap, zero_le → Aq, add_mul → A6, eq_zero_or_pos → A7, one_mul → BD, lt_of_lt_of_le → BH, zero_add → BL, add_sub_cancel → BQ, div_le_self → BW, min_eq_left → Bh, mod_lt → Bw, mul_comm → B6, add_assoc → CK, zero_mul → CS, div_mul_le_self → CU, min → CW, reduceAdd → Cb, lt_of_le_of_lt → Ce, add_sub_cancel_left → Cm
open List renaming append_assoc → AR, getD_eq_getElem?_getD → AT, getElem?_eq_getElem → AU, getElem?_cons_succ → AV, getElem?_cons_zero → AW, getElem?_append_right → AX, length_append → AY, append_nil → AZ, length_take → Ac, mem_append → Ag, length_map → Aj, mem_of_getElem? → Ak, getElem?_append_left → Al, length_drop → An, take_of_length_le → Ao, set_append_right → As, getElem?_take → At, getElem?_set → Av, mem_cons_self → Ax, mem_map → Az, mem_cons → A8, replicate → BA, mem_cons_of_mem → BB, mem_iff_getElem? → BC, getElem?_eq_none → BG, nil_append → BI, getElem?_eq_some_iff → BM, getElem_of_mem → BO, take_append_drop → BS, length_cons → BY, filter_append → Ba, getElem?_map → Bd, take_add_one → Bi, length_set → Bk, mem_singleton → Bn, mem_of_mem_take → Bo, getElem_mem → Bs, take_zero → Bt, range → Bu, take_length → By, set_cons_succ → Bz, pairwise_iff_getElem → B0, nodup_cons → B3, mem_filter → B4, take_take → B7, cons_append → B8, getElem?_drop → CL, drop_eq_getElem_cons → CQ, take_append_of_le_length → CX, findIdx_le_length → Cg, map_append → Cj, drop_zero → Cn, drop_drop → Co
open Go.RowKit.Below renaming refl → AS, trans → CM, size → CN, mono → CO
open Go.IntKind renaming i64 → Aa, wrap_i64 → BV
open Go renaming cell_regrown → Ab, bodyPost_ret → Aw, leaves_cons → Ay, wp_region_quiet_below → Bb, FrameMode → Bf, below_regrown → Bj, run_underlying → Bv, wpQuiet_nil → CV, block_lt_of_cell → Ci, Regrown → Cq
open Go.IntWalk renaming i64_in → Ah
open Go.Sort renaming grow → Ai
open Go.RowKit renaming intOf → BF
open Iff renaming rfl → BN
open Go.Result renaming andThen → BP
open Go.Calls renaming regrown_of → BU
open Int renaming toNat_natCast → BX, natCast_mul → Be, lt_trichotomy → Ck, tmod → Cp
open Go.Builtin renaming zeroCells → BZ
open Go.Value renaming int → Bg, ownBlock → Bp
open Go.Addr renaming add_lit → Bl, add → CY
open Go.Ending renaming returned → Bm
open And renaming intro → Bq
open Go.Sem renaming run → Br
open Go.Instr renaming index → CR
open Classical renaming byContradiction → CZ
open List.Perm renaming append_left → Cc, refl → Cf
open Go.Lit renaming int → Cd
open Go.Proofs.Tryz
open Nat.le renaming refl → ao
theorem a5{p:Prop}(h:p:=by omega):p:=h
theorem a6{p:Prop}(h:p:=by decide):p:=h
theorem a7{p:Prop}(h:p:=by kernel_rfl):p:=h
theorem a8{p:Prop}(h:p:=by simp):p:=h
theorem a9{p:Prop}(h:p:=by assumption):p:=h
theorem ae{α:Sort _}(a:α):∃x,x=a:=⟨a,rfl⟩
theorem al{α:Sort _}(a:α):∃x,a=x:=⟨a,rfl⟩
def st(n:Nat):Nat:=if n%2=1 then n/2^^^3988292384 else n/2
def p8:Nat->Nat->Nat
 |0,n=>n
 |k+1,n=>p8 k (st n)
def sj(r c:Nat):Nat:=p8 8 (r^^^c)
def wd:Nat->Nat->Nat->Nat
 |0,r,_=>r
 |k+1,r,x=>wd k (sj r (x%256)) (x/256)
def top:Nat:=4294967295
def cmx(m n:Nat):Nat:=m^^^n
def cm(n:Nat):Nat:=cmx top n
def nx(s x:Nat):Nat:=cm (wd 8 (cm s) x)
def sm(l:List Nat):Nat:=l.foldl nx 0
def run(r:Nat)(l:List Nat):Nat:=l.foldl (wd 8) r
theorem vp{a:Nat}(h:a<4294967296):st a<4294967296:=by
 unfold st
 split
 ·exact Nat.xor_lt_two_pow (n:=32) a5 a6
 ·omega
theorem yS(k:Nat):∀{a},a<4294967296->p8 k a<4294967296:=by
 induction k with
 |zero=>intro a h;exact h
 |succ k ih=>intro a h;exact ih (vp h)
theorem kQ(j:Nat):∀k a,p8 (k+j) a=p8 k (p8 j a):=by
 induction j with
 |zero=>intro k a;rfl
 |succ j ih=>intro k a;exact ih k (st a)
theorem cD{r c:Nat}(e:r<4294967296)(H:c<256):sj r c<4294967296:=yS 8 (Nat.xor_lt_two_pow (n:=32) e a5)
theorem vo(k:Nat):∀{r:Nat} (x:Nat),r<4294967296->wd k r x<4294967296:=by
 induction k with
 |zero=>intro r x h;exact h
 |succ k ih=>intro r x h;exact ih _ (cD h a5)
theorem cq{n:Nat}(h:n<4294967296):cm n<4294967296:=show cmx top n< _ from Nat.xor_lt_two_pow (n:=32) a6 h
theorem dX(m n:Nat):cmx m (cmx m n)=n:=by unfold cmx;rw[<-Nat.xor_assoc,Nat.xor_self,Nat.zero_xor]
theorem AL4(n:Nat):cm (cm n)=n:=dX _ n
theorem XL{s:Nat}(x:Nat)(h:s<4294967296):nx s x<4294967296:=cq (vo 8 x (cq h))
theorem AF3(r x:Nat):nx (cm r) x=cm (wd 8 r x):=by unfold nx;rw[AL4]
theorem U6(l:List Nat)(x:Nat):sm (l++[x])=nx (sm l) x:=by unfold sm;simp
theorem rz(r:Nat):run r []=r:=by unfold run;rw[List.foldl_nil]
theorem ku(r x:Nat)(l:List Nat):run r (x::l)=run (wd 8 r x) l:=by unfold run;rw[List.foldl_cons]
theorem oA(l:List Nat):∀r,l.foldl nx (cm r)=cm (run r l):=by
 induction l with
 |nil=>intro r;rw[List.foldl_nil,rz]
 |cons x l ih=>intro r;rw[List.foldl_cons,AF3,ih,ku]
theorem AA7:cm 4294967295=0:=a6
theorem yY(l:List Nat):sm l=cm (run 4294967295 l):=by
 rw[<-oA,AA7];unfold sm;exact Eq.refl _
theorem ya(l:List Nat):∀{r},r<4294967296->run r l<4294967296:=by
 induction l with
 |nil=>intro r h;exact h
 |cons x l ih=>intro r h;exact ih (vo 8 x h)
theorem UA(l:List Nat):sm l<4294967296:=by rw[yY];exact cq (ya l a6)
def NO(l:List Nat):Prop:=∀x∈l,x<18446744073709551616
def Hj(l:List Nat)(num ad:Nat):Nat:=num*4294967296+sm (l++[num,ad])
def Et(size tag:Nat)(pl:List Nat):List Nat:=pl++BA (size-2-pl.length) 0++[tag]
def Gi(size ad tag:Nat)(pl:List Nat):List Nat:=Et size tag pl++[Hj (Et size tag pl) (pl.length+1) ad]
def GB(b:List Nat):Nat:=b.getD (b.length-1) 0/4294967296
def PV(b:List Nat):Nat:=b.getD (b.length-2) 0
def okW(b:List Nat)(ad:Nat):Bool:=decide (1<=GB b)&&decide (GB b<=b.length-1)&&decide (b=Gi b.length ad (PV b) (b.take (GB b-1)))
theorem Pw{size tag:Nat}{pl:List Nat}(h:pl.length<=size-2)(e:2<=size):(Et size tag pl).length=size-1:=by
 unfold Et;simp;omega
theorem L8{size ad tag:Nat}{pl:List Nat}(h:pl.length<=size-2)(e:2<=size):(Gi size ad tag pl).length=size:=by
 unfold Gi;rw[AY,Pw h e];simp;omega
theorem sn{l:List Nat}{num ad:Nat}(h:num<4294967296):Hj l num ad<18446744073709551616:=by
 unfold Hj;have:=UA (l++[num,ad]);omega
theorem mE{l:List Nat}{num ad:Nat}:Hj l num ad/4294967296=num:=by
 unfold Hj;have:=UA (l++[num,ad]);omega
theorem sk{l:List Nat}{num ad:Nat}:num*4294967296|||sm (l++[num,ad])=Hj l num ad:=by
 unfold Hj;rw[show num*4294967296=2^32*num by rw[B6]];exact(Nat.two_pow_add_eq_or_of_lt (i:=32) (UA _) num).symm
theorem UU{size tag:Nat}{pl:List Nat}(hp:NO pl)(H:tag<18446744073709551616):NO (Et size tag pl):=by
 intro x e;unfold Et at e;rcases Ag.1 e with e|e
 ·rcases Ag.1 e with e|e
  ·exact hp x e
  ·rw[List.mem_replicate]at e;omega
 ·simp at e;omega
theorem ke{size ad tag:Nat}{pl:List Nat}(hp:NO pl)(H:tag<18446744073709551616)(I:pl.length+1<4294967296):NO (Gi size ad tag pl):=by
 intro x e;unfold Gi at e;rcases Ag.1 e with e|e
 ·exact UU hp H x e
 ·simp at e;subst e;exact sn I
theorem Se{α:Type}{l m:List α}{k:Nat}{x d:α}(h:l.length=k):(l++x::m).getD k d=x:=by
 rw[AT,AX a5,h,Ap];rfl
theorem ek{size ad tag:Nat}{pl:List Nat}(h:pl.length<=size-2)(e:2<=size):(Gi size ad tag pl).getD (size-1) 0=Hj (Et size tag pl) (pl.length+1) ad:=by
 unfold Gi;exact Se (Pw h e)
theorem Wr{size ad tag:Nat}{pl:List Nat}(h:pl.length<=size-2)(e:2<=size):GB (Gi size ad tag pl)=pl.length+1:=by
 unfold GB;rw[L8 h e,ek h e,mE]
theorem Wq{size ad tag:Nat}{pl:List Nat}(h:pl.length<=size-2)(H:2<=size):PV (Gi size ad tag pl)=tag:=by
 unfold PV;rw[L8 h H];unfold Gi;have e:Et size tag pl++[Hj (Et size tag pl) (pl.length+1) ad]=(pl++BA (size-2-pl.length) 0)++tag::[Hj (Et size tag pl) (pl.length+1) ad]:=by
  conv=>lhs;unfold Et
  rw[AR,List.singleton_append];rfl
 rw[e];exact Se (by simp;omega)
theorem UC{size ad tag:Nat}{pl:List Nat}:(Gi size ad tag pl).take pl.length=pl:=by
 unfold Gi Et;rw[AR,AR];exact List.take_left' rfl
theorem ru{size ad tag:Nat}{pl:List Nat}(h:pl.length<=size-2)(e:2<=size):okW (Gi size ad tag pl) ad=true:=by
 unfold okW;rw[Wr h e,Wq h e,L8 h e,BQ,UC];simp;omega
theorem Zj{b:List Nat}{n p:Nat}(I:b.length=n)(J:2<=n)(hp:p<=n-2):
  b=b.take p++(b.drop p).take (n-2-p)++[b.getD (n-2) 0]++[b.getD (n-1) 0]/\b.take (n-1)=b.take p++(b.drop p).take (n-2-p)++[b.getD (n-2) 0]:=by
 have e:b.take (n-1)=b.take (n-2)++[b.getD (n-2) 0]:=by
  rw[show n-1=n-2+1 by omega,List.take_succ_eq_append_getElem a5,AT,AU a5];rfl
 have H:b.take (n-2)=b.take p++(b.drop p).take (n-2-p):=by
  conv=>lhs;rw[show n-2=p+(n-2-p)by omega]
  rw[List.take_add]
 have h3:b.take n=b.take (n-1)++[b.getD (n-1) 0]:=by
  conv=>lhs;rw[show n=n-1+1 by omega]
  rw[List.take_succ_eq_append_getElem a5,AT,AU a5];rfl
 refine⟨?_,by rw[e,H]⟩;rw[<-H,<-e,<-h3,Ao a5]
theorem Vv{l:List Nat}:(∀x∈l,x=0)↔l=BA l.length 0:=by
 rw[List.eq_replicate_iff];simp
theorem yo{b:List Nat}{ad n:Nat}(I:b.length=n)(U:2<=n)(h3:1<=GB b)(h4:GB b<=n-1):
  okW b ad=true↔(∀x∈(b.drop (GB b-1)).take (n-2-(GB b-1)),x=0)/\b.getD (n-1) 0=Hj (b.take (n-1)) (GB b) ad:=by
 have hp:GB b-1<=n-2:=a5;obtain⟨O,e2⟩:=Zj I U hp;have hlen:(b.take (GB b-1)).length=GB b-1:=by rw[Ac];omega
 have H:((b.drop (GB b-1)).take (n-2-(GB b-1))).length=n-2-(GB b-1):=by rw[Ac,An];omega
 have DK:okW b ad=true↔b=Gi n ad (b.getD (n-2) 0) (b.take (GB b-1)):=by
  unfold okW PV;rw[I];simp[h3,h4]
 rw[DK,Vv,H];have hS:Gi n ad (b.getD (n-2) 0) (b.take (GB b-1))=b.take (GB b-1)++BA (n-2-(GB b-1)) 0++[b.getD (n-2) 0]++[Hj (b.take (GB b-1)++BA (n-2-(GB b-1)) 0++[b.getD (n-2) 0]) (GB b) ad]:=by
  unfold Gi Et;rw[hlen,show GB b-1+1=GB b by omega]
 rw[hS,e2];generalize b.take (GB b-1)=P at*
 generalize(b.drop (GB b-1)).take (n-2-(GB b-1))=M at*
 generalize n-2-(GB b-1)=k at*
 generalize b.getD (n-2) 0=t at*
 generalize b.getD (n-1) 0=z at*
 generalize GB b=num at*
 constructor
 ·intro h;rw[O]at h;have h5:=List.append_inj h (by simp[H]);have e:=List.append_inj h5.1 (by simp[H]);have J:=List.append_inj e.1 rfl;refine⟨J.2,?_⟩;have Q:z=Hj (P++BA k 0++[t]) num ad:=by simpa using h5.2
  rw[J.2];exact Q
 ·rintro⟨h5,e⟩
  conv=>lhs;rw[O,e]
  rw[h5]
theorem RD{k a b}(h:a=b):Bm (.int k a)=AH (.int k b):=by rw[h]
theorem II{a b}(h:a=b):Bm (.bool a)=AH (.bool b):=by rw[h]
def Reads(k:IntKind)(w:World)(B:Nat)(a:Option Addr)(n:Nat)(l:List Nat):Prop:=
 l.length=n/\(∀x∈l,(Cd k x).wf=true)/\
 (0<n->∃b off,a=AE ⟨b,off,AD⟩/\b<B/\∀i,i<n->w.cell? ⟨b,off+i,AD⟩=AE (.int k (l.getD i 0:Nat)))
theorem Reads.at_{k w B a n l}(h:Reads k w B a n l){i}(hi:i<n):
  ∃b off c,a=AE ⟨b,off,AD⟩/\b<B/\w.cell? ⟨b,off+i,AD⟩=AE (.int k (c:Nat))/\(Cd k c).wf=true/\Hid (c=l.getD i 0):=by
 obtain⟨H,hw,e⟩:=h;obtain⟨b,off,rfl,hb,e⟩:=e a5;refine⟨b,off,l.getD i 0,rfl,hb,e i hi,hw _ ?_,rfl⟩;have:i<l.length:=a5;rw[AT,AU this];exact Bs this
theorem Reads.GS{k w w' B a n l}(h:Reads k w B a n l)(hb:Below B w w'):Reads k w' B a n l:=by
 obtain⟨J,hw,e⟩:=h;refine⟨J,hw,λI=>?_⟩;obtain⟨b,off,rfl,H,e⟩:=e I;exact⟨b,off,rfl,H,λi hi=>(hb.cell (p:=⟨b,off+i,AD⟩) H).trans (e i hi)⟩
theorem Reads.drewN{k w B a n l}(h:Reads k w B a n l)(m:Nat):Reads k (w.drewN m) B a n l:=h
theorem Reads.mono{k w B B' a n l}(h:Reads k w B a n l)(hb:B<=B'):Reads k w B' a n l:=by
 obtain⟨I,hw,e⟩:=h;refine⟨I,hw,λH=>?_⟩;obtain⟨b,off,rfl,J,e⟩:=e H;exact⟨b,off,rfl,a5,e⟩
theorem Cy{B a w}(h:Below B a w)(n:Nat):Below B a (w.drewN n):=⟨h.os,h.tape,h.output,h.size,h.block⟩
theorem RX{c:Nat}(h:(Cd .u64 c).wf=true):c<18446744073709551616:=by
 simp[Lit.wf,IntKind.min,IntKind.max,IntKind.signed,IntKind.bits]at h;omega
theorem PU{c:Nat}(h:c<18446744073709551616):(Cd .u64 c).wf=true:=by
 simp[Lit.wf,IntKind.min,IntKind.max,IntKind.signed,IntKind.bits];omega
theorem info_parts{t z s b}(h:(AP.info? t).map (λi=>(i.zero,i.size,i.bytes))=AE (AE z,s,b)):
  ∃i,AP.info? t=AE i/\i.zero=AE z/\i.size=s/\i.bytes=b:=by
 rcases hi:AP.info? t with _|i
 ·rw[hi]at h;cases h
 ·rw[hi]at h;simp at h;exact⟨i,rfl,h.1,h.2.1,h.2.2⟩
def Row(w:World)(g:Nat)(t:TypeId)(cs:List Value):Prop:=w.heap[g]?=AE (.cells cs.toArray t (0,0))
section
variable{w w':World}{g:Nat}{t:TypeId}{cs:List Value}
theorem Row.lt(h:Row w g t cs):g<w.heap.size:=by
 rcases Am g w.heap.size with e|H
 ·exact e
 ·unfold Row at h;rw[Array.getElem?_eq_none H]at h;cases h
theorem Row.cell(h:Row w g t cs)(i:Nat):w.cell? ⟨g,i,AD⟩=cs[i]?:=by
 unfold Row at h;simp[World.cell?,h]
theorem Row.free(h:Row w g t cs)(i:Nat):w.frozen? ⟨g,i,AD⟩=false:=frozen_of_row w g i _ t h
theorem Row.set(h:Row w g t cs)(i:Nat)(u:Value):Row (w.setCell ⟨g,i,AD⟩ u) g t (cs.set i u):=by
 unfold Row at h⊢;rw[heap_setCell_same w g i _ t u h];simp
theorem Row.Ey(h:Row w g t cs){p}(hp:g≠p.block)(u:Value):Row (w.setCell p u) g t cs:=(heap_setCell_other w p g u hp).trans h
theorem Row.drewN(h:Row w g t cs)(n:Nat):Row (w.drewN n) g t cs:=h
theorem Row.alloc(h:Row w g t cs)(o:Obj):Row (w.alloc o) g t cs:=(Below.heap_alloc w o g h.lt).trans h
theorem Row.below{B}(h:Row w g t cs)(hb:Below B w w')(e:g<B):Row w' g t cs:=(hb.block g e).trans h
theorem Row.reads{k}{l:List Nat}(h:Row w g t cs){n}(e:l.length=n)(hw:∀x∈l,(Cd k x).wf=true)
  (H:∀i,i<n->cs[i]?=AE (.int k (l.getD i 0:Nat))){B}(I:g<B):Reads k w B (AE ⟨g,0,AD⟩) n l:=
 ⟨e,hw,λ_=>⟨g,0,rfl,I,λi hi=>by rw[BL,h.cell];exact H i hi⟩⟩
end
theorem Row.q2{w:World}{b:Nat}{t:TypeId}{x0 x1:Value}{l:List Value}(h:Row w b t (x0::x1::l)):w.cell? ⟨b,0,AD⟩=AE x0/\w.cell? ⟨b,1,AD⟩=AE x1:=⟨h.cell 0,h.cell 1⟩
theorem Row.r2{w:World}{b:Nat}{t:TypeId}{l:List Value}(h:Row w b t l):w.frozen? ⟨b,0,AD⟩=false/\w.frozen? ⟨b,1,AD⟩=false:=⟨h.free 0,h.free 1⟩
theorem Row.q3{w:World}{b:Nat}{t:TypeId}{x0 x1 x2:Value}{l:List Value}(h:Row w b t (x0::x1::x2::l)):w.cell? ⟨b,0,AD⟩=AE x0/\w.cell? ⟨b,1,AD⟩=AE x1/\w.cell? ⟨b,2,AD⟩=AE x2:=⟨h.cell 0,h.cell 1,h.cell 2⟩
theorem Row.r3{w:World}{b:Nat}{t:TypeId}{l:List Value}(h:Row w b t l):w.frozen? ⟨b,0,AD⟩=false/\w.frozen? ⟨b,1,AD⟩=false/\w.frozen? ⟨b,2,AD⟩=false:=⟨h.free 0,h.free 1,h.free 2⟩
theorem Row.q4{w:World}{b:Nat}{t:TypeId}{x0 x1 x2 x3:Value}{l:List Value}(h:Row w b t (x0::x1::x2::x3::l)):w.cell? ⟨b,0,AD⟩=AE x0/\w.cell? ⟨b,1,AD⟩=AE x1/\w.cell? ⟨b,2,AD⟩=AE x2/\w.cell? ⟨b,3,AD⟩=AE x3:=⟨h.cell 0,h.cell 1,h.cell 2,h.cell 3⟩
theorem Row.r4{w:World}{b:Nat}{t:TypeId}{l:List Value}(h:Row w b t l):w.frozen? ⟨b,0,AD⟩=false/\w.frozen? ⟨b,1,AD⟩=false/\w.frozen? ⟨b,2,AD⟩=false/\w.frozen? ⟨b,3,AD⟩=false:=⟨h.free 0,h.free 1,h.free 2,h.free 3⟩
theorem Row.q5{w:World}{b:Nat}{t:TypeId}{x0 x1 x2 x3 x4:Value}{l:List Value}(h:Row w b t (x0::x1::x2::x3::x4::l)):w.cell? ⟨b,0,AD⟩=AE x0/\w.cell? ⟨b,1,AD⟩=AE x1/\w.cell? ⟨b,2,AD⟩=AE x2/\w.cell? ⟨b,3,AD⟩=AE x3/\w.cell? ⟨b,4,AD⟩=AE x4:=⟨h.cell 0,h.cell 1,h.cell 2,h.cell 3,h.cell 4⟩
theorem Row.r5{w:World}{b:Nat}{t:TypeId}{l:List Value}(h:Row w b t l):w.frozen? ⟨b,0,AD⟩=false/\w.frozen? ⟨b,1,AD⟩=false/\w.frozen? ⟨b,2,AD⟩=false/\w.frozen? ⟨b,3,AD⟩=false/\w.frozen? ⟨b,4,AD⟩=false:=⟨h.free 0,h.free 1,h.free 2,h.free 3,h.free 4⟩
theorem Row.q6{w:World}{b:Nat}{t:TypeId}{x0 x1 x2 x3 x4 x5:Value}{l:List Value}(h:Row w b t (x0::x1::x2::x3::x4::x5::l)):w.cell? ⟨b,0,AD⟩=AE x0/\w.cell? ⟨b,1,AD⟩=AE x1/\w.cell? ⟨b,2,AD⟩=AE x2/\w.cell? ⟨b,3,AD⟩=AE x3/\w.cell? ⟨b,4,AD⟩=AE x4/\w.cell? ⟨b,5,AD⟩=AE x5:=⟨h.cell 0,h.cell 1,h.cell 2,h.cell 3,h.cell 4,h.cell 5⟩
theorem Row.r6{w:World}{b:Nat}{t:TypeId}{l:List Value}(h:Row w b t l):w.frozen? ⟨b,0,AD⟩=false/\w.frozen? ⟨b,1,AD⟩=false/\w.frozen? ⟨b,2,AD⟩=false/\w.frozen? ⟨b,3,AD⟩=false/\w.frozen? ⟨b,4,AD⟩=false/\w.frozen? ⟨b,5,AD⟩=false:=⟨h.free 0,h.free 1,h.free 2,h.free 3,h.free 4,h.free 5⟩
theorem Row.q7{w:World}{b:Nat}{t:TypeId}{x0 x1 x2 x3 x4 x5 x6:Value}{l:List Value}(h:Row w b t (x0::x1::x2::x3::x4::x5::x6::l)):w.cell? ⟨b,0,AD⟩=AE x0/\w.cell? ⟨b,1,AD⟩=AE x1/\w.cell? ⟨b,2,AD⟩=AE x2/\w.cell? ⟨b,3,AD⟩=AE x3/\w.cell? ⟨b,4,AD⟩=AE x4/\w.cell? ⟨b,5,AD⟩=AE x5/\w.cell? ⟨b,6,AD⟩=AE x6:=⟨h.cell 0,h.cell 1,h.cell 2,h.cell 3,h.cell 4,h.cell 5,h.cell 6⟩
theorem Row.r7{w:World}{b:Nat}{t:TypeId}{l:List Value}(h:Row w b t l):w.frozen? ⟨b,0,AD⟩=false/\w.frozen? ⟨b,1,AD⟩=false/\w.frozen? ⟨b,2,AD⟩=false/\w.frozen? ⟨b,3,AD⟩=false/\w.frozen? ⟨b,4,AD⟩=false/\w.frozen? ⟨b,5,AD⟩=false/\w.frozen? ⟨b,6,AD⟩=false:=⟨h.free 0,h.free 1,h.free 2,h.free 3,h.free 4,h.free 5,h.free 6⟩
theorem Row.q8{w:World}{b:Nat}{t:TypeId}{x0 x1 x2 x3 x4 x5 x6 x7:Value}{l:List Value}(h:Row w b t (x0::x1::x2::x3::x4::x5::x6::x7::l)):w.cell? ⟨b,0,AD⟩=AE x0/\w.cell? ⟨b,1,AD⟩=AE x1/\w.cell? ⟨b,2,AD⟩=AE x2/\w.cell? ⟨b,3,AD⟩=AE x3/\w.cell? ⟨b,4,AD⟩=AE x4/\w.cell? ⟨b,5,AD⟩=AE x5/\w.cell? ⟨b,6,AD⟩=AE x6/\w.cell? ⟨b,7,AD⟩=AE x7:=⟨h.cell 0,h.cell 1,h.cell 2,h.cell 3,h.cell 4,h.cell 5,h.cell 6,h.cell 7⟩
theorem Row.r8{w:World}{b:Nat}{t:TypeId}{l:List Value}(h:Row w b t l):w.frozen? ⟨b,0,AD⟩=false/\w.frozen? ⟨b,1,AD⟩=false/\w.frozen? ⟨b,2,AD⟩=false/\w.frozen? ⟨b,3,AD⟩=false/\w.frozen? ⟨b,4,AD⟩=false/\w.frozen? ⟨b,5,AD⟩=false/\w.frozen? ⟨b,6,AD⟩=false/\w.frozen? ⟨b,7,AD⟩=false:=⟨h.free 0,h.free 1,h.free 2,h.free 3,h.free 4,h.free 5,h.free 6,h.free 7⟩
theorem Row.q9{w:World}{b:Nat}{t:TypeId}{x0 x1 x2 x3 x4 x5 x6 x7 x8:Value}{l:List Value}(h:Row w b t (x0::x1::x2::x3::x4::x5::x6::x7::x8::l)):w.cell? ⟨b,0,AD⟩=AE x0/\w.cell? ⟨b,1,AD⟩=AE x1/\w.cell? ⟨b,2,AD⟩=AE x2/\w.cell? ⟨b,3,AD⟩=AE x3/\w.cell? ⟨b,4,AD⟩=AE x4/\w.cell? ⟨b,5,AD⟩=AE x5/\w.cell? ⟨b,6,AD⟩=AE x6/\w.cell? ⟨b,7,AD⟩=AE x7/\w.cell? ⟨b,8,AD⟩=AE x8:=⟨h.cell 0,h.cell 1,h.cell 2,h.cell 3,h.cell 4,h.cell 5,h.cell 6,h.cell 7,h.cell 8⟩
theorem Row.r9{w:World}{b:Nat}{t:TypeId}{l:List Value}(h:Row w b t l):w.frozen? ⟨b,0,AD⟩=false/\w.frozen? ⟨b,1,AD⟩=false/\w.frozen? ⟨b,2,AD⟩=false/\w.frozen? ⟨b,3,AD⟩=false/\w.frozen? ⟨b,4,AD⟩=false/\w.frozen? ⟨b,5,AD⟩=false/\w.frozen? ⟨b,6,AD⟩=false/\w.frozen? ⟨b,7,AD⟩=false/\w.frozen? ⟨b,8,AD⟩=false:=⟨h.free 0,h.free 1,h.free 2,h.free 3,h.free 4,h.free 5,h.free 6,h.free 7,h.free 8⟩
theorem Row.q10{w:World}{b:Nat}{t:TypeId}{x0 x1 x2 x3 x4 x5 x6 x7 x8 x9:Value}{l:List Value}(h:Row w b t (x0::x1::x2::x3::x4::x5::x6::x7::x8::x9::l)):w.cell? ⟨b,0,AD⟩=AE x0/\w.cell? ⟨b,1,AD⟩=AE x1/\w.cell? ⟨b,2,AD⟩=AE x2/\w.cell? ⟨b,3,AD⟩=AE x3/\w.cell? ⟨b,4,AD⟩=AE x4/\w.cell? ⟨b,5,AD⟩=AE x5/\w.cell? ⟨b,6,AD⟩=AE x6/\w.cell? ⟨b,7,AD⟩=AE x7/\w.cell? ⟨b,8,AD⟩=AE x8/\w.cell? ⟨b,9,AD⟩=AE x9:=⟨h.cell 0,h.cell 1,h.cell 2,h.cell 3,h.cell 4,h.cell 5,h.cell 6,h.cell 7,h.cell 8,h.cell 9⟩
theorem Row.r11{w:World}{b:Nat}{t:TypeId}{l:List Value}(h:Row w b t l):w.frozen? ⟨b,0,AD⟩=false/\w.frozen? ⟨b,1,AD⟩=false/\w.frozen? ⟨b,2,AD⟩=false/\w.frozen? ⟨b,3,AD⟩=false/\w.frozen? ⟨b,4,AD⟩=false/\w.frozen? ⟨b,5,AD⟩=false/\w.frozen? ⟨b,6,AD⟩=false/\w.frozen? ⟨b,7,AD⟩=false/\w.frozen? ⟨b,8,AD⟩=false/\w.frozen? ⟨b,9,AD⟩=false/\w.frozen? ⟨b,10,AD⟩=false:=⟨h.free 0,h.free 1,h.free 2,h.free 3,h.free 4,h.free 5,h.free 6,h.free 7,h.free 8,h.free 9,h.free 10⟩
theorem Row.q12{w:World}{b:Nat}{t:TypeId}{x0 x1 x2 x3 x4 x5 x6 x7 x8 x9 e x11:Value}{l:List Value}(h:Row w b t (x0::x1::x2::x3::x4::x5::x6::x7::x8::x9::e::x11::l)):w.cell? ⟨b,0,AD⟩=AE x0/\w.cell? ⟨b,1,AD⟩=AE x1/\w.cell? ⟨b,2,AD⟩=AE x2/\w.cell? ⟨b,3,AD⟩=AE x3/\w.cell? ⟨b,4,AD⟩=AE x4/\w.cell? ⟨b,5,AD⟩=AE x5/\w.cell? ⟨b,6,AD⟩=AE x6/\w.cell? ⟨b,7,AD⟩=AE x7/\w.cell? ⟨b,8,AD⟩=AE x8/\w.cell? ⟨b,9,AD⟩=AE x9/\w.cell? ⟨b,10,AD⟩=AE e/\w.cell? ⟨b,11,AD⟩=AE x11:=⟨h.cell 0,h.cell 1,h.cell 2,h.cell 3,h.cell 4,h.cell 5,h.cell 6,h.cell 7,h.cell 8,h.cell 9,h.cell 10,h.cell 11⟩
instance : Coe Nat Value := ⟨λn => AA AB n⟩
instance : Coe Int Value := ⟨λn => AA AB n⟩
instance : Coe Nat Addr := ⟨λb => ⟨b, 0, AD⟩⟩
instance : Coe World Nat := ⟨λw => w.heap.size⟩
instance : Coe Unit Value := ⟨λ_ => AA AB 0⟩
instance : Coe Bool Value := ⟨.bool⟩
instance (b k : Nat) : CoeDep (Nat × Nat) (b, k) Addr := ⟨⟨b, k, AD⟩⟩
instance (b k : Nat) : CoeDep (Nat × Nat) (b, k) (Option Addr) := ⟨AE ⟨b, k, AD⟩⟩
instance (w : World) (k : Nat) : CoeDep (World × Nat) (w, k) Addr := ⟨⟨w.heap.size, k, AD⟩⟩
instance (w : World) (k : Nat) : CoeDep (World × Nat) (w, k) (Option Addr) := ⟨AE ⟨w.heap.size, k, AD⟩⟩
theorem I4{P}(w:World){ops}{rest}{o}{a}{Q}
  (hg:o.guard=AD)(l c:Operand)(t:TypeId)(Yb:o.op=Op.makeSlice t l c)
  (e:TypeId)(i:TypeInfo)(z:Value)(h1:P.underlying t=AE (.slice e))(h2:P.info? e=AE i)(h3:i.zero=AE z)(h4:i.size=1)(h5:z.cells=#[z])
  (O U:IntKind)(L C:Int)(n:Nat)(hl:a.eval l=.int O L)(hc:a.eval c=.int U C)(hL:L=(n:Int))(hC:C=(n:Int))(b2:i.bytes*n<=281474976710656)(b3:n<=9223372036854775807)
  (hK:∀w',Row w' w.heap.size e (BA n z)->Below w.heap.size w w'->w'.heap.size=w.heap.size+1->wpList P ops Q rest (a.put o.dst (.slice (AE ⟨w.heap.size,0,AD⟩) n n)) w'):
  wpList P ops Q (o::rest) a w:=by
 refine wpList_plain hg λK J=>?_;have I:(i.bytes:Int)*(n:Int)<=281474976710656:=by
  have h:((i.bytes*n:Nat):Int)<=281474976710656:=a5;rwa [Be]at h
 have H:=run_make (P:=P) w t e i z h1 h2 h3 O U n n a5 (Int.le_refl _) I a5;subst hL;subst hC;simp only[BX]at H;unfold Oper.wp;simp[execOp,Yb,hl,hc,H,BP];refine J _ _ (hK _ ?_ ((AS _ _).alloc ao _) a8);show _= _;rw[heap_alloc_new,h4,Nat.mul_one,h5]
 congr 2
 exact Array.toList_inj.1 (by rw[toList_madeCells_one])
theorem Nq{P}(w:World)(base:Nat)(t ty e:TypeId)(i:TypeInfo)(H:P.underlying t=AE (.slice e))(hi:P.info? e=AE i)
  (v:Value)(n:Nat)(xs:List Value)(I:w.ownsRow base e 1 v n xs)(c:Nat):(Builtin.append_ #[t,t] ty #[v,.slice AD 0 c]).run P w=.ok v w:=by
 rcases I.2 with⟨rfl,rfl⟩|⟨g,cap,cur,rfl,_,_,hnc,_⟩
 ·simp[Builtin.append_,Bv H,sizeOf,typeInfo,hi,Builtin.lenOf,Builtin.firstCells]
 ·simp[Builtin.append_,Bv H,sizeOf,typeInfo,hi,Builtin.lenOf,Builtin.firstCells,hnc,storeCells]
theorem Jc{P}(w:World){ops}{rest}{o}{a}{Q}(TZ:o.guard=AD)(s x:Operand)(t:TypeId)
  (ho:o.op=.call {callee:=.builtin .append,args:=#[s,x],argTypes:=#[t,t]})
  (base:Nat)(e:TypeId)(i:TypeInfo)(z:Value)(bytes:Nat)(U:P.underlying t=AE (.slice e))(hi:P.info? e=AE i)(hz:i.zero=AE z)
  (GI:i.size=1)(uD:i.bytes=bytes)(mT:z.cells.size=1)
  (v:Value)(n:Nat)(xs:List Value)(hs:a.eval s=v)(J:w.ownsRow base e 1 v n xs)
  (A:Option Addr)(m c:Nat)(news:List Value)(O:a.eval x=.slice A m c)(hl:news.length=m)
  (QS:0<m->∃ad,A=AE ad/\∀j u,news[j]?=AE u->w.cell? (ad.add j)=AE u)(h1:∀u∈news,u.oneCell'=true)
  (uL:n+m<=9223372036854775807)(MY:(n+m)*bytes<=140737488355328)(Lj:base<=w.heap.size)
  (h:∀v' w',w'.ownsRow base e 1 v' (n+m) (xs++news)->Below base w w'->wpList P ops Q rest (a.put o.dst v') w'):wpList P ops Q (o::rest) a w:=by
 rcases A with _|ad
 ·have hm:m=0:=by
   rcases A7 m with H|H
   ·exact H
   ·obtain⟨ad,hh,_⟩:=QS H;cases hh
  subst hm;obtain rfl:news=[]:=List.eq_nil_of_length_eq_zero hl;refine wpList_plain TZ λK hK=>?_;have I:=Nq (P:=P) w base t o.type e i U hi v n xs J c;unfold Oper.wp;simp[execOp,ho,resolve,invoke,builtin,hs,O,I,BP];exact hK _ _ (h v w (by simpa using J) (AS _ _))
 ·refine wpList_append_own w TZ s x t ho base e i z 1 bytes U hi hz GI uD mT a5 v n xs hs J ad m c news O a5 ?_ h1 uL MY Lj ?_
  ·intro j u hj;rcases A7 m with H|H
   ·obtain rfl:news=[]:=List.eq_nil_of_length_eq_zero a5;simp at hj
   ·obtain⟨aa,hh,hc⟩:=QS H;injection hh with hh;subst hh
    exact hc j u hj
  ·intro v' w' h2 h3 _;exact h v' w' h2 ((AS _ _).grown h3 Lj λk hk=>(J.lt k hk).1)
theorem fL{w base e v n k}{l:List Nat}(h:w.ownsRow base e 1 v n (l.map λc:Nat=>Bg k c))(hw:∀x∈l,(Cd k x).wf=true):
  ∃A c,v=AJ A n c/\Reads k w w.heap.size A n l/\l.length=n:=by
 obtain⟨O,Q⟩:=h;have H:l.length=n:=by simpa using O
 rcases Q with⟨rfl,rfl⟩|⟨g,cap,cur,rfl,hg,hh,hcap,hm,hs,ht⟩
 ·exact⟨AD,0,rfl,⟨H,hw,λh=>absurd h a5⟩,H⟩
 ·refine⟨AE ⟨g,0,AD⟩,cap,rfl,⟨H,hw,λ_=>⟨g,0,rfl,?_,λi hi=>?_⟩⟩,H⟩
  ·rcases Am g w.heap.size with I|J
   ·exact I
   ·rw[Array.getElem?_eq_none J]at hh;cases hh
  ·have h3:w.cell? ⟨g,0+i,AD⟩=cur[0+i]?:=by simp[World.cell?,hh]
   rw[h3,BL];have h4:(cur.toList.take (n*1))[i]?=cur.toList[i]?:=by rw[At,if_pos a5]
   rw[ht]at h4;rw[<-Array.getElem?_toList,<-h4,Bd,AT];rw[AU a5];rfl
theorem sP{w base e v n xs}(h:w.ownsRow base e 1 v n xs)(H:0<n):
  ∃g cap cs,v=AJ (AE ⟨g,0,AD⟩) n cap/\base<=g/\Row w g e cs/\n<=cap/\cap<=maxLen/\cs.length=cap/\cs.take n=xs:=by
 rcases h.2 with⟨_,h0⟩|⟨g,cap,cur,rfl,hg,hh,hcap,hm,hs,ht⟩
 ·omega
 ·exact⟨g,cap,cur.toList,rfl,hg,hh,hcap,hm,by simpa using hs,by simpa using ht⟩
def Up(k:IntKind)(w:World)(a:Option Addr)(len cap:Nat)(zs:List Int):Prop:=
 (a=AD/\len=0/\cap=0/\zs=[])\/
 ∃x,a=AE x/\len<=cap/\cap<=maxLen/\zs.length=cap/\(∀i,i<zs.length->w.cell? (x.add i)=AE (.int k (zs.getD i 0)))/\∀n∈zs,(Cd k n).wf=true
theorem Up.reads{k w a len cap zs}(h:Up k w a len cap zs)(O:∀n:Int,(Cd k n).wf=true->0<=n):
  ∃l:List Nat,Reads k w w.heap.size a len l:=by
 rcases h with⟨rfl,rfl,rfl,rfl⟩|⟨x,rfl,hlc,hm,hz,GU,hwf⟩
 ·exact⟨[],rfl,a8,λh=>absurd h a5⟩
 ·refine⟨(zs.take len).map Int.toNat,by simp;omega,?_,λDe=>?_⟩
  ·intro c H;obtain⟨z,Ew,rfl⟩:=Az.1 H;have Q:=hwf z (Bo Ew);rw[Int.toNat_of_nonneg (O z Q)];exact Q
  ·obtain⟨b,off,spot⟩:=x;have H:=GU 0 a5;have U:spot=AD:=by simpa [CY]using World.cell?_spot H
   subst U;refine⟨b,off,rfl,Ci H,λi hi=>?_⟩;have I:i<zs.length:=a5;have J:=GU i I;have e:(⟨b,off,AD⟩:Addr).add i=⟨b,off+i,AD⟩:=by unfold CY;split<;>simp_all
   rw[e]at J;rw[J,AT,AT,Bd,At,if_pos hi,AU I];have:=O zs[i] (hwf _ (Bs I));simp[Int.toNat_of_nonneg this]
theorem Up.cap{k w a len cap zs}(h:Up k w a len cap zs):len<=cap/\cap<=9223372036854775807:=by
 rcases h with⟨_,h1,h2,_⟩|⟨_,_,h1,h2,_⟩
 ·omega
 ·unfold maxLen at h2;omega
theorem AD5(n:Int)(h:(Cd .u8 n).wf=true):0<=n:=by
 simp[Lit.wf,IntKind.min,IntKind.max,IntKind.signed,IntKind.bits]at h;omega
theorem Zv{n}(h:(Cd AB n).wf=true):-9223372036854775808<=n/\n<=9223372036854775807:=by
 simp[Lit.wf,IntKind.min,IntKind.max,IntKind.signed,IntKind.bits]at h;omega
theorem sC{P}(w:World)(t e:TypeId)(Q:TypeInfo)(U:P.underlying t=AE (.slice e))(hi:P.info? e=AE Q)(hs:Q.size=1)(b off len cap i j:Nat)(Il:i<=j)(hj:j<=cap)(aa:i<cap)
  (H O:IntKind)(I J:Int)(hI:I=i)(hJ:J=j):
  (Instr.slice t (.slice (AE ⟨b,off,AD⟩) len cap) (AE (.int H I)) (AE (.int O J)) AD).run P w=.ok (.slice (AE ⟨b,off+i,AD⟩) (j-i) (cap-i)) w:=by
 subst hI hJ;have he:P.elem t=e:=by simp[Program.elem,U]
 rw[run_slice_lh w t _ len cap (by rw[he];exact U) H O i j a5 a5 a5];have zU:¬cap=i:=a5;simp[he,sizeOf,typeInfo,hi,hs,sliced,zU,CY]
theorem EO{P ops Q rest a w}(s:Nat){op}{ty}{pos}{after}{guard}
  (h:Hid (wpList P ops Q (⟨AE s,op,ty,pos,after,guard⟩::rest) a w)):wpList P ops Q (⟨AE s,op,ty,pos,after,guard⟩::rest) a w:=h
theorem Reads.source{k w B a n l}(h:Reads k w B a n l):
  0<n->∃ad,a=AE ad/\∀j u,(l.map λc:Nat=>Bg k c)[j]?=AE u->w.cell? (ad.add j)=AE u:=by
 intro De;obtain⟨hlen,_,Q⟩:=h;obtain⟨b,off,rfl,hb,Q⟩:=Q De;refine⟨_,rfl,λj v I=>?_⟩;have H:j<l.length:=by
  rcases Am j l.length with J|O
  ·exact J
  ·rw[BG (by simpa using O)]at I;cases I
 have U:=Q j a5;rw[Bd,AU H]at I;have e:(⟨b,off,AD⟩:Addr).add j=⟨b,off+j,AD⟩:=by unfold CY;split<;>simp_all
 rw[e,U,<-I];simp[H]
theorem Uh{k}{l:List Nat}:∀u∈l.map (λc:Nat=>Bg k c),u.oneCell'=true:=by
 intro v e;obtain⟨c,_,rfl⟩:=Az.1 e;rfl
theorem Reads.take{k w B a n m l}(h:Reads k w B a n l)(hm:m<=n):Reads k w B a m (l.take m):=by
 obtain⟨I,hw,e⟩:=h;refine⟨by simp;omega,λx H=>hw x (Bo H),λJ=>?_⟩;obtain⟨b,off,rfl,hb,e⟩:=e a5;refine⟨b,off,rfl,hb,λi hi=>?_⟩;rw[e i a5];simp only[AT,At,if_pos hi]
theorem Fc{P}(w:World)(t e:TypeId)(O:TypeInfo)(I:P.underlying t=AE (.slice e))(hi:P.info? e=AE O)(a:Option Addr)(len cap j:Nat)(hj:j<=cap)
  (H:IntKind)(J:Int)(Q:J=j):
  (Instr.slice t (.slice a len cap) AD (AE (.int H J)) AD).run P w=.ok (.slice a j cap) w:=by
 subst Q;have he:P.elem t=e:=by simp[Program.elem,I]
 rw[run_slice_h w t a len cap (by rw[he];exact I) H j a5 a5];have U:a.map (λx:Addr=>x.add 0)=a:=by cases a<;>simp[CY]
 simp[he,sizeOf,typeInfo,hi,sliced,U]
def Fg(n:Int):Prop:=(Cd AB n).wf=true
theorem Fg.bounds{n}(h:Fg n):-9223372036854775808<=n/\n<=9223372036854775807:=Zv h
theorem Fg.of{n}(H:-9223372036854775808<=n)(e:n<=9223372036854775807):Fg n:=by
 simp[Fg,Lit.wf,IntKind.min,IntKind.max,IntKind.signed,IntKind.bits];omega
structure DG (F:Nat->Prop) (w w':World):Prop where
 os:w'.os=w.os
 tape:w'.tape=w.tape
 output:w'.output=w.output
 size:w.heap.size<=w'.heap.size
 block:∀k,k<w.heap.size->¬F k->w'.heap[k]?=w.heap[k]?
section
variable{F F':Nat->Prop}{w w1 w2:World}
theorem DG.refl(F:Nat->Prop)(w:World):DG F w w:=⟨rfl,rfl,rfl,AQ _,λ_ _ _=>rfl⟩
theorem DG.trans(h:DG F w w1)(k:DG F' w1 w2)(hF:∀b,F' b->F b\/w<=b):DG F w w2:=
 ⟨k.os.trans h.os,k.tape.trans h.tape,k.output.trans h.output,Af h.size k.size,λb hb e=>(k.block b (BH hb h.size) λhf=>by
  rcases hF b hf with H|H
  ·exact e H
  ·omega).trans (h.block b hb e)⟩
theorem DG.DB(h:Below w w w1)(F:Nat->Prop):DG F w w1:=⟨h.os,h.tape,h.output,h.size,λk e _=>h.block k e⟩
theorem DG.below(h:DG F w w1){B:Nat}(H:B<=w)(hF:∀b,F b->B<=b):Below B w w1:=⟨h.os,h.tape,h.output,h.size,λk e=>h.block k a5 λhf=>by have:=hF k hf;omega⟩
theorem DG.mono(h:DG F w w1)(hF:∀b,F b->F' b):DG F' w w1:=⟨h.os,h.tape,h.output,h.size,λk H e=>h.block k H λhf=>e (hF k hf)⟩
theorem DG.drewN(h:DG F w w1)(m:Nat):DG F w (w1.drewN m):=⟨h.os,h.tape,h.output,h.size,h.block⟩
theorem DG.drew(h:DG F w w1):DG F w w1.drew:=⟨h.os,h.tape,h.output,h.size,h.block⟩
theorem DG.set(h:DG F w w1){p:Addr}(hp:F p.block\/w<=p.block)(v:Value):DG F w (w1.setCell p v):=by
 have e:=(AS 0 w1).setCell (Aq p.block) v;refine h.trans (F':=λb=>b=p.block) ⟨e.os,e.tape,e.output,e.size,λk _ H=>heap_setCell_other w1 p k v H⟩ ?_;intro b hb;subst hb;exact hp
theorem DG.alloc(h:DG F w w1)(o:Obj):DG F w (w1.alloc o):=h.trans (DG.DB ((AS _ w1).alloc ao o) λ_=>False) λ_ hf=>hf.elim
theorem DG.grown(h:DG F w w1){row}(H:w1.grownBy w2 row)(I:∀k,row=AE k->F k\/w<=k):DG F w w2:=
 h.trans (F':=λb=>row=AE b) ⟨H.os,H.tape,H.output,H.size,λk O J=>H.block k O λe=>J e.symm⟩ λb hb=>I b hb
theorem DG.row(h:DG F w w1){g}{t}{cs}(e:Row w g t cs)(H:¬F g):Row w1 g t cs:=(h.block g e.lt H).trans e
end
def AU0(w:World)(B:Nat)(a:Option Addr)(n:Nat)(l:List Bool):Prop:=
 l.length=n/\(0<n->∃b off,a=AE ⟨b,off,AD⟩/\b<B/\∀i,i<n->w.cell? ⟨b,off+i,AD⟩=AE (.bool (l.getD i false)))
theorem U3{P ops Q rest a w t m x v ty pos after guard}
  (h:Hid (wpList P ops Q (⟨AD,.mapUpdate t m x v,ty,pos,after,guard⟩::rest) a w)):wpList P ops Q (⟨AD,.mapUpdate t m x v,ty,pos,after,guard⟩::rest) a w:=h
structure Kept (K:Obj->Prop) (w w':World):Prop where
 os:w'.os=w.os
 tape:w'.tape=w.tape
 output:w'.output=w.output
 size:w.heap.size<=w'.heap.size
 block:∀(k:Nat) (o:Obj),w.heap[k]?=AE o->¬K o->w'.heap[k]?=AE o
def rowsOf(T:TypeId->Prop)(o:Obj):Prop:=∃(cs:Array Value) (t:TypeId),o=.cells cs t (0,0)/\T t
section
variable{K:Obj->Prop}{T:TypeId->Prop}{w w1 w2:World}
theorem Kept.refl(K:Obj->Prop)(w:World):Kept K w w:=⟨rfl,rfl,rfl,AQ _,λ_ _ h _=>h⟩
theorem Kept.trans(h:Kept K w w1)(k:Kept K w1 w2):Kept K w w2:=⟨k.os.trans h.os,k.tape.trans h.tape,k.output.trans h.output,Af h.size k.size,λi o hi e=>k.block i o (h.block i o hi e) e⟩
theorem Zi{k:Nat}{o}(h:w.heap[k]?=AE o):k<w:=by
 rcases Am k w.heap.size with e|e
 ·exact e
 ·rw[Array.getElem?_eq_none e]at h;cases h
theorem Kept.set(h:Kept (rowsOf T) w w1){p}{t}{cs}(J:Row w1 p.block t cs)(O:T t)(v:Value):Kept (rowsOf T) w (w1.setCell p v):=by
 have I:=(AS 0 w1).setCell (Aq p.block) v;refine h.trans ⟨I.os,I.tape,I.output,I.size,λk o H Q=>?_⟩;rw[heap_setCell_other w1 p k v λe=>?_]
 ·exact H
 ·subst e;unfold Row at J;rw[J]at H;injection H with H;subst H
  exact Q ⟨_,_,rfl,O⟩
theorem VM(h:Kept (rowsOf T) w w1){base}{e}{n s}{v}{xs}(U:w.ownsRow base e s v n xs)(hT:¬T e):w1.ownsRow base e s v n xs:=by
 obtain⟨O,H⟩:=U;refine⟨O,?_⟩;rcases H with H|⟨g,cap,cur,rfl,J,hh,r⟩
 ·exact .inl H
 ·exact .inr ⟨g,cap,cur,rfl,J,h.block g _ hh λ⟨_,_,I,Q⟩=>hT (by injection I with _ I;subst I;exact Q),r⟩
theorem XE{base e n s v xs}(J:w.ownsRow base e s v n xs){p}{t}{cs}(I:Row w p.block t cs)(H:e≠t)(u:Value):(w.setCell p u).ownsRow base e s v n xs:=
 VM (T:=λx=>x=t) (Kept.set (T:=λx=>x=t) (Kept.refl _ w) I rfl u) J H
end
theorem Fq{w w':World}{base s e v n xs}(h:w.ownsRow base e s v n xs)(hb:∀k,v.ownBlock=AE k->w'.heap[k]?=w.heap[k]?):w'.ownsRow base e s v n xs:=by
 obtain⟨J,H⟩:=h;refine⟨J,?_⟩;rcases H with H|⟨g,cap,cur,rfl,I,hh,r⟩
 ·exact .inl H
 ·exact .inr ⟨g,cap,cur,rfl,I,(hb g rfl).trans hh,r⟩
section
variable{α:Type}
def WG(f:Int->Option α)(i:Int)(x:α):Int->Option α:=λk=>if k=i then AE x else f k
def lay(f:Int->Option α)(l:List (Int×α)):Int->Option α:=l.foldl (λf e=>WG f e.1 e.2) f
def nothing:Int->Option α:=λ_=>AD
theorem KW(f:Int->Option α)(i:Int)(x:α):WG f i x i=AE x:=by simp[WG]
theorem JQ(f:Int->Option α){i k}(x:α)(h:k≠i):WG f i x k=f k:=by simp[WG,h]
theorem SB(f:Int->Option α)(l:List (Int×α))(i:Int)(x:α):lay f (l++[(i,x)])=WG (lay f l) i x:=by simp[lay,List.foldl_append]
def over(f g:Int->Option α):Int->Option α:=λk=>match f k with|some x=>AE x|none=>g k
theorem lX(f g:Int->Option α)(i:Int)(x:α):over (WG f i x) g=WG (over f g) i x:=by
 funext k
 by_cases h:k=i
 ·subst h;simp[over,WG]
 ·simp[over,WG,h]
theorem XW(g:Int->Option α):∀(l:List (Int×α)) (f:Int->Option α),lay (over f g) l=over (lay f l) g
 |[],_=>rfl
 |e::l,f=>by
  show lay (WG (over f g) e.1 e.2) l=over (lay (WG f e.1 e.2) l) g;rw[<-lX];exact XW g l _
theorem VN(g:Int->Option α):over nothing g=g:=by funext k;rfl
theorem yw(g:Int->Option α)(l:List (Int×α)):lay g l=over (lay nothing l) g:=by rw[<-XW,VN]
def kept:List Bool->List (Int×α)->List (Int×α)
 | _,[]=>[]
 |[],_=>[]
 |b::k,e::l=>if b then e::kept k l else kept k l
theorem VV(p:α->Prop):∀(l:List (Int×α)) (f:Int->Option α),(∀k x,f k=AE x->p x)->(∀e∈l,p e.2)->∀k x,lay f l k=AE x->p x
 |[],f,hf,_=>hf
 |e::l,f,hf,I=>by
  refine VV p l (WG f e.1 e.2) ?_ λJ he=>I J (BB _ he);intro k x H;by_cases h:k=e.1
  ·subst h;rw[KW]at H;injection H with H;subst H;exact I e Ax
  ·rw[JQ _ _ h]at H;exact hf k x H
end
structure St where
 size:Nat
 blocks:Int
 fl:Int->Option (List Nat)
 Dk:List (Int×List Nat)
 fb:Bool
 fn:Int
 tb:Bool
 tn:Int
 down:Bool
 Dg:Int
def fresh(size:Nat)(blocks:Int):St:=⟨size,blocks,nothing,[],false,0,false,0,false,0⟩
def blk(n:Nat)(o:Option (List Nat)):List Nat:=match o with|some l=>l|none=>BA n 0
def St.now(s:St)(x:Int):List Nat:=blk s.size (lay s.fl s.Dk x)
def begin(s:St)(right:Bool):Int×St:=
 if s.down then (8,s)else if right=false then (1,s)
 else if s.fb=true/\s.fn=0 then (8,{s with down:=true})
 else
  let fn':=if s.fb then s.fn-1 else s.fn
  if s.tb=true/\s.tn=0 then (6,{s with fn:=fn',tb:=false,tn:=0})
  else (0,{s with fn:=fn',tn:=if s.tb then s.tn-1 else s.tn,Dg:=s.Dg+1})
def right(s:St)(i:Int):Bool:=decide (0<=i)&&decide (i<s.blocks)
def read(s:St)(i:Int):Int×St:=begin s (right s i)
def write(s:St)(i:Int)(l:List Nat):Int×St:=
 let r:=begin s (right s i&&decide (l.length=s.size))
 if r.1=0 then (0,{r.2 with Dk:=s.Dk++[(i,l)]})else r
theorem GX(s:St)(b:Bool):(begin s b).2.size=s.size/\(begin s b).2.blocks=s.blocks/\(begin s b).2.fl=s.fl/\(begin s b).2.Dk=s.Dk:=by
 unfold begin;split<;>(try split)<;>(try split)<;>(try dsimp only)<;>(try split)<;>exact⟨rfl,rfl,rfl,rfl⟩
theorem an(s:St)(b:Bool):(begin s b).2.Dg=s.Dg\/(begin s b).2.Dg=s.Dg+1:=by
 unfold begin;split<;>(try split)<;>(try split)<;>(try dsimp only)<;>(try split)<;>first|exact .inl rfl|exact .inr rfl
def Calm(s:St):Prop:=s.down=false/\s.fb=false/\s.tb=false
theorem aO(n:Nat)(b:Int):Calm (fresh n b):=⟨rfl,rfl,rfl⟩
theorem ak(s:St)(b:Bool)(e:s.down=true):begin s b=(8,s):=by unfold begin;simp[e]
theorem AD9{l:List (Int×Int)}{i}(h:i<l.length):l.getD i (0,0)∈l:=by
 rw[AT,AU h];exact Bs h
def oy(w:World)(B:Nat)(a:Option Addr)(n:Nat)(l:List (Int×Int)):Prop:=
 l.length=n/\(∀x∈l,Fg x.1/\Fg x.2)/\
 (0<n->∃b off,a=AE ⟨b,off,AD⟩/\b<B/\∀i,i<n->w.cell? ⟨b,off+i*2,AD⟩=AE (AA AB (l.getD i (0,0)).1)/\w.cell? ⟨b,off+i*2+1,AD⟩=AE (AA AB (l.getD i (0,0)).2))
theorem oy.nil(w:World)(B:Nat)(a:Option Addr):oy w B a 0 []:=⟨rfl,a8,λh=>absurd h a5⟩
def OC(w:World)(B:Nat)(a:Option Addr)(n:Nat)(l:List Int):Prop:=
 l.length=n/\(∀x∈l,Fg x)/\(0<n->∃b off,a=AE ⟨b,off,AD⟩/\b<B/\∀i,i<n->w.cell? ⟨b,off+i,AD⟩=AE (AA AB (l.getD i 0)))
theorem OC.at_{w B a n l}(h:OC w B a n l){i}(hi:i<n):
  ∃b off u,a=AE ⟨b,off,AD⟩/\b<B/\w.cell? ⟨b,off+i,AD⟩=AE (AA AB u)/\Fg u/\Hid (l.getD i 0=u):=by
 obtain⟨H,hw,e⟩:=h;obtain⟨b,off,rfl,hb,e⟩:=e a5;have:i<l.length:=a5;have hm:l.getD i 0∈l:=by rw[AT,AU this];exact Bs this
 exact⟨b,off,_,rfl,hb,e i hi,hw _ hm,rfl⟩
theorem OC.GS{w w' B a n l}(h:OC w B a n l)(hb:Below B w w'):OC w' B a n l:=by
 obtain⟨J,hw,e⟩:=h;refine⟨J,hw,λI=>?_⟩;obtain⟨b,off,rfl,H,e⟩:=e I;exact⟨b,off,rfl,H,λi hi=>(hb.cell (p:=(b,off+i)) H).trans (e i hi)⟩
theorem Up.AP1{w a len cap zs}(h:Up AB w a len cap zs):OC w w a len (zs.take len):=by
 rcases h with⟨rfl,rfl,rfl,rfl⟩|⟨x,rfl,hlc,hm,hz,GU,hwf⟩
 ·exact⟨rfl,a8,λh=>absurd h a5⟩
 ·refine⟨by simp;omega,λz Q=>hwf z (Bo Q),λU=>?_⟩;obtain⟨b,off,spot⟩:=x;have H:=GU 0 a5;have J:spot=AD:=by simpa [CY]using World.cell?_spot H
  subst J;refine⟨b,off,rfl,Ci H,λi hi=>?_⟩;have O:i<zs.length:=a5;have I:=GU i O;have e:((b,off):Addr).add i=(b,off+i):=by unfold CY;split<;>simp_all
  rw[e]at I;rw[I,AT,AT,At,if_pos hi]
def Rh(a:Option Addr)(i cap sz:Nat):Option Addr:=if cap=i then a else a.map (·.add (i*sz))
theorem EW{g off i cap sz}(h:i<cap):Rh (AE ⟨g,off,AD⟩) i cap sz=AE ⟨g,off+i*sz,AD⟩:=by
 unfold Rh;rw[if_neg a5];simp[CY]
section
variable{P:Program}{w:World}
theorem EX(w:World)(t e:TypeId)(J:TypeInfo){sz}(O:P.underlying t=AE (.slice e))(hi:P.info? e=AE J)(Q:J.size=sz)(a:Option Addr)(len cap i:Nat)(U:i<=len)
  (H:IntKind)(I:Int)(hI:I=i):(Instr.slice t (.slice a len cap) (AE (.int H I)) AD AD).run P w=.ok (.slice (Rh a i cap sz) (len-i) (cap-i)) w:=by
 subst hI;have he:P.elem t=e:=by simp[Program.elem,O]
 rw[run_slice_l w t a len cap (by rw[he];exact O) H i a5 a5];simp[he,sizeOf,typeInfo,hi,Q,sliced,Rh]
theorem J8(w:World)(t e:TypeId)(Q:TypeInfo){sz}(U:P.underlying t=AE (.slice e))(hi:P.info? e=AE Q)(hs:Q.size=sz)(a:Option Addr)(len cap i j:Nat)(Il:i<=j)(hj:j<=cap)
  (H O:IntKind)(I J:Int)(hI:I=i)(hJ:J=j):(Instr.slice t (.slice a len cap) (AE (.int H I)) (AE (.int O J)) AD).run P w=.ok (.slice (Rh a i cap sz) (j-i) (cap-i)) w:=by
 subst hI hJ;have he:P.elem t=e:=by simp[Program.elem,U]
 rw[run_slice_lh w t a len cap (by rw[he];exact U) H O i j a5 a5 a5];simp[he,sizeOf,typeInfo,hi,hs,sliced,Rh]
theorem DL{α}(L:List α)(off:Nat)(cs:List α)(h:off+cs.length<=L.length):(splice L off cs).length=L.length:=length_splice L off cs h
theorem ET{α}(L:List α)(off:Nat)(cs:List α)(h:off+cs.length<=L.length){k}(e:k<off\/off+cs.length<=k):(splice L off cs)[k]?=L[k]?:=by
 unfold splice;rcases e with e|e
 ·rw[Al (by rw[Ac];omega),At,if_pos e]
 ·rw[AX (by rw[Ac];omega),AX (by rw[Ac];omega),CL]
  congr 1;rw[Ac];omega
theorem JF{α}(C X Y:List α)(a b c:Nat)(hb:b=a+X.length)(H:c=b+Y.length)(h:c<=C.length):(splice (splice C a X) b Y).take c=C.take a++X++Y:=by
 have e:(splice C a X).take b=C.take a++X:=by
  unfold splice;rw[<-AR,CX (by simp;omega)];exact Ao (by simp;omega)
 unfold splice at e⊢;rw[e,<-AR,CX (by simp;omega)];exact Ao (by simp;omega)
theorem NQ{α}(C X Y:List α)(a b c:Nat)(hb:b=a+X.length)(H:c=b+Y.length)(h:c<=C.length):(splice (splice C b Y) a X).take c=C.take a++X++Y:=by
 have e:splice (splice C b Y) a X=splice (splice C a X) b Y:=by
  apply List.ext_getElem?;intro k;have l1:(splice C a X).length=C.length:=length_splice _ _ _ a5;have I:(splice C b Y).length=C.length:=length_splice _ _ _ a5;by_cases O:a<=k/\k<a+X.length
  ·rw[ET (splice C a X) b Y a5 a5];unfold splice;rw[AX (by simp;omega),Al (by simp;omega),AX (by simp;omega),Al (by simp;omega)]
   congr 1
   simp;omega
  ·rw[ET (splice C b Y) a X a5 a5];by_cases J:b<=k/\k<b+Y.length
   ·unfold splice;rw[AX (by simp;omega),Al (by simp;omega),AX (by simp;omega),Al (by simp;omega)]
    congr 1
    simp;omega
   ·rw[ET C b Y a5 a5,ET (splice C a X) b Y a5 a5,ET C a X a5 a5]
 rw[e];exact JF C X Y a b c hb H h
theorem DG.setRow(w:World)(g:Nat)(cs:Array Value):DG (λk=>k=g) w (w.setRow g cs):=
 ⟨rfl,rfl,rfl,by simp[World.setRow],λk _ e=>setRow_other w g k cs e⟩
theorem NT(w:World)(dT sT ty e:TypeId){sz}(hu:P.underlying dT=AE (.slice e))(H:(P.info? e).map (·.size)=AE sz)(Vd:0<sz)(dp sp:Option Addr)(J aX I Ws g off:Nat)(cur:List Value)(t:TypeId)(U:Row w g t cur)
  (cs:List Value)(hn:cs.length=CW I J*sz)(De:0<cs.length->dp=AE ⟨g,off,AD⟩/\∃ad,sp=AE ad/\∀j v,cs[j]?=AE v->w.cell? (ad.add j)=AE v)(Q:off+cs.length<=cur.length)(h1:∀v∈cs,v.oneCell'=true):
  ∃w',(Builtin.copy_ #[dT,sT] ty #[.slice dp J aX,.slice sp I Ws]).run P w=.ok (goInt (CW I J)) w'/\Row w' g t (splice cur off cs)/\DG (λk=>k=g) w w':=by
 obtain⟨i,hi,hs⟩:∃i,P.info? e=AE i/\i.size=sz:=by
  rcases hq:P.info? e with _|i
  ·rw[hq]at H;cases H
  ·rw[hq]at H;exact⟨i,rfl,by simpa using H⟩
 by_cases h0:cs.length=0
 ·obtain rfl:cs=[]:=List.eq_nil_of_length_eq_zero h0;have Lr:CW I J=0:=by
   rcases A7 (CW I J)with h|h
   ·exact h
   ·have:=Nat.mul_pos h Vd;simp at hn;omega
  have hl:∀(x:Addr),(loadCells x 0).run P w=.ok #[] w:=λx=>by simpa using run_loadCells_list (P:=P) w x [] a8
  refine⟨w,?_,by simpa [splice]using U,DG.refl _ _⟩;rw[Lr]
  cases dp<;>cases sp<;>simp[Builtin.copy_,Bv hu,Builtin.lenOf,Builtin.firstCells,sizeOf,typeInfo,hi,Lr,storeCells,hl]
 ·obtain⟨rfl,ad,rfl,EY⟩:=De a5;have hf:=run_firstCells_some (P:=P) w sz (CW I J) ad I Ws cs hn EY;have O:=run_storeCells_at P g off t cs 0 cur.toArray w U (by simpa using Q) h1;refine⟨w.setRow g (splice cur off cs).toArray,?_,setRow_heap w g _ _ t _ U,DG.setRow w g _⟩;simp only[Nat.add_zero]at O;have e2:splice cur off cs=cur.take off++cs++cur.drop (off+cs.length):=by unfold splice;rw[AR]
  simp[Builtin.copy_,Bv hu,Builtin.lenOf,sizeOf,typeInfo,hi,hs,hf,O,e2]
theorem Eb{ops rest o a Q}(TZ:o.guard=AD)(d s:Operand)(dT sT:TypeId)
  (ho:o.op=.call {callee:=.builtin .copy,args:=#[d,s],argTypes:=#[dT,sT]})(e:TypeId){sz}(hu:P.underlying dT=AE (.slice e))(U:(P.info? e).map (·.size)=AE sz)(Vd:0<sz)
  (dp sp:Option Addr)(J aX O Ws:Nat)(hd:a.eval d=.slice dp J aX)(hs:a.eval s=.slice sp O Ws)(g off:Nat)(cur:List Value)(t:TypeId)(hg:Row w g t cur)
  (cs:List Value)(hn:cs.length=CW O J*sz)(De:0<cs.length->dp=AE ⟨g,off,AD⟩/\∃ad,sp=AE ad/\∀j v,cs[j]?=AE v->w.cell? (ad.add j)=AE v)(I:off+cs.length<=cur.length)(h1:∀v∈cs,v.oneCell'=true)
  (h:∀w',Hid (Row w' g t (splice cur off cs))->Hid (DG (λk=>k=g) w w')->wpList P ops Q rest (a.put o.dst (goInt (CW O J))) w'):wpList P ops Q (o::rest) a w:=by
 obtain⟨w',H,h2,h3⟩:=NT w dT sT o.type e hu U Vd dp sp J aX O Ws g off cur t hg cs hn De I h1;refine wpList_plain TZ λK hK=>?_;unfold Oper.wp;simp[execOp,ho,resolve,invoke,builtin,hd,hs,H,BP];exact hK _ _ (h w' h2 h3)
theorem GO{ops o a K Q E}(TZ:o.guard=AD)(d s:Operand)(dT sT:TypeId)
  (ho:o.op=.call {callee:=.builtin .copy,args:=#[d,s],argTypes:=#[dT,sT]})(e:TypeId){sz}(hu:P.underlying dT=AE (.slice e))(U:(P.info? e).map (·.size)=AE sz)(Vd:0<sz)
  (dp sp:Option Addr)(J aX O Ws:Nat)(hd:a.eval d=.slice dp J aX)(hs:a.eval s=.slice sp O Ws)(g off:Nat)(cur:List Value)(t:TypeId)(hg:Row w g t cur)
  (cs:List Value)(hn:cs.length=CW O J*sz)(De:0<cs.length->dp=AE ⟨g,off,AD⟩/\∃ad,sp=AE ad/\∀j v,cs[j]?=AE v->w.cell? (ad.add j)=AE v)(I:off+cs.length<=cur.length)(h1:∀v∈cs,v.oneCell'=true)
  (h:∀w',Hid (Row w' g t (splice cur off cs))->Hid (DG (λk=>k=g) w w')->K (a.put o.dst (goInt (CW O J))) w'):if Region.wanted o (yielded ops a.tmps)=true then Oper.wp P o a w K Q else E:=by
 have hw:Region.wanted o (yielded ops a.tmps)=true:=by simp[Region.wanted,TZ]
 rw[if_pos hw];obtain⟨w',H,h2,h3⟩:=NT w dT sT o.type e hu U Vd dp sp J aX O Ws g off cur t hg cs hn De I h1;unfold Oper.wp;simp[execOp,ho,resolve,invoke,builtin,hd,hs,H,BP];exact h w' h2 h3
theorem Tj{z}(h:∀v∈z.toList,v.oneCell'=true)(n:Nat):∀v∈(BZ z n).toList,v.oneCell'=true:=by
 intro v H;simp only[BZ,Array.toList_map,Az,Array.mem_toList_iff]at H;obtain⟨i,hi,rfl⟩:=H;have hi:i<n*z.size:=by simpa using hi
 have I:0<z.size:=by
  rcases A7 z.size with e|e
  ·rw[e,Nat.mul_zero]at hi;omega
  ·exact e
 have hm:=Bw i I;rw[getElem!_pos z _ hm];exact h _ a8
theorem Rr(w:World)(t e ty:TypeId)(z:Value){sz}(U:P.underlying t=AE (.slice e))(hv:∀w,(zeroValue e).run P w=.ok z w)(hz:z.cells.size=sz)(h1:∀v∈z.cells.toList,v.oneCell'=true)
  (A:Option Addr)(n c g off:Nat)(cur:List Value)(J:TypeId)(O:Row w g J cur)(De:0<n->A=AE ⟨g,off,AD⟩)(I:off+n*sz<=cur.length):
  ∃w' Q,(Builtin.clear_ #[t] ty #[.slice A n c]).run P w=.ok (AM #[]) w'/\Row w' g J Q/\Q.length=cur.length/\Q.take off=cur.take off/\DG (λk=>k=g) w w':=by
 cases n with
 |zero=>
  refine⟨w,cur,?_,O,rfl,rfl,DG.refl _ _⟩
  cases A<;>simp[Builtin.clear_,Bv U]
 |succ m=>
  obtain rfl:=De a5;have hlen:(BZ z.cells (m+1)).toList.length=(m+1)*sz:=by simp[BZ,hz]
  have H:=run_storeCells_at P g off J (BZ z.cells (m+1)).toList 0 cur.toArray w O (by rw[hlen];simpa using I) (Tj h1 _);simp only[Nat.add_zero]at H;refine⟨_,cur.take off++(BZ z.cells (m+1)).toList++cur.drop (off+(BZ z.cells (m+1)).toList.length),?_,setRow_heap w g cur.toArray _ J (0,0) O,?_,?_,DG.setRow w g _⟩
  ·simp[Builtin.clear_,Bv U,hv,H]
  ·simp[hlen];omega
  ·rw[AR,CX (by rw[Ac];omega)];rw[B7,Nat.min_self]
end
theorem J4{P w ops rest o a Q}(TZ:o.guard=AD)(s:Operand)(t:TypeId)
  (ho:o.op=.call {callee:=.builtin .clear,args:=#[s],argTypes:=#[t]})(e:TypeId)(z:Value){sz}(ht:P.underlying t=AE (.slice e))(hv:∀w,(zeroValue e).run P w=.ok z w)(U:z.cells.size=sz)(h1:∀v∈z.cells.toList,v.oneCell'=true)
  (A:Option Addr)(n c:Nat)(hs:a.eval s=.slice A n c)(g off:Nat)(cur:List Value)(O:TypeId)(hg:Row w g O cur)(De:0<n->A=AE ⟨g,off,AD⟩)(I:off+n*sz<=cur.length)
  (h:∀w' J,Row w' g O J->J.length=cur.length->J.take off=cur.take off->DG (λk=>k=g) w w'->wpList P ops Q rest (a.put o.dst (AM #[])) w'):wpList P ops Q (o::rest) a w:=by
 obtain⟨w',J,H,h2,h3,h4,h5⟩:=Rr w t e o.type z ht hv U h1 A n c g off cur O hg De I;refine wpList_plain TZ λK hK=>?_;unfold Oper.wp;simp[execOp,ho,resolve,invoke,builtin,hs,H,BP];exact hK _ _ (h w' J h2 h3 h4 h5)
theorem T8{P ops Q rest a w s ts ty pos after guard}
  (h:Hid (wpList P ops Q (⟨AD,.call {callee:=.builtin .clear,args:=#[s],argTypes:=ts},ty,pos,after,guard⟩::rest) a w)):wpList P ops Q (⟨AD,.call {callee:=.builtin .clear,args:=#[s],argTypes:=ts},ty,pos,after,guard⟩::rest) a w:=h
theorem IF{P w ops rest o a Q}(TZ:o.guard=AD)(s x:Operand)(t:TypeId)
  (ho:o.op=.call {callee:=.builtin .append,args:=#[s,x],argTypes:=#[t,t]})(e:TypeId)(i:TypeInfo){sz}(ht:P.underlying t=AE (.slice e))(hi:P.info? e=AE i)(O:i.size=sz)
  (g k cap:Nat)(hs:a.eval s=.slice g k cap)(cur:List Value)(hg:Row w g e cur)(A:Option Addr)(m c:Nat)(hx:a.eval x=.slice A m c)(cs:List Value)(hl:cs.length=m*sz)
  (EY:0<m->∃ad,A=AE ad/\∀j v,cs[j]?=AE v->w.cell? (ad.add j)=AE v)(h1:∀v∈cs,v.oneCell'=true)(I:k+m<=cap)(J:k*sz+cs.length<=cur.length)
  (h:∀w',Hid (Row w' g e (splice cur (k*sz) cs))->Hid (DG (λb=>b=g) w w')->wpList P ops Q rest (a.put o.dst (.slice g (k+m) cap)) w'):wpList P ops Q (o::rest) a w:=by
 subst O;rcases A7 m with h0|h0
 ·subst h0;obtain rfl:cs=[]:=List.eq_nil_of_length_eq_zero (by simpa using hl);have U:∀ad:Addr,(loadCells ad 0).run P w=.ok #[] w:=λad=>by simpa using run_loadCells_list (P:=P) w ad [] a8
  have aa:k<=cap:=a5;have H:(Builtin.append_ #[t,t] o.type #[.slice g k cap,.slice A 0 c]).run P w=.ok (.slice g k cap) w:=by
   cases A<;>simp[Builtin.append_,Bv ht,sizeOf,typeInfo,hi,Builtin.lenOf,Builtin.firstCells,aa,storeCells,U]
  refine wpList_plain TZ λK hK=>?_;unfold Oper.wp;simp[execOp,ho,resolve,invoke,builtin,hs,hx,H,BP];exact hK _ _ (h w (by simpa [splice,Hid]using hg) (DG.refl _ _))
 ·obtain⟨ad,rfl,ab⟩:=EY h0;have H:=run_append_room (P:=P) w t o.type e i ht hi g k cap cur.toArray hg ad m c cs hl ab h1 I (by simpa using J);refine wpList_plain TZ λK hK=>?_;unfold Oper.wp;simp only[execOp,ho,resolve,invoke,builtin,hs,hx,H,BP,Sem.run_bind,Sem.run_pure,List.map_toArray,List.map_cons,List.map_nil];refine hK _ _ (h _ ?_ (DG.setRow w g _));have e2:splice cur (k*i.size) cs=cur.take (k*i.size)++cs++cur.drop (k*i.size+cs.length):=by unfold splice;rw[AR]
  rw[e2];exact setRow_heap w g _ _ e _ hg
theorem Gw{P w ops rest o a Q}(TZ:o.guard=AD)(s x:Operand)(t tn:TypeId)
  (ho:o.op=.call {callee:=.builtin .append,args:=#[s,x],argTypes:=#[t,tn]})(e:TypeId)(i:TypeInfo)(z:Value){sz bytes}(kn kq:IntKind)(ht:P.underlying t=AE (.slice e))(zD:P.underlying tn=AE (.int kn))(hi:P.info? e=AE i)(hz:i.zero=AE z)
  (aa:i.size=sz)(Vd:0<sz)(uD:i.bytes=bytes)(mT:z.cells.size=sz)(A:Option Addr)(k cap:Nat)(hs:a.eval s=.slice A k cap)(H:List Value)(hl:H.length=k*sz)(hA:A=AD->k=0)
  (hold:∀ad,A=AE ad->∀j v,H[j]?=AE v->w.cell? (ad.add j)=AE v)(m:Nat)(I:Int)(hx:a.eval x=.int kq I)(hI:I=(m:Nat))(hm:0<m)(O:cap<k+m)(uL:k+m<=maxLen)(MY:(k+m)*bytes<=140737488355328)
  (h:∀w' C cur,k+m<=C->C<=maxLen->cur.length=C*sz->cur.take (k*sz)=H->Row w' w.heap.size e cur->w'.heap.size=w.heap.size+1->Below w.heap.size w w'->wpList P ops Q rest (a.put o.dst (.slice w.heap.size (k+m) C)) w'):wpList P ops Q (o::rest) a w:=by
 subst aa;subst uD;subst hI;have hf:(Builtin.firstCells i.size k (.slice A k cap)).run P w.drew=.ok H.toArray w.drew:=by
  cases A with
  |none=>
   obtain rfl:=hA rfl;obtain rfl:H=[]:=List.eq_nil_of_length_eq_zero (by simpa using hl);simp[Builtin.firstCells]
  |some ad=>exact run_firstCells_some (P:=P) w.drew i.size k ad k cap H hl (hold ad rfl)
 have DN:m*i.bytes<=281474976710656:=by
  have:=Ae i.bytes (show m<=k+m by omega);omega
 have J:=Lib.run_append_grow_zeros (P:=P) w t tn o.type e i z kq kn ht zD hi hz A k cap H hf m hm Vd O (by unfold maxLen at uL;omega) DN (growslice_fits a5 MY);have U:=grownCap_ge w (k+m) cap e;have hle:=grownCap_le_maxLen w (k+m) cap e uL;generalize hC:grownCap w (k+m) cap e=C at J U hle;refine wpList_plain TZ λK hK=>?_;unfold Oper.wp;simp only[execOp,ho,resolve,invoke,builtin,hs,hx,J,BP,Sem.run_bind,Sem.run_pure,List.map_toArray,List.map_cons,List.map_nil];refine hK _ _ (h _ C (H++(BZ z.cells m).toList++(BZ z.cells (C-(k+m))).toList) U hle ?_ ?_ ?_ ?_ ?_)
 ·simp only[AY,Array.length_toList,size_zeroCells,hl,mT,<-A6]
  congr 1;omega
 ·rw[AR,<-hl];exact List.take_left
 ·unfold Row;rw[show (H++(BZ z.cells m).toList++(BZ z.cells (C-(k+m))).toList).toArray=H.toArray++BZ z.cells m++BZ z.cells (C-(k+m))by apply Array.ext';simp];exact heap_alloc_new w.drew _
 ·simp
 ·exact⟨rfl,rfl,rfl,a8,λk hk=>Below.heap_alloc w.drew _ k hk⟩
theorem Qo{P}(w:World)(base:Nat)(t ty e:TypeId)(i:TypeInfo)(z:Value)(size bytes:Nat)(U:P.underlying t=AE (.slice e))(hi:P.info? e=AE i)(hz:i.zero=AE z)
  (GI:i.size=size)(uD:i.bytes=bytes)(mT:z.cells.size=size)(aa:0<size)(v:Value)(n:Nat)(xs:List Value)(D7:w.ownsRow base e size v n xs)
  (a:Addr)(m c:Nat)(news:List Value)(O:news.length=m*size)(QS:∀j u,news[j]?=AE u->w.cell? (a.add j)=AE u)(h1:∀u∈news,u.oneCell'=true)
  (uL:n+m<=maxLen)(MY:(n+m)*bytes<=140737488355328)(Lj:base<=w):
  ∃v' w',(Builtin.append_ #[t,t] ty #[v,.slice (AE a) m c]).run P w=.ok v' w'/\w'.ownsRow base e size v' (n+m) (xs++news)/\w.grownBy w' v.ownBlock/\w'.ownsRow base e size v n xs:=by
 obtain⟨v',w',hr,h2,h3,_,_⟩:=run_append_own_at (P:=P) w base t ty e i z size bytes U hi hz GI uD mT aa v n xs D7 a m c news O QS h1 uL MY Lj;refine⟨v',w',hr,h2,h3,?_⟩;subst GI;subst uD;have wU:=D7;obtain⟨Q,k2⟩:=D7;rcases k2 with⟨rfl,rfl⟩|⟨g,cap,cur,rfl,WM,hg,hnc,Fu,hcs,AF9⟩
 ·exact⟨Q,.inl ⟨rfl,rfl⟩⟩
 ·by_cases H:n+m<=cap
  ·have J:n*i.size+news.length<=cur.size:=by rw[O,hcs,<-A6];exact Ae _ H
   have I:=run_append_room (P:=P) w t ty e i U hi g n cap cur hg a m c news O QS h1 H J;rw[hr]at I;injection I with _ I;subst I
   refine⟨Q,.inr ⟨g,cap,_,rfl,WM,setRow_heap w g cur _ e _ hg,hnc,Fu,?_,?_⟩⟩
   ·simp only[List.size_toArray,AY,Ac,An,Array.length_toList];omega
   ·rw[AF9,AR];exact CX a5|>.trans (Ao a5)
  ·refine wU.kept (row:=AD) ⟨h3.os,h3.tape,h3.output,h3.size,λk hk _=>?_⟩ (.inr (by simp[Bp]));have holds:∀j u,xs[j]?=AE u->w.cell? ((g:Addr).add j)=AE u:=wU.cells (g:=g) rfl;have ab:n+m<=9223372036854775807:=by simp only[maxLen]at uL;omega
   have I:=run_append_grow (P:=P) w t ty e i z U hi hz g n cap xs Q holds a m c news O QS a5 a5 (growslice_fits a5 MY);rw[hr]at I;injection I with _ I;subst I
   exact Below.heap_alloc w.drew _ k hk
theorem Ke{P}{w:World}{ops o a K Q E}(TZ:o.guard=AD)(s x:Operand)(t:TypeId)
  (ho:o.op=.call {callee:=.builtin .append,args:=#[s,x],argTypes:=#[t,t]})(base:Nat)(e:TypeId)(i:TypeInfo)(z:Value)(size bytes:Nat)(ht:P.underlying t=AE (.slice e))(hi:P.info? e=AE i)(hz:i.zero=AE z)
  (GI:i.size=size)(O:i.bytes=bytes)(U:z.cells.size=size)(I:0<size)(v:Value)(n:Nat)(xs:List Value)(hs:a.eval s=v)(D7:w.ownsRow base e size v n xs)
  (ad:Addr)(m c:Nat)(news:List Value)(hx:a.eval x=.slice (AE ad) m c)(hl:news.length=m*size)(QS:∀j u,news[j]?=AE u->w.cell? (ad.add j)=AE u)(h1:∀u∈news,u.oneCell'=true)
  (J:n+m<=maxLen)(MY:(n+m)*bytes<=140737488355328)(Lj:base<=w)
  (h:∀v' w',Hid (w'.ownsRow base e size v' (n+m) (xs++news))->w.grownBy w' v.ownBlock->w'.ownsRow base e size v n xs->K (a.put o.dst v') w'):if Region.wanted o (yielded ops a.tmps)=true then Oper.wp P o a w K Q else E:=by
 have hw:Region.wanted o (yielded ops a.tmps)=true:=by simp[Region.wanted,TZ]
 rw[if_pos hw];obtain⟨v',w',H,h2,h3,h4⟩:=Qo w base t o.type e i z size bytes ht hi hz GI O U I v n xs D7 ad m c news hl QS h1 J MY Lj;unfold Oper.wp;simp[execOp,ho,resolve,invoke,builtin,hs,hx,H,BP];exact h v' w' h2 h3 h4
structure Cv where
 a:Int
 b:Int
 c:Int
 d:Int
 e:Int
def Cv.D8(t:Cv):List Int:=[t.a,t.b,t.c,t.d,t.e]
def EE(t:Cv):Prop:=∀x∈t.D8,Fg x
def Cu:Cv:=⟨0,0,0,0,0⟩
theorem Cv.Sy(t:Cv):t.D8.length=5:=rfl
theorem Cv.oI{t u:Cv}(h:t.D8=u.D8):t=u:=by
 obtain⟨a,b,c,d,e⟩:=t;obtain⟨a',b',c',I,H⟩:=u;simp[Cv.D8]at h;obtain⟨rfl,rfl,rfl,rfl,rfl⟩:=h;rfl
def uw(z:Int):Nat:=(z%18446744073709551616).toNat
theorem bQ(z:Int):IntKind.u64.wrap z=((uw z:Nat):Int):=by unfold uw;rw[IntKind.wrap_u64];omega
theorem AE1(z:Int):uw z<18446744073709551616:=by unfold uw;omega
theorem OS{z}(h:Fg z):Aa.wrap ((uw z:Nat):Int)=z:=by
 have:=h.bounds;unfold uw;rw[BV];omega
def DW(k:Nat)(t:Cv):List Nat:=(t.D8.take k).map uw
theorem Fl{k}(e:k<=5)(t:Cv):(DW k t).length=k:=by unfold DW;simp[Cv.Sy];omega
def EL(k:Nat)(l:List Cv):List Nat:=l.flatMap (DW k)
theorem Vm(k:Nat)(l m:List Cv):EL k (l++m)=EL k l++EL k m:=by simp[EL]
theorem UY(k:Nat)(t:Cv):EL k [t]=DW k t:=by simp[EL]
theorem Kx{k}(e:k<=5):∀l:List Cv,(EL k l).length=l.length*k
 |[]=>by simp[EL]
 |t::l=>by
  have h:=Kx e l;show (DW k t++EL k l).length= _;rw[AY,Fl e,h,BY,A6];omega
theorem Px(k:Nat)(l:List Cv):∀x∈EL k l,x<18446744073709551616:=by
 intro x e;obtain⟨t,_,e⟩:=List.mem_flatMap.1 e;obtain⟨z,_,rfl⟩:=Az.1 e;exact AE1 z
theorem Sj{k}(e:k<=5):∀(l:List Cv) (i:Nat),(EL k l).drop (i*k)=EL k (l.drop i)
 |[],i=>by simp[EL]
 |t::l,0=>by simp
 |t::l,i+1=>by
  show (DW k t++EL k l).drop ((i+1)*k)=EL k (l.drop i);rw[<-Sj e l i,A6,BD,Nat.add_comm,<-Co,List.drop_left' (Fl e t)]
theorem Xy{k}(H:k<=5){l}{i}{t}(h:l[i]?=AE t):((EL k l).drop (i*k)).take k=DW k t:=by
 rw[Sj H];have hi:i<l.length:=(BM.1 h).1;rw[CQ hi];have e:l[i]=t:=(BM.1 h).2;rw[e];show (DW k t++EL k (l.drop (i+1))).take k=DW k t;exact List.take_left' (Fl H t)
def Dc(k:Nat)(t:Cv):Bool:=(t.D8.drop k).all (·==0)
def J6(k:Nat)(ws:List Nat):Cv:=
 let g:=λi=>if i<k then Aa.wrap ((ws.getD i 0:Nat):Int)else 0
 ⟨g 0,g 1,g 2,g 3,g 4⟩
theorem RY{k}(O:k<=5){t}(I:EE t)(hf:Dc k t=true):J6 k (DW k t)=t:=by
 obtain⟨a,b,c,d,e⟩:=t;have H:=OS (I a (by simp[Cv.D8]));have hb:=OS (I b (by simp[Cv.D8]));have J:=OS (I c (by simp[Cv.D8]));have hd:=OS (I d (by simp[Cv.D8]));have he:=OS (I e (by simp[Cv.D8]))
 match k,O with
 |0,_=>simp[Dc,Cv.D8]at hf;simp[J6,hf]
 |1,_=>simp[Dc,Cv.D8]at hf;simp[J6,DW,Cv.D8,hf,H]
 |2,_=>simp[Dc,Cv.D8]at hf;simp[J6,DW,Cv.D8,hf,H,hb]
 |3,_=>simp[Dc,Cv.D8]at hf;simp[J6,DW,Cv.D8,hf,H,hb,J]
 |4,_=>simp[Dc,Cv.D8]at hf;simp[J6,DW,Cv.D8,hf,H,hb,J,hd]
 |5,_=>simp[J6,DW,Cv.D8,H,hb,J,hd,he]
def Ct(size:Nat)(width:Int):Nat:=if width<1\/5<width then 0 else (size-2)/width.toNat
def Cr(h c:Nat):Nat:=if 0<c%h then c/h+1 else c/h
section
variable{h c:Nat}
theorem Du(h:Nat):Cr h 0=0:=by simp[Cr]
theorem En(I:0<h)(J:0<c):0<Cr h c:=by
 have H:=Nat.div_add_mod c h;unfold Cr;split
 ·exact Nat.succ_pos _
 ·rcases A7 (c/h)with e|e
  ·rw[e]at H;omega
  ·exact e
theorem Di(h c:Nat):Cr h c<=c:=by
 unfold Cr;have I:=Nat.div_add_mod c h;have H:=BW c h
 split
 ·rename_i h3
  rcases A7 h with e|e
  ·subst e;simp at h3⊢;omega
  ·rcases A7 (c/h)with h4|h4
   ·rw[h4]at I⊢;omega
   ·have:c/h*1<=c/h*h:=Nat.mul_le_mul_left _ e;rw[B6 (c/h) h]at this;omega
 ·exact H
theorem I0(hh:0<h)(e:0<c):(Cr h c-1)*h<c/\c<=(Cr h c-1)*h+h/\c-(Cr h c-1)*h=if 0<c%h then c%h else h:=by
 have H:=Nat.div_add_mod c h;have I:=Bw c hh;have hp:=En hh e;unfold Cr at hp⊢;rw[B6]at H;by_cases h3:0<c%h
 ·rw[if_pos h3,if_pos h3,BQ];omega
 ·rw[if_neg h3]at hp;rw[if_neg h3,if_neg h3];have h4:(c/h-1)*h+h=c/h*h:=by
   conv=>rhs;rw[show c/h=(c/h-1)+1 by omega,A6,BD]
  omega
theorem LZ(hh:0<h):c<=Cr h c*h:=by
 rcases A7 c with e|e
 ·omega
 ·have I:=I0 hh e;have H:=En hh e;have h4:(Cr h c-1)*h+h=Cr h c*h:=by
   conv=>rhs;rw[show Cr h c=(Cr h c-1)+1 by omega,A6,BD]
  omega
theorem O3(hh:0<h){k}(I:c<=k*h):Cr h c<=k:=by
 rcases A7 c with e|e
 ·subst e;rw[Du];exact Aq _
 ·have J:=(I0 hh e).1;have H:(Cr h c-1)*h<k*h:=a5;have h3:Cr h c-1<k:=Nat.lt_of_mul_lt_mul_right H;omega
theorem Db(hh:0<h){c'}(e:c<=c'):Cr h c<=Cr h c':=O3 hh (Af e (LZ hh))
theorem Qa(hh:0<h):(Cr h (c+1)-1)*h+c%h=c/\c+1-(Cr h (c+1)-1)*h=c%h+1/\Cr h (c+1)-1=c/h:=by
 have H:=Nat.div_add_mod c h;have Q:=Bw c hh;have key:Cr h (c+1)=c/h+1:=by
  have h5:c+1<=(c/h+1)*h:=by rw[A6,BD,B6];omega
  have O:=O3 hh h5;have J:=LZ (c:=c+1) hh;have I:c/h<Cr h (c+1):=by
   apply Nat.lt_of_not_le;intro e;have:=Ae h e;rw[B6 (c/h)]at this;omega
  omega
 rw[key,BQ,B6];refine⟨H,?_,rfl⟩;omega
theorem KH(h3:c%h=0):Cr h c=c/h:=by unfold Cr;rw[if_neg a5]
end
def GR(h:Nat)(l:List Cv):List Cv:=l.drop ((Cr h l.length-1)*h)
def JI(h k:Nat)(l:List Cv)(j:Nat):List Nat:=EL k ((l.drop (j*h)).take h)
theorem My{h l}(hh:0<h)(e:0<l.length):(GR h l).length<=h/\0<(GR h l).length/\(GR h l).length=l.length-(Cr h l.length-1)*h:=by
 obtain⟨I,H,h3⟩:=I0 hh e;unfold GR;rw[An];omega
theorem lU{h k l}(hh:0<h)(e:0<l.length):JI h k l (Cr h l.length-1)=EL k (GR h l):=by
 unfold JI;rw[show l.drop ((Cr h l.length-1)*h)=GR h l from rfl,Ao (My hh e).1]
theorem sO{h k}(e:k<=5)(l:List Cv)(j:Nat):(JI h k l j).length<=h*k:=by
 unfold JI;rw[Kx e];exact Ae _ (by rw[Ac];omega)
theorem lT{h k l m j}(e:(j+1)*h<=l.length):JI h k (l++m) j=JI h k l j:=by
 unfold JI;rw[A6,BD]at e;rw[List.drop_append_of_le_length a5,CX (by rw[An];omega)]
theorem fI{h k}(e:k<=5)(l:List Cv)(j:Nat):(JI h k l j).length=min h (l.length-j*h)*k:=by
 unfold JI;rw[Kx e,Ac,An]
theorem Zk{h}(hh:0<h)(l:List Cv)(t:Cv):GR h (l++[t])=l.drop (l.length-l.length%h)++[t]/\(GR h (l++[t])).length=l.length%h+1:=by
 obtain⟨I,H,h3⟩:=Qa (c:=l.length) hh;have e:GR h (l++[t])=l.drop (l.length-l.length%h)++[t]:=by
  unfold GR;rw[AY,List.length_singleton,show (Cr h (l.length+1)-1)*h=l.length-l.length%h by omega,List.drop_append_of_le_length a5]
 refine⟨e,?_⟩;rw[e,AY,An,List.length_singleton];have:=Nat.mod_le l.length h;omega
def TK(k h:Nat)(l:List Cv)(ws:List Nat):Prop:=ws.take (l.length%h*k)=EL k (l.drop (l.length-l.length%h))
theorem nP(k h:Nat)(ws:List Nat):TK k h [] ws:=by simp[TK,EL]
theorem gY{k h l}(ws:List Nat)(e:l.length%h=0):TK k h l ws:=by
 unfold TK;rw[e,CS,Nat.sub_zero,List.drop_length];simp[EL]
theorem nO{k h}(H:k<=5)(hh:0<h){l}{ws}(hw:TK k h l ws)(O:h*k<=ws.length)(t:Cv):
  (splice ws (l.length%h*k) (DW k t)).take ((GR h (l++[t])).length*k)=EL k (GR h (l++[t])):=by
 obtain⟨J,I⟩:=Zk hh l t;rw[I,J,Vm,UY,<-hw];have hm:=Bw l.length hh;have hb:l.length%h*k+k<=h*k:=by
  have:=Ae k (show l.length%h+1<=h by omega);rw[A6,BD]at this;exact this
 have e:=Fl H t;unfold splice;rw[<-AR,CX (by simp[e,A6];omega)];exact Ao (by simp[e,A6];omega)
theorem UN{k h}(hh:0<h){l}{ws}(I:l.length%h≠0):TK k h l ws↔ws.take ((GR h l).length*k)=EL k (GR h l):=by
 have H:0<l.length:=by
  rcases A7 l.length with e|e
  ·rw[e]at I;simp at I
  ·exact e
 obtain⟨e,O,h3⟩:=I0 hh H;rw[if_pos a5]at h3;have J:=(My hh H).2.2;unfold TK;rw[J,h3];unfold GR;rw[show l.length-l.length%h=(Cr h l.length-1)*h by omega]
def EM(D:St)(first k h:Nat)(l:List Cv)(m:Nat):Prop:=∀j,j<m->D.now ((first+j:Nat):Int)=Gi D.size (first+j) k (JI h k l j)
theorem Pe{s i l}(e:(write s i l).1=0):(write s i l).2.now i=l/\(∀x,x≠i->(write s i l).2.now x=s.now x)/\(write s i l).2.size=s.size/\(write s i l).2.blocks=s.blocks:=by
 obtain⟨I,O,H,Q⟩:=GX s (right s i&&decide (l.length=s.size));unfold write at e⊢;dsimp only at e⊢;by_cases hb:(begin s (right s i&&decide (l.length=s.size))).1=0
 ·rw[if_pos hb];refine⟨?_,λx J=>?_,I,O⟩
  ·unfold St.now;dsimp only;rw[H,SB,KW];rfl
  ·unfold St.now;dsimp only;rw[I,H,SB,JQ _ _ J]
 ·rw[if_neg hb]at e;exact absurd e hb
theorem XM{s i l}(e:(write s i l).1≠0):(∀x,(write s i l).2.now x=s.now x)/\(write s i l).2.size=s.size/\(write s i l).2.blocks=s.blocks:=by
 obtain⟨H,O,J,I⟩:=GX s (right s i&&decide (l.length=s.size));unfold write at e⊢;dsimp only at e⊢;by_cases hb:(begin s (right s i&&decide (l.length=s.size))).1=0
 ·rw[if_pos hb]at e;exact absurd rfl e
 ·rw[if_neg hb];refine⟨λx=>?_,H,O⟩;unfold St.now;rw[H,J,I]
theorem Jg(s:St)(i x:Int):(read s i).2.now x=s.now x/\(read s i).2.size=s.size/\(read s i).2.blocks=s.blocks:=by
 obtain⟨J,I,H,e⟩:=GX s (right s i);unfold read St.now;rw[J,H,e];exact⟨rfl,rfl,I⟩
abbrev Ex:=Nat×Nat
def Canon(hi:Nat):Nat->List Ex->Prop
 | _,[]=>True
 |lo,x::l=>lo<=x.1/\1<=x.2/\x.1+x.2<=hi/\Canon hi (x.1+x.2+1) l
def hasB(l:List Ex)(b:Nat):Prop:=∃x∈l,x.1<=b/\b<x.1+x.2
def ED(l:List Ex):Nat:=(l.map (·.2)).sum
section
variable{hi lo:Nat}{l A B:List Ex}{x:Ex}
theorem GA:∀{A} {lo},Canon hi lo (A++x::B)↔Canon hi lo A/\(∀y∈A,y.1+y.2+1<=x.1)/\lo<=x.1/\1<=x.2/\x.1+x.2<=hi/\Canon hi (x.1+x.2+1) B
 |[],lo=>by simp[Canon]
 |y::A,lo=>by
  show lo<=y.1/\1<=y.2/\y.1+y.2<=hi/\Canon hi (y.1+y.2+1) (A++x::B)↔(lo<=y.1/\1<=y.2/\y.1+y.2<=hi/\Canon hi (y.1+y.2+1) A)/\ _;rw[GA (A:=A)];constructor
  ·rintro⟨Q,O,h3,h4,h5,U,J,I,H⟩;refine⟨⟨Q,O,h3,h4⟩,λz e=>?_,a5,J,I,H⟩;rcases A8.1 e with rfl|e
   ·exact U
   ·exact h5 z e
  ·rintro⟨⟨Q,O,h3,h4⟩,h5,U,J,I,H⟩;exact⟨Q,O,h3,h4,λz e=>h5 z (BB _ e),h5 y Ax,J,I,H⟩
theorem Canon.left:∀{A} {lo},Canon hi lo (A++B)->Canon hi lo A
 |[],_,_=>trivial
 | _:: _,_,h=>⟨h.1,h.2.1,h.2.2.1,Canon.left h.2.2.2⟩
theorem Canon.R6:∀{l} {lo} {x},Canon hi lo l->x∈l->lo<=x.1/\1<=x.2/\x.1+x.2<=hi
 |[],_,_,_,h=>by cases h
 |y::l,lo,x,h,hx=>by
  rcases A8.1 hx with rfl|e
  ·exact⟨h.1,h.2.1,h.2.2.1⟩
  ·have I:=Canon.R6 (x:=x) h.2.2.2 e;have H:=h.1;omega
theorem Canon.apart:∀{l} {lo} {x y},Canon hi lo l->x∈l->y∈l->x=y\/x.1+x.2+1<=y.1\/y.1+y.2+1<=x.1
 |[],_,_,_,_,h,_=>by cases h
 |z::l,lo,x,y,h,hx,I=>by
  rcases A8.1 hx with rfl|H<;>rcases A8.1 I with rfl|e
  ·exact .inl rfl
  ·exact .inr (.inl (Canon.R6 h.2.2.2 e).1)
  ·exact .inr (.inr (Canon.R6 h.2.2.2 H).1)
  ·exact Canon.apart h.2.2.2 H e
theorem Canon.has(h:Canon hi lo l){b}(hb:hasB l b):lo<=b/\b<hi:=by
 obtain⟨x,e,I,H⟩:=hb;have:=h.R6 e;omega
theorem Canon.length(h:Canon hi lo l):l.length<=hi-lo:=by
 induction l generalizing lo with
 |nil=>simp
 |cons x l ih=>
  have:=ih h.2.2.2;have:=h.1;have:=h.2.1;have:=h.2.2.1;simp only[BY];omega
theorem Kt(b:Nat):¬hasB [] b:=by rintro⟨x,h,_⟩;cases h
theorem Ec{b}:hasB (x::l) b↔(x.1<=b/\b<x.1+x.2)\/hasB l b:=by simp[hasB]
theorem EC{b}:hasB (A++B) b↔hasB A b\/hasB B b:=by simp[hasB,or_and_right,exists_or]
theorem Ds:ED (A++B)=ED A+ED B:=by simp[ED]
theorem F8:ED (x::l)=x.2+ED l:=by simp[ED]
theorem Kb:ED []=0:=rfl
theorem Canon.sum(h:Canon hi lo l):ED l<=hi-lo:=by
 induction l generalizing lo with
 |nil=>simp[ED]
 |cons x l ih=>
  have:=ih h.2.2.2;have:=h.1;have:=h.2.1;have:=h.2.2.1;rw[F8];omega
theorem Canon.only:∀{l l':List Ex} {lo:Nat},Canon hi lo l->Canon hi lo l'->(∀b,hasB l b↔hasB l' b)->l=l'
 |[],[],_,_,_,_=>rfl
 |[],y::l',_,_,h',e=>absurd ((e y.1).2 ⟨y,Ax,AQ _,by have:=h'.2.1;omega⟩) (Kt _)
 |x::l,[],_,h,_,e=>absurd ((e x.1).1 ⟨x,Ax,AQ _,by have:=h.2.1;omega⟩) (Kt _)
 |x::l,y::l',lo,h,h',e=>by
  have low:∀{z:Ex} {m:List Ex} {b:Nat},Canon hi lo (z::m)->hasB (z::m) b->z.1<=b:=λ{z m b} U hb=>by
   rcases Ec.1 hb with hb|hb
   ·exact hb.1
   ·have:=(Canon.has U.2.2.2 hb).1;omega
  have O:∀{z:Ex} {m:List Ex},Canon hi lo (z::m)->¬hasB (z::m) (z.1+z.2):=λ{z m} U hb=>by
   rcases Ec.1 hb with hb|hb
   ·omega
   ·have:=(Canon.has U.2.2.2 hb).1;omega
  have h1:x.1<=y.1:=low h ((e y.1).2 ⟨y,Ax,AQ _,by have:=h'.2.1;omega⟩);have h2:y.1<=x.1:=low h' ((e x.1).1 ⟨x,Ax,AQ _,by have:=h.2.1;omega⟩);have h3:y.1+y.2<=x.1+x.2:=by
   rcases Am (x.1+x.2) (y.1+y.2)with H|I
   ·exact absurd ((e (x.1+x.2)).2 ⟨y,Ax,a5,H⟩) (O h)
   ·exact I
  have h4:x.1+x.2<=y.1+y.2:=by
   rcases Am (y.1+y.2) (x.1+x.2)with H|I
   ·exact absurd ((e (y.1+y.2)).1 ⟨x,Ax,a5,H⟩) (O h')
   ·exact I
  have Q:x=y:=Prod.ext a5 a5;subst Q;rw[Canon.only h.2.2.2 h'.2.2.2 λb=>?_];constructor
  ·intro hb;have h5:=Canon.has h.2.2.2 hb;rcases Ec.1 ((e b).1 (Ec.2 (.inr hb)))with J|J
   ·omega
   ·exact J
  ·intro hb;have h5:=Canon.has h'.2.2.2 hb;rcases Ec.1 ((e b).2 (Ec.2 (.inr hb)))with J|J
   ·omega
   ·exact J
theorem Canon.one(h:Canon hi lo l){k}:∀{n},1<=n->(∀b,k<=b->b<k+n->hasB l b)->∃x∈l,x.1<=k/\k+n<=x.1+x.2
 |0,e,_=>by omega
 |1,_,hb=>by
  obtain⟨x,H,e,I⟩:=hb k a5 a5;exact⟨x,H,e,a5⟩
 |n+2,_,hb=>by
  obtain⟨x,H,e,I⟩:=Canon.one h (n:=n+1) a5 (λb e I=>hb b e a5);obtain⟨y,J,h3,h4⟩:=hb (k+(n+1)) a5 a5;rcases h.apart H J with rfl|h5|h5
  ·exact⟨x,H,e,a5⟩
  ·omega
  ·omega
end
def DZ(l:List Ex)(i:Nat):Ex:=l.getD i (0,0)
theorem Gp{l i}(hi:i<l.length):DZ l i=l[i]:=by
 unfold DZ;rw[AT,AU hi];rfl
def MK(x:Ex)(f n:Nat):List Ex:=(if x.1<f then [(x.1,f-x.1)]else [])++(if f+n<x.1+x.2 then [(f+n,x.1+x.2-(f+n))]else [])
def LY(l:List Ex)(i f n:Nat):List Ex:=l.take i++MK (DZ l i) f n++l.drop (i+1)
theorem Wi{l i}(hi:i<l.length):l=l.take i++DZ l i::l.drop (i+1):=by
 conv=>lhs;rw[<-BS i l,CQ hi]
 rw[Gp hi]
theorem gm{x f n b}(H:x.1<=f)(e:f+n<=x.1+x.2):hasB (MK x f n) b↔(x.1<=b/\b<x.1+x.2)/\¬(f<=b/\b<f+n):=by
 unfold MK;rw[EC];by_cases h3:x.1<f<;>by_cases h4:f+n<x.1+x.2<;>simp[hasB,h3,h4]<;>omega
theorem af{hi x f n A B lo}(h:Canon hi lo (A++x::B))(h1:x.1<=f)(h2:f+n<=x.1+x.2)(U:1<=n):Canon hi lo (A++MK x f n++B):=by
 obtain⟨J,c2,O,c4,c5,Q⟩:=GA.1 h;have tail:∀(C:List Ex) (c:Nat),Canon hi lo C->(∀y∈C,y.1+y.2<=c)->c<=x.1+x.2->Canon hi lo (C++B):=by
  intro C c hC e hc
  cases B with
  |nil=>simpa using hC
  |cons z B=>
   have H:=Q;refine GA.2 ⟨hC,λy h=>?_,?_,H.2.1,H.2.2.1,H.2.2.2⟩
   ·have:=e y h;have:=H.1;omega
   ·have:=H.1;omega
 unfold MK;have I:∀y∈A,y.1+y.2<=x.1+x.2:=λy e=>by have:=c2 y e;omega
 by_cases h3:x.1<f<;>by_cases h4:f+n<x.1+x.2
 ·rw[if_pos h3,if_pos h4];refine tail _ (x.1+x.2) ?_ ?_ ao
  ·rw[show A++([(x.1,f-x.1)]++[(f+n,x.1+x.2-(f+n))])=A++(x.1,f-x.1)::[(f+n,x.1+x.2-(f+n))]from rfl];refine GA.2 ⟨J,c2,O,?_,?_,?_,?_,?_,trivial⟩<;>simp<;>omega
  ·intro y e;simp at e;rcases e with e|rfl|rfl
   ·exact I y e
   ·simp;omega
   ·simp;omega
 ·rw[if_pos h3,if_neg h4,AZ];refine tail _ (x.1+x.2) ?_ ?_ ao
  ·refine GA.2 ⟨J,c2,O,?_,?_,trivial⟩<;>simp<;>omega
  ·intro y e;simp at e;rcases e with e|rfl
   ·exact I y e
   ·simp;omega
 ·rw[if_neg h3,if_pos h4,BI];refine tail _ (x.1+x.2) ?_ ?_ ao
  ·refine GA.2 ⟨J,?_,?_,?_,?_,trivial⟩<;>simp
   ·intro a b e;have:=c2 (a,b) e;simp at this;omega
   ·omega
   ·omega
   ·omega
  ·intro y e;simp at e;rcases e with e|rfl
   ·exact I y e
   ·simp;omega
 ·rw[if_neg h3,if_neg h4,AZ,AZ];exact tail A (x.1+x.2) J I ao
theorem kO{x f n}(H:x.1<=f)(e:f+n<=x.1+x.2):ED (MK x f n)+n=x.2:=by
 unfold MK;rw[Ds];by_cases h3:x.1<f<;>by_cases h4:f+n<x.1+x.2<;>simp[ED,h3,h4]<;>omega
theorem YA{hi lo l i f n}(h:Canon hi lo l)(e:i<l.length)(I:(DZ l i).1<=f)(H:f+n<=(DZ l i).1+(DZ l i).2)(Q:1<=n):
  Canon hi lo (LY l i f n)/\(∀b,hasB (LY l i f n) b↔hasB l b/\¬(f<=b/\b<f+n))/\ED (LY l i f n)+n=ED l:=by
 have O:=Wi e;unfold LY;generalize DZ l i=x at*
 generalize l.take i=A at*
 generalize l.drop (i+1)=B at*
 subst O;refine⟨af h I H Q,λb=>?_,?_⟩
 ·obtain⟨c1,c2,c3,c4,c5,c6⟩:=GA.1 h;rw[EC,EC,gm I H,EC,Ec];have hA:hasB A b->¬(f<=b/\b<f+n):=by
   rintro⟨y,J,h3,h4⟩ h5;have:=c2 y J;omega
  have U:hasB B b->¬(f<=b/\b<f+n):=λhb=>by have:=c6.has hb;omega
  constructor
  ·rintro((h3|h3)|h3)
   ·exact⟨.inl h3,hA h3⟩
   ·exact⟨.inr (.inl h3.1),h3.2⟩
   ·exact⟨.inr (.inr h3),U h3⟩
  ·rintro⟨h3|h3|h3,h4⟩
   ·exact .inl (.inl h3)
   ·exact .inl (.inr ⟨h3,h4⟩)
   ·exact .inr h3
 ·rw[Ds,Ds,Ds,F8];have:=kO (x:=x) (f:=f) (n:=n) I H;omega
def EH(l:List Ex)(a:Nat):Nat:=l.findIdx λx=>decide (a<x.1+x.2)
def I7(l:List Ex)(n:Nat):Nat:=l.findIdx λx=>decide (n<=x.2)
theorem RH{l i}(hi:i<l.length):DZ l i∈l:=by
 rw[Gp hi];exact Bs hi
theorem IQ{p}{l:List Ex}{i}(hi:i<=l.length)(I:∀k,k<i->p (DZ l k)=false)(H:i<l.length->p (DZ l i)=true):l.findIdx p=i:=by
 rcases Nat.lt_trichotomy (l.findIdx p) i with h|h|h
 ·have h3:=List.findIdx_getElem (p:=p) (xs:=l) (w:=by omega);have h4:=I _ h;rw[Gp a5,h3]at h4;cases h4
 ·exact h
 ·have h3:=List.not_of_lt_findIdx h;have e:i<l.length:=BH h Cg;have h4:=H e;rw[Gp e]at h4;rw[h4]at h3;cases h3
theorem N8{p}{l:List Ex}(h:l.findIdx p<l.length):p (DZ l (l.findIdx p))=true:=by
 rw[Gp h];exact List.findIdx_getElem
theorem Im{p}{l:List Ex}{k}(h:k<l.findIdx p):p (DZ l k)=false:=by
 have e:k<l.length:=BH h Cg;rw[Gp e];simpa using List.not_of_lt_findIdx h
theorem Canon.ends{hi lo l}(h:Canon hi lo l){i j}(J:i<j)(H:j<l.length):(DZ l i).1+(DZ l i).2+1<=(DZ l j).1:=by
 have e:=Wi H;rw[e]at h;have I:=(GA.1 h).2.1 (DZ l i) (by
  rw[Gp a5];have h3:(l.take j)[i]?=AE l[i]:=by rw[At,if_pos J,AU a5]
  exact Ak h3)
 exact I
theorem Canon.getD{hi lo l}(h:Canon hi lo l){i}(e:i<l.length):lo<=(DZ l i).1/\1<=(DZ l i).2/\(DZ l i).1+(DZ l i).2<=hi:=h.R6 (RH e)
theorem Zd{hi lo l f n}(h:Canon hi lo l)(J:1<=n)(hb:∀b,f<=b->b<f+n->hasB l b):
  EH l f<l.length/\(DZ l (EH l f)).1<=f/\f+n<=(DZ l (EH l f)).1+(DZ l (EH l f)).2:=by
 obtain⟨x,I,U,Q⟩:=h.one J hb;obtain⟨j,e,rfl⟩:=BO I;have H:DZ l j=l[j]:=Gp e;have he:EH l f=j:=IQ (Nat.le_of_lt e) (λk O=>by
   have:=h.ends O e;rw[H]at this;simp;omega) (λ_=>by rw[H];simp;omega)
 rw[he,H];exact⟨e,U,Q⟩
theorem Mx{hi lo l f n}(h:Canon hi lo l)(hn:1<=n):(∀b,f<=b->b<f+n->¬hasB l b)↔(EH l f<l.length->f+n<=(DZ l (EH l f)).1):=by
 constructor
 ·intro hb e;rcases Am (DZ l (EH l f)).1 (f+n)with H|H
  ·have U:=N8 (p:=λx:Ex=>decide (f<x.1+x.2)) e;simp only[decide_eq_true_eq]at U;have I:=h.getD e;refine absurd ⟨_,RH e,?_,?_⟩ (hb (max f (DZ l (EH l f)).1) a5 a5)
   ·omega
   ·unfold EH at I H⊢;omega
  ·exact H
 ·rintro H b DV DN ⟨x,Q,h3,h4⟩;obtain⟨j,O,rfl⟩:=BO Q;have I:DZ l j=l[j]:=Gp O;rcases Nat.lt_trichotomy j (EH l f)with h5|h5|h5
  ·have J:=Im (p:=λx:Ex=>decide (f<x.1+x.2)) h5;rw[I]at J;simp at J;omega
  ·subst h5;have:=H O;rw[I]at this;omega
  ·have J:=h.ends h5 O;have h7:=H a5;rw[I]at J;omega
theorem iJ{hi lo l n}(h:Canon hi lo l)(O:1<=n)(Q:I7 l n<l.length):
  n<=(DZ l (I7 l n)).2/\∀k,(∀b,k<=b->b<k+n->hasB l b)->(DZ l (I7 l n)).1<=k:=by
 have h1:=N8 (p:=λx:Ex=>decide (n<=x.2)) Q;refine⟨by unfold I7;simpa using h1,λk U=>?_⟩;obtain⟨x,J,h2,h3⟩:=h.one O U;obtain⟨j,I,rfl⟩:=BO J;have H:DZ l j=l[j]:=Gp I;rcases Nat.lt_trichotomy j (I7 l n)with h5|h5|h5
 ·have e:=Im (p:=λx:Ex=>decide (n<=x.2)) h5;rw[H]at e;simp at e;omega
 ·subst h5;rw[H];exact h2
 ·have e:=h.ends h5 I;rw[H]at e;unfold I7 at e⊢;omega
theorem oD{hi lo l n}(h:Canon hi lo l)(I:1<=n)(U:l.length<=I7 l n)(k:Nat):¬∀b,k<=b->b<k+n->hasB l b:=by
 intro J;obtain⟨x,H,h2,h3⟩:=h.one I J;obtain⟨j,O,rfl⟩:=BO H;have Q:DZ l j=l[j]:=Gp O;have e:=Im (p:=λx:Ex=>decide (n<=x.2)) (show j<I7 l n by omega);rw[Q]at e;simp at e;omega
def KK(l:List Ex)(i f:Nat):Bool:=decide (0<i)&&decide ((DZ l (i-1)).1+(DZ l (i-1)).2=f)
def Fp(l:List Ex)(i e:Nat):Bool:=decide (i<l.length)&&decide ((DZ l i).1=e)
def GH(l:List Ex)(i f n:Nat):List Ex:=
 match KK l i f,Fp l i (f+n)with
 |false,false=>l.take i++[(f,n)]++l.drop i
 |true,false=>l.take (i-1)++[((DZ l (i-1)).1,(DZ l (i-1)).2+n)]++l.drop i
 |false,true=>l.take i++[(f,n+(DZ l i).2)]++l.drop (i+1)
 |true,true=>l.take (i-1)++[((DZ l (i-1)).1,(DZ l (i-1)).2+n+(DZ l i).2)]++l.drop (i+1)
theorem M9{hi lo A B f n}(I:Canon hi lo A)(H:Canon hi lo B)(O:∀y∈A,y.1+y.2+1<=f)(J:B≠[]->f+n+1<=(B.headD (0,0)).1)(h3:lo<=f)(h4:f+n<=hi)(e:1<=n):Canon hi lo (A++[(f,n)]++B):=by
 rw[AR];refine GA.2 ⟨I,O,h3,e,h4,?_⟩
 cases B with
 |nil=>trivial
 |cons z B=>exact⟨J a8,H.2⟩
theorem Canon.tail{hi lo A B}(h:Canon hi lo (A++B)):Canon hi lo B:=by
 cases B with
 |nil=>trivial
 |cons z B=>obtain⟨_,_,J,I,H,e⟩:=GA.1 h;exact⟨J,I,H,e⟩
theorem Uc{l i}(h:l.drop i≠[]):i<l.length/\(l.drop i).headD (0,0)=DZ l i:=by
 have hi:i<l.length:=by
  rcases Am i l.length with e|e
  ·exact e
  ·exact absurd (List.drop_eq_nil_of_le e) h
 refine⟨hi,?_⟩;rw[CQ hi,Gp hi];rfl
theorem XQ{l i y}(h:y∈l.take i):∃k,k<i/\k<l.length/\y=DZ l k:=by
 obtain⟨k,H,rfl⟩:=BO h;have e:k<i/\k<l.length:=by rw[Ac]at H;omega
 refine⟨k,e.1,e.2,?_⟩;rw[Gp e.2];simp
theorem Mz{hi lo l f n}(h:Canon hi lo l)(hn:1<=n)(U:lo<=f)(Qw:f+n<=hi)(hb:∀b,f<=b->b<f+n->¬hasB l b):
  Canon hi lo (GH l (EH l f) f n)/\(∀b,hasB (GH l (EH l f) f n) b↔hasB l b\/(f<=b/\b<f+n))/\ED (GH l (EH l f) f n)=ED l+n:=by
 have Pn:=(Mx h hn).1 hb;have Q0:∀k,k<EH l f->(DZ l k).1+(DZ l k).2<=f:=λk hk=>by
  have:=Im (p:=λx:Ex=>decide (f<x.1+x.2)) hk;simpa using this
 have hle:EH l f<=l.length:=Cg;generalize EH l f=i at*
 have cz:∀k,Canon hi lo (l.take k):=λk=>Canon.left (B:=l.drop k) (by rw[BS];exact h);have dB:∀k,Canon hi lo (l.drop k):=λk=>Canon.tail (A:=l.take k) (by rw[BS];exact h);have eT:∀k,l.take k++l.drop k=l:=λk=>BS k l;have uE:∀b,hasB l b↔hasB (l.take i) b\/hasB (l.drop i) b:=λb=>by rw[<-EC,eT]
 have rX:ED l=ED (l.take i)+ED (l.drop i):=by rw[<-Ds,eT]
 have Lc:∀(H:KK l i f=true),0<i/\(DZ l (i-1)).1+(DZ l (i-1)).2=f/\l.take i=l.take (i-1)++[DZ l (i-1)]:=λH=>by
  simp[KK]at H;refine⟨H.1,H.2,?_⟩;obtain⟨j,rfl⟩:∃j,i=j+1:=⟨i-1,a5⟩;rw[BQ,Bi,AU a5,Gp a5];rfl
 have Ln:∀(H:KK l i f=false),∀y∈l.take i,y.1+y.2+1<=f:=λH y hy=>by
  obtain⟨k,hk,zg,rfl⟩:=XQ hy;have h1:=Q0 k hk;rcases Am k (i-1)with I|I
  ·have:=h.ends I a5;have:=Q0 (i-1) a5;have:=(h.getD (show i-1<l.length by omega)).2.1;omega
  ·obtain rfl:k=i-1:=a5;simp[KK]at H;have:=H a5;omega
 have Rc:∀(hR:Fp l i (f+n)=true),i<l.length/\(DZ l i).1=f+n/\l.drop i=DZ l i::l.drop (i+1):=λhR=>by
  simp[Fp]at hR;refine⟨hR.1,hR.2,?_⟩;rw[CQ hR.1,<-Gp hR.1]
 have Rn:∀(hR:Fp l i (f+n)=false),l.drop i≠[]->f+n+1<=((l.drop i).headD (0,0)).1:=λhR hd=>by
  obtain⟨h1,I⟩:=Uc hd;rw[I];have h3:=Pn h1;simp[Fp,h1]at hR;omega
 have hd:∀(gV:i<l.length),l.drop (i+1)≠[]->(DZ l i).1+(DZ l i).2+1<=((l.drop (i+1)).headD (0,0)).1:=λgV e=>by
  obtain⟨h1,I⟩:=Uc e;rw[I];exact h.ends (Nat.lt_succ_self i) h1
 have Ol:∀(h0:0<i),∀y∈l.take (i-1),y.1+y.2+1<=(DZ l (i-1)).1:=λh0 y hy=>by
  obtain⟨k,hk,zg,rfl⟩:=XQ hy;exact h.ends hk a5
 unfold GH
 cases H:KK l i f<;>cases hR:Fp l i (f+n)<;>dsimp only
 ·refine⟨M9 (cz i) (dB i) (Ln H) (Rn hR) U Qw hn,λb=>?_,?_⟩
  ·rw[EC,EC,Ec,uE b];have:=Kt b;grind
  ·rw[Ds,Ds,F8,Kb,rX];simp only;omega
 ·obtain⟨O,r2,J⟩:=Rc hR;have g:=h.getD O;have hx:(DZ l i).1+(DZ l i).2=f+(n+(DZ l i).2):=a5;refine⟨M9 (cz i) (dB (i+1)) (Ln H) (λe=>by have:=hd O e;omega) U a5 a5,λb=>?_,?_⟩
  ·rw[EC,EC,Ec,uE b,J,Ec];have:=Kt b;have:(f<=b/\b<f+(n+(DZ l i).2))↔((DZ l i).1<=b/\b<(DZ l i).1+(DZ l i).2)\/(f<=b/\b<f+n):=a5
   grind
  ·rw[Ds,Ds,F8,Kb,rX,J,F8];simp only;omega
 ·obtain⟨l1,l2,Q⟩:=Lc H;have g:=h.getD (show i-1<l.length by omega);refine⟨M9 (cz (i-1)) (dB i) (Ol l1) (λe=>by have:=Rn hR e;omega) g.1 a5 a5,λb=>?_,?_⟩
  ·rw[EC,EC,Ec,uE b,Q,EC,Ec];have:=Kt b;have:((DZ l (i-1)).1<=b/\b<(DZ l (i-1)).1+((DZ l (i-1)).2+n))↔((DZ l (i-1)).1<=b/\b<(DZ l (i-1)).1+(DZ l (i-1)).2)\/(f<=b/\b<f+n):=a5
   grind
  ·rw[Ds,Ds,F8,Kb,rX,Q,Ds,F8,Kb];simp only;omega
 ·obtain⟨l1,l2,Q⟩:=Lc H;obtain⟨O,r2,J⟩:=Rc hR;have g:=h.getD (show i-1<l.length by omega);have g2:=h.getD O;refine⟨M9 (cz (i-1)) (dB (i+1)) (Ol l1) (λe=>by have:=hd O e;omega) g.1 a5 a5,λb=>?_,?_⟩
  ·rw[EC,EC,Ec,uE b,Q,J,EC,Ec,Ec];have:=Kt b;have:((DZ l (i-1)).1<=b/\b<(DZ l (i-1)).1+((DZ l (i-1)).2+n+(DZ l i).2))↔(((DZ l (i-1)).1<=b/\b<(DZ l (i-1)).1+(DZ l (i-1)).2)\/((DZ l i).1<=b/\b<(DZ l i).1+(DZ l i).2))\/(f<=b/\b<f+n):=a5
   grind
  ·rw[Ds,Ds,F8,Kb,rX,Q,J,Ds,F8,F8,Kb];simp only;omega
structure Sp where
 first:Nat
 blocks:Nat
 fr:List Ex
def Sp.ok(s:Sp):Prop:=s.first<=1000000/\s.blocks<=1000000/\Canon (s.first+s.blocks) s.first s.fr
theorem Sp.ok.len{s:Sp}(h:s.ok):s.fr.length<=1000000:=by have:=h.2.2.length;have:=h.2.1;omega
def iO(x:Ex):List Value:=[x.1,x.2]
def Cw(l:List Ex):List Value:=l.flatMap iO
theorem Dj(A B:List Ex):Cw (A++B)=Cw A++Cw B:=by simp[Cw]
theorem DO(l:List Ex):(Cw l).length=l.length*2:=by
 induction l with
 |nil=>rfl
 |cons x l ih=>simp only[Cw,List.flatMap_cons,AY]at*;rw[ih];simp[iO];omega
theorem EJ{l}:∀u∈Cw l,u.oneCell'=true:=by
 intro u hu;obtain⟨e,_,he⟩:=List.mem_flatMap.1 hu;simp[iO]at he;rcases he with rfl|rfl<;>rfl
theorem iI(l:List Ex):∀(i:Nat),i<l.length->(Cw l)[i*2]?=AE (AA AB (DZ l i).1)/\(Cw l)[i*2+1]?=AE (AA AB (DZ l i).2):=by
 induction l with
 |nil=>intro i hi;simp at hi
 |cons x l ih=>
  intro i hi
  cases i with
  |zero=>exact⟨rfl,rfl⟩
  |succ i=>
   have h:=ih i (by simpa using hi);have e:(i+1)*2=i*2+2:=a5;rw[e];exact⟨h.1,h.2⟩
theorem Hh(l:List Ex):∀i:Nat,Cw (l.take i)=(Cw l).take (i*2):=by
 induction l with
 |nil=>intro i;simp[Cw]
 |cons x l ih=>
  intro i
  cases i with
  |zero=>rfl
  |succ i=>
   have e:(i+1)*2=i*2+2:=a5;rw[e];show iO x++Cw (l.take i)=(iO x++Cw l).take (i*2+2);rw[ih i];rfl
theorem aR(l:List Ex):∀i:Nat,Cw (l.drop i)=(Cw l).drop (i*2):=by
 induction l with
 |nil=>intro i;simp[Cw]
 |cons x l ih=>
  intro i
  cases i with
  |zero=>rfl
  |succ i=>
   have e:(i+1)*2=i*2+2:=a5;rw[e];show Cw (l.drop i)=(iO x++Cw l).drop (i*2+2);rw[ih i];rfl
theorem Ff:∃i,AP.info? 100=AE i/\i.zero=AE (AL #[(),()])/\i.size=2/\i.bytes=16:=info_parts a7
theorem Gy:(AP.info? 100).map (·.size)=AE 2:=a7
theorem aW(w:World):(Go.sizeOf 100).run AP w=.ok 2 w:=by
 obtain⟨i,hi,_,e,_⟩:=Ff;simp[Go.sizeOf,typeInfo,hi,e]
theorem X7(w:World):(zeroValue 100).run AP w=.ok (AL #[(),()]) w:=by
 obtain⟨i,hi,e,_⟩:=Ff;simp[zeroValue,typeInfo,hi,e]
structure Fi (w:World) (g cap n:Nat) (l:List Ex) (cur:List Value):Prop where
 row:Row w g 100 cur
 size:cur.length=cap*2
 le:n<=cap
 max:cap<=9223372036854775807
 cells:cur.take (n*2)=Cw l
 len:l.length=n
theorem JJ{w v n l}(h:w.ownsRow 0 100 2 v n (Cw l)):(v=AJ AD 0 0/\n=0/\l=[])\/∃g cap cur,v=AJ (AE ⟨g,0,AD⟩) n cap/\Fi w g cap n l cur:=by
 obtain⟨H,e⟩:=h;rw[DO]at H;rcases e with⟨rfl,rfl⟩|⟨g,cap,cur,rfl,_,hh,hcap,hm,hs,ht⟩
 ·exact .inl ⟨rfl,rfl,List.eq_nil_of_length_eq_zero a5⟩
 ·exact .inr ⟨g,cap,cur.toList,rfl,hh,by simpa using hs,hcap,hm,ht,a5⟩
section
variable{w:World}{g cap n:Nat}{l:List Ex}{cur:List Value}
theorem Fi.own(h:Fi w g cap n l cur):w.ownsRow 0 100 2 (AJ g n cap) n (Cw l):=
 ⟨by rw[DO,h.len],.inr ⟨g,cap,cur.toArray,rfl,Aq _,h.row,h.le,h.max,by simpa using h.size,by simpa using h.cells⟩⟩
theorem Fi.get(h:Fi w g cap n l cur){k}(e:k<n*2):cur[k]?=(Cw l)[k]?:=by
 rw[<-h.cells,At,if_pos e]
theorem Fi.at_(h:Fi w g cap n l cur){i}(hi:i<n):w.cell? (g,i*2)=AE (AA AB (DZ l i).1)/\w.cell? (g,i*2+1)=AE (AA AB (DZ l i).2):=by
 have e:=iI l i (by rw[h.len];exact hi);rw[h.row.cell,h.row.cell,h.get a5,h.get a5];exact e
theorem Fi.shape(h:Fi w g cap n l cur):w.shape? g=AE (100,cap*2):=by
 have:=h.row;unfold Row at this;simp[World.shape?,this,h.size]
theorem Fi.src(h:Fi w g cap n l cur)(i:Nat):∀j v,(Cw (l.drop i))[j]?=AE v->cur[i*2+j]?=AE v:=by
 intro j v e;rw[aR,CL]at e;have I:i*2+j<n*2:=by
  rcases Am (i*2+j) (Cw l).length with H|H
  ·rw[DO,h.len]at H;exact H
  ·rw[BG H]at e;cases e
 rw[h.get I];exact e
end
def JD(w:World)(v:Value)(l:List Ex)(e:Ending)(w':World):Prop:=
 ∃v',e=AH v'/\w'.ownsRow 0 100 2 v' l.length (Cw l)/\DG (λk=>v.ownBlock=AE k) w w'/\∀k,v'.ownBlock=AE k->v.ownBlock=AE k\/w<=k
theorem Fi.got{w w' v g cap n l cur}(h:Fi w' g cap n l cur)(hf:DG (λk=>v.ownBlock=AE k) w w')(I:v.ownBlock=AE g\/w<=g):JD w v l (AH (AJ g n cap)) w':=by
 have e:=h.len;subst e;exact⟨_,rfl,h.own,hf,λk H=>by injection H with H;subst H;exact I⟩
theorem R2(w:World)(a b:Addr)(la ca lb cb:Nat)(O:a.block≠b.block)(tA tB:TypeId)(I H:Nat)(J:w.shape? a.block=AE (tA,I))(Qs:w.shape? b.block=AE (tB,H))(Q:H≠0)
  (gW:w.frozen? a=false)(U:w.frozen? {block:=a.block,off:=I}=false):(callFunc 123 #[AJ (AE a) la ca,AJ (AE b) lb cb]).run AP w=.ok (.value false) w:=by
 rw[run_callFunc_extern func123 a7 a7 a7 (e:=Extern.SlicesOverlaps.overlaps #[101,101] #[4]) a7,
  Lib.run_overlaps_apart w 101 4 100 Ad 2 aW a b la ca lb cb O tA tB I H J Qs Q gW U]
 rfl
theorem VX(w:World){g cap n Q cv m i}{l M}{cur aY}(h:Fi w g cap n l cur)(O:Fi w Q cv m M aY)(ad:Q≠g)(hi:i<n)(hm:0<m)(ab:n+m<=cap)(Ks:n+m<=4000000):
  Calls AP 122 #[AJ g n cap,i,AJ Q m cv] w (JD w (AJ g n cap) (l.take i++M++l.drop i)):=by
 obtain⟨i0,FM,_,hz,_⟩:=Ff;obtain⟨R,hR⟩:=ae (l.take i++M++l.drop i);rw[<-hR];obtain⟨e,KQ⟩:∃t:Nat,t=n+m:=⟨_,rfl⟩;obtain⟨I,aB⟩:∃t:Nat,t=i+m:=⟨_,rfl⟩;have aa:=h.max;have hlen:=h.len;have Lh:=O.len;have J:=h.size;have UP:(n:Int)+(m:Int)=(e:Int):=a5;have Ov:(i:Int)+(m:Int)=(I:Int):=a5;have Nv:Aa.wrap (e:Int)=(e:Int):=Ah _ a5;have GK:Aa.wrap (I:Int)=(I:Int):=Ah _ a5;have Hz:¬((m:Int)=0):=a5;have FT:¬((i:Int)=(n:Int)):=a5;have IZ:decide ((e:Int)>(cap:Int))=false:=by simp;omega
 have Gg:=λw' k=>EX (P:=AP) w' 101 100 i0 Ad FM hz g n cap i a5 k (i:Int) rfl;have Gk:=λw' k=>Fc (P:=AP) w' 101 100 i0 Ad FM g n cap e a5 k (e:Int) rfl;have TY:=λw' k=>EX (P:=AP) w' 101 100 i0 Ad FM hz g e cap I a5 k (I:Int) rfl;have Xc:=λw' k=>EX (P:=AP) w' 101 100 i0 Ad FM hz g e cap i a5 k (i:Int) rfl;have U:=EW (g:=g) (off:=0) (i:=I) (cap:=cap) (sz:=2) a5;have Vc:=EW (g:=g) (off:=0) (i:=i) (cap:=cap) (sz:=2) a5;rw[BL]at U Vc;rw[U]at TY;rw[Vc]at Xc Gg;have NV:∀lb cb,(callFunc 123 #[AJ Q m cv,AJ (g,I*2) lb cb]).run AP w=.ok (.value false) w:=λlb cb=>
  R2 w Q (g,I*2) m cv lb cb ad _ _ _ _ O.shape h.shape a5 (O.row.free 0) (O.row.free _)
 have Li:(Cw (l.drop i)).length=CW (e-i) (e-I)*2:=by rw[DO,An,hlen,KQ,aB];simp only[Nat.min_def];split<;>omega
 have NI:∀j v,(Cw (l.drop i))[j]?=AE v->w.drew.cell? (((g,i*2):Addr).add j)=AE v:=λj v hj=>by
  rw[Bl];exact(h.row.cell _).trans (h.src i j v hj)
 have av:I*2+(Cw (l.drop i)).length<=cur.length:=by rw[DO,An,hlen,J,aB];omega
 have C1:=AO Li;have C2:=AO NI;have C3:=AO av;clear Li NI av;have aH:(Cw M).length=CW m (e-i)*2:=by rw[DO,Lh,KQ];simp only[Nat.min_def];split<;>omega
 have ar:∀j v,(Cw M)[j]?=AE v->w.cell? ((Q:Addr).add j)=AE v:=λj v hj=>by
  rw[Bl,BL,O.row.cell];have:=O.src 0 j v (by simpa using hj);simpa using this
 have gj:i*2+(Cw M).length<=(splice cur (I*2) (Cw (l.drop i))).length:=by rw[DL _ _ _ C3.out,DO,Lh,J];omega
 have xK:((splice (splice cur (I*2) (Cw (l.drop i))) (i*2) (Cw M)).take (e*2))=Cw R:=by
  rw[NQ cur (Cw M) (Cw (l.drop i)) (i*2) (I*2) (e*2) (by rw[DO,Lh];omega) (by rw[DO,An,hlen];omega) (by rw[J];omega),hR,Dj,Dj,Hh,<-h.cells,B7,Bh a5]
 have ao:(splice (splice cur (I*2) (Cw (l.drop i))) (i*2) (Cw M)).length=cap*2:=by rw[DL _ _ _ gj,DL _ _ _ C3.out,J]
 have al:R.length=e:=by rw[hR,AY,AY,Ac,An,hlen,Lh];omega
 have C4:=AO aH;have C5:=AO ar;have C6:=AO gj;have C7:=AO xK;have C8:=AO ao;have C9:=AO al;have aA:Hid (e<=cap):=by unfold Hid;omega
 clear aH ar gj xK ao al hR;have H:=AO h;have HV:=AO O;have HT:=AO KQ;have HI:=AO aB;have HL:=AO hlen;have aD:=AO Lh;have HS:=AO J;clear h O KQ aB hlen Lh J U Vc hz FM;go_enter func122,ntmps122
 go_wp2_with (simp only[NV])
 go_region_law (refine GO rfl _ _ 101 101 rfl 100 Ad Gy a6 (g,I*2) (g,i*2) (e-I) (cap-I) (e-i) (cap-i) (by simp[Act.eval,Act.put]) (by simp[Act.eval,Act.put]) g (I*2) cur 100 H.out.row (Cw (l.drop i)) C1.out (λ_=>⟨rfl,_,rfl,C2.out⟩) C3.out EJ ?_;intro w2 EA Gl)
 have mX:=Gl.out.row (w:=w.drew) HV.out.row ad;have aw:=AO mX;clear mX;have c5:∀j v,(Cw M)[j]?=AE v->w2.cell? ((Q:Addr).add j)=AE v:=λj v hj=>by
  have h5:=C5.out j v hj;rw[Bl]at h5⊢;rw[aw.out.cell,<-HV.out.row.cell];exact h5
 have aC:=AO c5;clear c5;go_wp2_with (with_reducible refine EO 82 ?_)
 unfold Hid;refine Eb rfl _ _ 101 101 rfl 100 Ad Gy a6 (g,i*2) Q (e-i) (cap-i) m cv rfl rfl g (i*2) _ 100 EA.out (Cw M) C4.out (λ_=>⟨rfl,_,rfl,aC.out⟩) C6.out EJ ?_;intro w3 FK MW;go_wp2
 go_ret
 have own:Fi w3 g cap e R _:=⟨FK.out,C8.out,aA.out,aa,C7.out,C9.out⟩;exact own.got ((DG.drew (DG.refl _ w)).trans (Gl.out.trans MW.out λb hb=>.inl hb) λb hb=>.inl (by rw[hb];rfl)) (.inl rfl)
theorem XZ(w:World){g cap n gv cv m i}{l M}{cur aY}(h:Fi w g cap n l cur)(U:Fi w gv cv m M aY)(hi:i<n)(hm:0<m)(aa:cap<n+m)(Ks:n+m<=4000000):
  Calls AP 122 #[.slice g n cap,i,.slice gv m cv] w (JD w (.slice g n cap) (l.take i++M++l.drop i)):=by
 obtain⟨i0,FM,Ft,hz,VY⟩:=Ff;obtain⟨R,hR⟩:=ae (l.take i++M++l.drop i);rw[<-hR];obtain⟨I,KQ⟩:∃t:Nat,t=n+m:=⟨_,rfl⟩;obtain⟨J,aB⟩:∃t:Nat,t=i+m:=⟨_,rfl⟩;obtain⟨q,hq⟩:∃t:Nat,t=I-i:=⟨_,rfl⟩;have aE:=h.max;have aX:=h.le;have hlen:=h.len;have Lh:=U.len;have aA:=h.size;have UP:(n:Int)+(m:Int)=(I:Int):=a5;have Ov:(i:Int)+(m:Int)=(J:Int):=a5;have aC:(I:Int)-(i:Int)=(q:Int):=a5;have Nv:Aa.wrap (I:Int)=(I:Int):=Ah _ a5;have GK:Aa.wrap (J:Int)=(J:Int):=Ah _ a5;have UJ:Aa.wrap (q:Int)=(q:Int):=Ah _ a5;have Hz:¬((m:Int)=0):=a5;have FT:¬((i:Int)=(n:Int)):=a5;have IZ:decide ((I:Int)>(cap:Int))=true:=by simp;omega
 have Gg:=λw' k=>EX (P:=AP) w' 101 100 i0 Ad FM hz g n cap i a5 k (i:Int) rfl;have Gk:=λw' k=>Fc (P:=AP) w' 101 100 i0 Ad FM g n cap i a5 k (i:Int) rfl;have TY:=λb C w' k=>EX (P:=AP) w' 101 100 i0 Ad FM hz b I C J a5 k (J:Int) rfl;have Xc:=λb C w' k=>EX (P:=AP) w' 101 100 i0 Ad FM hz b I C i a5 k (i:Int) rfl;have Vc:=EW (g:=g) (off:=0) (i:=i) (cap:=cap) (sz:=2) a5;rw[BL]at Vc;rw[Vc]at Gg;have Jw:∀j v,(Cw (l.take i))[j]?=AE v->w.cell? ((g:Addr).add j)=AE v:=λj v O=>by
  rw[Bl,BL,h.row.cell];have h1:=h.src 0 j v (by
   rw[Cn];rw[Hh,At]at O
   split at O
   ·exact O
   ·cases O)
  simpa using h1
 have Li:(Cw (l.drop i)).length=CW (n-i) (I-J)*2:=by rw[DO,An,hlen,KQ,aB];simp only[Nat.min_def];split<;>omega
 have NI:∀j v,(Cw (l.drop i))[j]?=AE v->w.cell? (((g,i*2):Addr).add j)=AE v:=λj v O=>by
  rw[Bl];exact(h.row.cell _).trans (h.src i j v O)
 have aH:(Cw M).length=CW m (I-i)*2:=by rw[DO,Lh,KQ];simp only[Nat.min_def];split<;>omega
 have al:∀j v,(Cw M)[j]?=AE v->w.cell? ((gv:Addr).add j)=AE v:=λj v O=>by
  rw[Bl,BL,U.row.cell];have:=U.src 0 j v (by simpa using O);simpa using this
 have gj:∀C (c0:List Value),I<=C->c0.length=C*2->i*2+(Cw M).length<=c0.length/\J*2+(Cw (l.drop i)).length<=(splice c0 (i*2) (Cw M)).length:=λC c0 h1 Q=>by
  have h3:i*2+(Cw M).length<=c0.length:=by rw[DO,Lh,Q];omega
  exact⟨h3,by rw[DL _ _ _ h3,DO,An,hlen,Q];omega⟩
 have xK:∀C (c0:List Value),I<=C->C<=maxLen->c0.length=C*2->c0.take (i*2)=Cw (l.take i)->∀b (W:World),Row W b 100 (splice (splice c0 (i*2) (Cw M)) (J*2) (Cw (l.drop i)))->Fi W b C I R (splice (splice c0 (i*2) (Cw M)) (J*2) (Cw (l.drop i))):=λC c0 h1 hm Q h3 b W hr=>by
  refine⟨hr,?_,h1,by unfold maxLen at hm;omega,?_,?_⟩
  ·rw[DL _ _ _ (gj C c0 h1 Q).2,DL _ _ _ (gj C c0 h1 Q).1,Q]
  ·rw[JF c0 (Cw M) (Cw (l.drop i)) (i*2) (J*2) (I*2) (by rw[DO,Lh];omega) (by rw[DO,An,hlen];omega) (by rw[Q];omega),h3,hR,Dj,Dj]
  ·rw[hR,AY,AY,Ac,An,hlen,Lh];omega
 have mY:(Cw (l.take i)).length=i*2:=by rw[DO,Ac,hlen];omega
 have C0:=AO Jw;have C1:=AO Li;have C2:=AO NI;have C4:=AO aH;have C5:=AO al;have C6:=AO gj;have C7:=AO xK;have CT:=AO mY;have CI:Hid (i<J/\J<I/\i+q=I/\0<q):=by unfold Hid;omega
 have H:=AO h;have HV:=AO U;have Ym:=AO FM;have aD:=h.row.lt;have aw:=U.row.lt;clear Jw Li NI aH al gj xK mY hR h U KQ aB hlen Lh aA Vc hq;go_enter func122,ntmps122
 go_wp2_with (with_reducible refine EO 40 ?_)
 unfold Hid;refine Gw rfl _ _ 101 3 rfl 100 i0 _ AB AB Ad underlying3 Ym.out Ft hz a6 VY rfl g i cap rfl (Cw (l.take i)) CT.out (λe=>by cases e) (λad e=>by injection e with e;subst e;exact C0.out) q (q:Int) rfl rfl CI.out.2.2.2 (by have:=CI.out;omega) (by unfold maxLen;have:=CI.out;omega) (by have:=CI.out;omega) ?_;rw[CI.out.2.2.1];intro w2 C c0 av ar Jw ab EA zJ DN;have QN:=EW (g:=w) (off:=0) (i:=J) (cap:=C) (sz:=2) (by have:=CI.out;omega);have qE:=EW (g:=w) (off:=0) (i:=i) (cap:=C) (sz:=2) (by have:=CI.out;omega);rw[BL]at QN qE;have aI:=TY w C;have aJ:=Xc w C;rw[QN]at aI;rw[qE]at aJ;have D0:=AO (av);have D1:=AO ar;have D2:=AO Jw;have D3:=AO ab;have D4:=AO EA;have D6:=AO DN;have c5:∀j v,(Cw M)[j]?=AE v->w2.cell? ((gv:Addr).add j)=AE v:=λj v O=>by
  rw[DN.cell (by rw[Bl];exact aw)];exact C5.out j v O
 have aF:=AO c5;have c2:∀j v,(Cw (l.drop i))[j]?=AE v->w2.cell? (((g,i*2):Addr).add j)=AE v:=λj v O=>by
  rw[DN.cell (by rw[Bl];exact aD)];exact C2.out j v O
 have aG:=AO c2;clear av ar Jw ab EA DN c5 c2 QN qE TY Xc zJ;go_wp2_with (with_reducible refine EO 45 ?_)
 unfold Hid;refine Eb rfl _ _ 101 101 rfl 100 Ad Gy a6 (w,i*2) gv (I-i) (C-i) m cv rfl rfl w (i*2) _ 100 D4.out (Cw M) C4.out (λ_=>⟨rfl,_,rfl,aF.out⟩) (C6.out C c0 D0.out D2.out).1 EJ ?_;intro w3 FK MW;have c2:∀j v,(Cw (l.drop i))[j]?=AE v->w3.drew.cell? (((g,i*2):Addr).add j)=AE v:=λj v O=>by
  have h5:=aG.out j v O;rw[Bl]at h5⊢;exact(World.cell?_of_block (MW.out.block g (by have:=D6.out.size;omega) a5)).trans h5
 have aK:=AO c2;clear c2;go_wp2
 go_region_law (refine GO rfl _ _ 101 101 rfl 100 Ad Gy a6 (w.heap.size,J*2) (g,i*2) (I-J) (C-J) (n-i) (cap-i) (by simp[Act.eval,Act.put]) (by simp[Act.eval,Act.put]) w.heap.size (J*2) _ 100 FK.out (Cw (l.drop i)) C1.out (λ_=>⟨rfl,_,rfl,aK.out⟩) (C6.out C c0 D0.out D2.out).2 EJ ?_;intro w4 JU Qy)
 go_wp2
 go_ret
 have own:=C7.out C c0 D0.out D1.out D2.out D3.out _ _ JU.out;exact own.got ((DG.DB D6.out _).trans ((MW.out.drew).trans Qy.out λb hb=>.inl hb) λb hb=>.inr a5) (.inr ao)
theorem DI{w:World}{v n l}(h:w.ownsRow 0 100 2 v n (Cw l)):∃A c,v=AJ A n c/\n<=c/\c<=9223372036854775807/\l.length=n:=by
 rcases JJ h with⟨rfl,rfl,rfl⟩|⟨g,cap,cur,rfl,h1⟩
 ·exact⟨AD,0,rfl,AQ _,a5,rfl⟩
 ·exact⟨_,_,rfl,h1.le,h1.max,h1.len⟩
theorem Kg{w:World}{A m c M}(h:w.ownsRow 0 100 2 (AJ A m c) m (Cw M))(hm:0<m):∃ad,A=AE ad/\∀j v,(Cw M)[j]?=AE v->w.cell? (ad.add j)=AE v:=by
 rcases JJ h with⟨_,h0,_⟩|⟨g,cap,cur,e,h1⟩
 ·omega
 ·injection e with I O J
  subst I;refine⟨_,rfl,λj v H=>?_⟩;rw[Bl,BL,h1.row.cell];have:=h1.src 0 j v (by simpa using H);simpa using this
theorem nw{w w' v v' n l}(h:w'.ownsRow 0 100 2 v' n (Cw l))(hf:DG (λk=>v.ownBlock=AE k) w w')(e:v'.ownBlock=v.ownBlock\/v'.ownBlock=AE w.heap.size):JD w v l (AH v') w':=by
 obtain⟨A,c,rfl,_,_,I⟩:=DI h;subst I;refine⟨_,rfl,h,hf,λk H=>?_⟩;rcases e with e|e
 ·exact .inl (e▸H)
 ·rw[e]at H;injection H with H;exact .inr a5
theorem Zr(w:World){v u}{n m}{l M}(h:w.ownsRow 0 100 2 v n (Cw l))(H:w.ownsRow 0 100 2 u m (Cw M))(hm:0<m)(Ks:n+m<=4000000):
  Calls AP 122 #[v,n,u] w (JD w v (l++M)):=by
 obtain⟨J,I,Ft,O,VY⟩:=Ff;obtain⟨R,hR⟩:=ae (l++M);rw[<-hR];have Q:w.ownsRow 0 100 2 v n (Cw l):=h;obtain⟨A,c,rfl,aa,Fu,hl⟩:=DI h;obtain⟨B,d,rfl,ab,xJ,U⟩:=DI H;obtain⟨ad,rfl,EY⟩:=Kg H hm;have Hz:¬((m:Int)=0):=a5;have Gg:=λw' k=>EX (P:=AP) w' 101 100 J Ad I O A n c n ao k (n:Int) rfl;have IW:(Cw M).length=m*2:=by rw[DO,U]
 have HX:=AO Q;have HS:=AO EY;have HF:=AO IW;have HR:=AO hR;have Ym:=AO I;clear h H Q EY hR IW hl U I;go_enter func122,ntmps122
 go_wp2_with (with_reducible refine EO 25 ?_)
 unfold Hid;refine wpList_append_own_at w rfl _ _ 101 rfl 0 100 J _ 2 16 Ad Ym.out Ft O VY rfl a6 _ n (Cw l) rfl HX.out ad m d (Cw M) rfl HF.out HS.out EJ (by unfold maxLen;omega) a5 (Aq _) ?_;intro v' w' e PS _ FX;have HO:=AO e;have HG:=AO PS;have HA:=AO FX;obtain⟨A',c',rfl,_,_⟩:∃A' c',v'=AJ A' (n+m) c'/\n+m<=c'/\c'<=9223372036854775807:=by
  rw[<-Dj]at e;obtain⟨A',c',h1,h2,h3,_⟩:=DI e;exact⟨A',c',h1,h2,h3⟩
 clear e PS FX;go_wp2
 go_ret
 have e:=HO.out;rw[<-Dj,<-HR.out]at e;exact nw e ((DG.refl _ w).grown HG.out λk hk=>.inl hk) HA.out
theorem Zs(w:World){v u}{n m i}{l M}(h:w.ownsRow 0 100 2 v n (Cw l))(O:w.ownsRow 0 100 2 u m (Cw M))(I:∀k,v.ownBlock=AE k->u.ownBlock≠AE k)(hi:i<=n)(hm:0<m)(J:n+m<=4000000):
  Calls AP 122 #[v,i,u] w (JD w v (l.take i++M++l.drop i)):=by
 have U:l.length=n:=by obtain⟨_,_,_,_,_,H⟩:=DI h;exact H
 by_cases e:i=n
 ·subst e;have:=Zr w h O hm J;rw[Ao a5,List.drop_of_length_le a5,AZ];exact this
 ·rcases JJ h with⟨_,h0,_⟩|⟨g,cap,cur,rfl,H⟩
  ·omega
  ·rcases JJ O with⟨_,h0,_⟩|⟨gv,cv,aY,rfl,h2⟩
   ·omega
   ·have Q:gv≠g:=λe=>I g rfl (by rw[e];rfl);rcases Am cap (n+m)with h3|h3
    ·exact XZ w H h2 a5 hm h3 J
    ·exact VX w H h2 Q a5 hm h3 J
theorem VG(w:World){v u}{n m i}{l M}(h:w.ownsRow 0 100 2 v n (Cw l))(I:w.ownsRow 0 100 2 u m (Cw M))(O:∀k,v.ownBlock=AE k->u.ownBlock≠AE k)(hi:i<=n)(hm:0<m)(Ks:n+m<=4000000):
  Calls AP 107 #[v,i,i,u] w (JD w v (l.take i++M++l.drop i)):=by
 obtain⟨i0,FM,Ft,hz,VY⟩:=Ff;have H:=Zs w h I O hi hm Ks;obtain⟨R,hR⟩:=ae (l.take i++M++l.drop i);rw[<-hR]at H⊢;obtain⟨A,c,rfl,aa,Fu,hl⟩:=DI h;obtain⟨B,d,rfl,ab,xJ,Qv⟩:=DI I;have Gg:=λw' k k'=>J8 (P:=AP) w' 101 100 i0 Ad FM hz A n c i i ao a5 k k' (i:Int) (i:Int) rfl rfl;have Q:=AO H;clear h I hR hl Qv FM H;go_enter func107,ntmps107
 go_wp2_with fail
 refine Q.out.mono ?_;rintro e w2 ⟨v',rfl,J,hf,U⟩;obtain⟨A',c',rfl,_,_,_⟩:=DI J;have HG:Hid (JD w (AJ A n c) R (AH (AJ A' R.length c')) w2):=⟨_,rfl,J,hf,U⟩;clear J hf U;go_wp2
 go_ret
 exact HG.out
theorem Pa(w:World){g cap n m d i}{l M}{cur}{B}(h:Fi w g cap n l cur)(hv:w.ownsRow 0 100 2 (AJ B m d) m (Cw M))(hi:i<n)(O:i+m<=cap):
  Calls AP 107 #[AJ g n cap,i,n,AJ B m d] w (JD w (AJ g n cap) (l.take i++M)):=by
 obtain⟨i0,FM,Ft,hz,VY⟩:=Ff;obtain⟨R,hR⟩:=ae (l.take i++M);rw[<-hR];obtain⟨e,KQ⟩:∃t:Nat,t=i+m:=⟨_,rfl⟩;have aa:=h.max;have al:=h.le;have hlen:=h.len;have J:=h.size;have Qv:M.length=m:=by obtain⟨_,_,_,_,_,h1⟩:=DI hv;exact h1
 have U:(Cw M).length=m*2:=by rw[DO,Qv]
 have Hz:¬((i:Int)=(n:Int)):=a5;have Gg:=λw' k k'=>J8 (P:=AP) w' 101 100 i0 Ad FM hz g n cap i n a5 a5 k k' (i:Int) (n:Int) rfl rfl;have Gk:=λw' k=>Fc (P:=AP) w' 101 100 i0 Ad FM g n cap i a5 k (i:Int) rfl;have I:i*2+(Cw M).length<=cur.length:=by rw[U,J];omega
 have D7:∀(W:World) (c1:List Value),Row W g 100 c1->c1.length=(splice cur (i*2) (Cw M)).length->c1.take (e*2)=(splice cur (i*2) (Cw M)).take (e*2)->Fi W g cap e R c1:=λW c1 h1 h2 h3=>by
  refine⟨h1,by rw[h2,DL _ _ _ I,J],a5,aa,?_,by rw[hR,AY,Ac,hlen,Qv];omega⟩;rw[h3,hR,Dj,Hh,<-h.cells,B7,Bh a5];unfold splice;rw[<-AR,CX (by rw[AY,Ac,U];omega)];exact Ao (by rw[AY,Ac,U];omega)
 have HO:=AO D7;have QA:Hid (0<m->∃ad,B=AE ad/\∀j v,(Cw M)[j]?=AE v->w.cell? (ad.add j)=AE v):=Kg hv;have qZ:=AO U;have pT:=AO I;have H:=AO h;have Ym:=AO FM;have HT:=AO KQ;have V5:Hid ((splice cur (i*2) (Cw M)).length=cap*2):=(DL _ _ _ I).trans J;by_cases ao:e<n
 ·have FT:decide ((e:Int)<(n:Int))=true:=by simp;omega
  have IZ:decide (e<n)=true:=by simp;omega
  have TY:=λw' k=>EX (P:=AP) w' 101 100 i0 Ad FM hz g n cap e a5 k (e:Int) rfl;have Q:=EW (g:=g) (off:=0) (i:=e) (cap:=cap) (sz:=2) a5;rw[BL]at Q;rw[Q]at TY;clear D7 J hlen Qv U hR FM h hv I Q KQ;go_enter func107,ntmps107
  go_wp2_with (with_reducible refine EO 34 ?_)
  unfold Hid;refine IF rfl _ _ 101 rfl 100 i0 Ad Ym.out hz g i cap rfl cur H.out.row B m d rfl (Cw M) qZ.out QA.out EJ O pT.out ?_;rw[<-HT.out];intro w2 EA Gl;go_wp2_with (with_reducible refine T8 ?_)
  unfold Hid;refine J4 rfl _ 101 rfl 100 _ (sz:=2) Ad X7 rfl a6 (g,e*2) (n-e) (cap-e) rfl g (e*2) _ 100 EA.out (λ_=>rfl) (by have:=V5.out;omega) ?_;intro w3 c3 FK ab Q MW;have bG:=AO (HO.out w3 c3 FK ab Q);have HF:=AO (Gl.out.trans MW λb hb=>.inl hb);clear FK ab Q MW EA Gl;go_wp2
  go_ret
  exact bG.out.got (HF.out.mono λb hb=>by rw[hb];rfl) (.inl rfl)
 ·have FT:decide ((e:Int)<(n:Int))=false:=by simp;omega
  have IZ:decide (e<n)=false:=by simp;omega
  clear D7 J hlen Qv U hR FM h hv I KQ;go_enter func107,ntmps107
  go_wp2_with (with_reducible refine EO 34 ?_)
  unfold Hid;refine IF rfl _ _ 101 rfl 100 i0 Ad Ym.out hz g i cap rfl cur H.out.row B m d rfl (Cw M) qZ.out QA.out EJ O pT.out ?_;rw[<-HT.out];intro w2 EA Gl;go_wp2
  go_ret
  exact(HO.out w2 _ EA.out rfl rfl).got (Gl.out.mono λb hb=>by rw[hb];rfl) (.inl rfl)
theorem Pb(w:World){g cap n m d i}{l M}{cur}{B}(h:Fi w g cap n l cur)(Q:w.ownsRow 0 100 2 (AJ B m d) m (Cw M))(hi:i<n)(U:cap<i+m)(Ks:n+m<=4000000):
  Calls AP 107 #[AJ g n cap,i,n,AJ B m d] w (JD w (AJ g n cap) (l.take i++M)):=by
 obtain⟨O,J,Ft,hz,VY⟩:=Ff;obtain⟨R,hR⟩:=ae (l.take i++M);rw[<-hR];obtain⟨e,KQ⟩:∃t:Nat,t=i+m:=⟨_,rfl⟩;have I:=h.max;have aa:=h.le;have Qv:M.length=m:=by obtain⟨_,_,_,_,_,h1⟩:=DI Q;exact h1
 have IW:(Cw M).length=m*2:=by rw[DO,Qv]
 have Hz:¬((i:Int)=(n:Int)):=a5;have FT:decide ((e:Int)<(n:Int))=false:=by simp;omega
 have IZ:decide (e<n)=false:=by simp;omega
 have Gg:=λw' k k'=>J8 (P:=AP) w' 101 100 O Ad J hz g n cap i n a5 a5 k k' (i:Int) (n:Int) rfl rfl;have Gk:=λw' k=>Fc (P:=AP) w' 101 100 O Ad J g n cap i a5 k (i:Int) rfl;obtain⟨ad,rfl,EY⟩:=Kg Q a5;have Ol:Fi w g cap i (l.take i) cur:=⟨h.row,h.size,a5,I,by rw[Hh,<-h.cells,B7,Bh a5],by rw[Ac,h.len];omega⟩;have HP:=AO Ol.own;have QA:=AO EY;have qZ:=AO IW;have Ym:=AO J;have HT:=AO KQ;have HR:=AO hR;clear Qv IW hR J h Q KQ Ol EY;go_enter func107,ntmps107
 go_wp2_with (with_reducible refine EO 34 ?_)
 unfold Hid;refine wpList_append_own_at w rfl _ _ 101 rfl 0 100 O _ 2 16 Ad Ym.out Ft hz VY rfl a6 _ i (Cw (l.take i)) rfl HP.out ad m d (Cw M) rfl qZ.out QA.out EJ (by unfold maxLen;omega) a5 (Aq _) ?_;rw[<-HT.out];intro v' w' H PS _ FX;have HO:=AO H;have HG:=AO PS;have HA:=AO FX;obtain⟨A',c',rfl,_,_⟩:∃A' c',v'=AJ A' e c'/\e<=c'/\c'<=9223372036854775807:=by
  rw[<-Dj]at H;obtain⟨A',c',h1,h2,h3,_⟩:=DI H;exact⟨A',c',h1,h2,h3⟩
 clear H PS FX;go_wp2
 go_ret
 have H:=HO.out;rw[<-Dj,<-HR.out]at H;exact nw H ((DG.refl _ w).grown HG.out λk hk=>.inl hk) HA.out
theorem Wy(w:World){g cap n m d i j}{l M}{cur}{B}(h:Fi w g cap n l cur)(hv:w.ownsRow 0 100 2 (AJ B m d) m (Cw M))(Il:i<j)(hj:j<n)(hm:i+m<=j)(Ks:n+m<=4000000):
  Calls AP 107 #[AJ g n cap,i,j,AJ B m d] w (JD w (AJ g n cap) (l.take i++M++l.drop j)):=by
 obtain⟨Q,O,Ft,hz,VY⟩:=Ff;obtain⟨R,hR⟩:=ae (l.take i++M++l.drop j);rw[<-hR];obtain⟨r,hr⟩:∃t:Nat,t=n-j:=⟨_,rfl⟩;obtain⟨I,aB⟩:∃t:Nat,t=i+m:=⟨_,rfl⟩;obtain⟨e,KQ⟩:∃t:Nat,t=I+r:=⟨_,rfl⟩;have aa:=h.max;have ao:=h.le;have hlen:=h.len;have J:=h.size;have Qv:M.length=m:=by obtain⟨_,_,_,_,_,h1⟩:=DI hv;exact h1
 have IW:(Cw M).length=m*2:=by rw[DO,Qv]
 have cU:(Cw (l.drop j)).length=r*2:=by rw[DO,An,hlen,hr]
 have UP:(i:Int)+(m:Int)=(I:Int):=a5;have Ov:(I:Int)+(r:Int)=(e:Int):=a5;have Nv:Aa.wrap (I:Int)=(I:Int):=Ah _ a5;have GK:Aa.wrap (e:Int)=(e:Int):=Ah _ a5;have Hz:¬((i:Int)=(j:Int)):=a5;have FT:¬((j:Int)=(n:Int)):=a5;have Gg:=λw' k k'=>J8 (P:=AP) w' 101 100 Q Ad O hz g n cap i j a5 a5 k k' (i:Int) (j:Int) rfl rfl;have Gk:=λw' k=>Fc (P:=AP) w' 101 100 Q Ad O g n cap i a5 k (i:Int) rfl;have TY:=λw' k=>EX (P:=AP) w' 101 100 Q Ad O hz g n cap j a5 k (j:Int) rfl;have QN:=EW (g:=g) (off:=0) (i:=j) (cap:=cap) (sz:=2) a5;rw[BL]at QN;rw[QN,<-hr]at TY;have MM:∀k v,(Cw (l.drop j))[k]?=AE v->cur[j*2+k]?=AE v:=h.src j;have Xc:=λw' k=>Fc (P:=AP) w' 101 100 Q Ad O g n cap e a5 k (e:Int) rfl;have mj:=λw' k=>EX (P:=AP) w' 101 100 Q Ad O hz g e cap i a5 k (i:Int) rfl;have zG:=EW (g:=g) (off:=0) (i:=i) (cap:=cap) (sz:=2) a5;have cJ:=λw' k=>EX (P:=AP) w' 101 100 Q Ad O hz g e cap I a5 k (I:Int) rfl;have zF:=EW (g:=g) (off:=0) (i:=I) (cap:=cap) (sz:=2) a5;rw[BL]at zG zF;rw[zG]at mj;rw[zF]at cJ;have aH:(Cw M).length=CW m (e-i)*2:=by rw[IW];simp only[Nat.min_def];split<;>omega
 have Li:(Cw (l.drop j)).length=CW r (e-I)*2:=by rw[cU];simp only[Nat.min_def];split<;>omega
 have mY:cur.take (i*2)=Cw (l.take i):=by rw[Hh,<-h.cells,B7,Bh a5]
 have xN:R.length=e:=by rw[hR,AY,AY,Ac,An,hlen,Qv];omega
 have U:i*2+(Cw M).length<=cur.length:=by rw[IW,J];omega
 have Gl:I*2+(Cw (l.drop j)).length<=cur.length:=by rw[cU,J];omega
 have IZ:decide ((e:Int)>(cap:Int))=false:=by simp;omega
 have av:decide (cap<e)=false:=by simp;omega
 have ar:decide ((cap:Int)<(e:Int))=false:=by simp;omega
 have aw:decide ((I:Int)<=(j:Int))=true:=by simp;omega
 have aC:decide (I<=j)=true:=by simp;omega
 have Zz:=λw' k=>EX (P:=AP) w' 101 100 Q Ad O hz g n cap e a5 k (e:Int) rfl;have D7:∀(W:World) (c1:List Value),Row W g 100 c1->c1.length=(splice (splice cur (i*2) (Cw M)) (I*2) (Cw (l.drop j))).length->c1.take (e*2)=(splice (splice cur (i*2) (Cw M)) (I*2) (Cw (l.drop j))).take (e*2)->Fi W g cap e R c1:=λW c1 h1 h2 h3=>by
  refine⟨h1,by rw[h2,DL _ _ _ (by rw[DL _ _ _ U];exact Gl),DL _ _ _ U,J],a5,aa,?_,xN⟩;rw[h3,JF cur (Cw M) (Cw (l.drop j)) (i*2) (I*2) (e*2) (by rw[IW];omega) (by rw[cU];omega) (by rw[J];omega),mY,hR,Dj,Dj]
 have wM:∀k v,(Cw (l.drop j))[k]?=AE v->(splice cur (i*2) (Cw M))[j*2+k]?=AE v:=λk v hk=>by
  rw[ET _ _ _ U (by rw[IW];omega)];exact MM k v hk
 have HO:=AO D7;have QA:Hid (0<m->∃ad,B=AE ad/\∀j v,(Cw M)[j]?=AE v->w.cell? (ad.add j)=AE v):=Kg hv;have al:=AO wM;have C1:=AO Li;have C4:=AO aH;have F1:=AO U;have F2:Hid (I*2+(Cw (l.drop j)).length<=(splice cur (i*2) (Cw M)).length):=by unfold Hid;rw[DL _ _ _ U];exact Gl
 have FS1:Hid ((splice (splice cur (i*2) (Cw M)) (I*2) (Cw (l.drop j))).length=cap*2):=by unfold Hid;rw[DL _ _ _ F2.out,DL _ _ _ U,J]
 have FL:=AO IW;have H:=AO h;have HT:Hid (e<=n/\n<=cap):=by unfold Hid;omega
 clear D7 wM Li aH U Gl IW cU hR Qv hlen J mY xN O h hv hr aB KQ QN zG zF MM;go_enter func107,ntmps107
 go_wp2
 go_region
 go_wp2_with (with_reducible refine EO 97 ?_)
 unfold Hid;refine Eb rfl _ _ 101 101 rfl 100 Ad Gy a6 (g,i*2) B (e-i) (cap-i) m d rfl rfl g (i*2) _ 100 H.out.row (Cw M) C4.out (λh0=>⟨rfl,QA.out (by have:=FL.out;omega)⟩) F1.out EJ ?_;intro w2 EA Gl;have c2:∀k v,(Cw (l.drop j))[k]?=AE v->w2.drew.cell? (((g,j*2):Addr).add k)=AE v:=λk v hk=>by
  rw[Bl];exact(EA.out.cell _).trans (al.out k v hk)
 have C2:=AO c2;clear c2;go_wp2
 go_region_law (refine GO rfl _ _ 101 101 rfl 100 Ad Gy a6 (g,I*2) (g,j*2) (e-I) (cap-I) r (cap-j) (by simp[Act.eval,Act.put]) (by simp[Act.eval,Act.put]) g (I*2) _ 100 EA.out (Cw (l.drop j)) C1.out (λ_=>⟨rfl,_,rfl,C2.out⟩) F2.out EJ ?_;intro w3 FK MW)
 go_wp2_with (with_reducible refine T8 ?_)
 unfold Hid;refine J4 rfl _ 101 rfl 100 _ (sz:=2) Ad X7 rfl a6 (Rh g e cap 2) (n-e) (cap-e) rfl g (e*2) _ 100 FK.out (λh0=>by rw[EW (by have:=HT.out;omega),BL]) (by have:=FS1.out;have:=HT.out;omega) ?_;intro w4 c4 JU ab qE Qy;have bG:=AO (HO.out w4 c4 JU ab qE);have HF:=AO (((DG.drew (DG.refl (λb=>b=g) w)).trans (Gl.out.drew) λb hb=>.inl hb).trans (MW.out.trans Qy λb hb=>.inl hb) λb hb=>.inl hb);clear JU ab qE Qy FK MW EA Gl;go_wp2
 go_ret
 exact bG.out.got (HF.out.mono λb hb=>by rw[hb];rfl) (.inl rfl)
theorem VF(w:World){g cap n m d i j Q}{l M}{cur aY}(h:Fi w g cap n l cur)(mX:Fi w Q d m M aY)(aa:g≠Q)(Il:i<j)(hj:j<n)(hm:j<i+m)(ao:i+m+(n-j)<=cap)(Ks:n+m<=4000000):
  Calls AP 107 #[AJ g n cap,i,j,AJ Q m d] w (JD w (AJ g n cap) (l.take i++M++l.drop j)):=by
 have hv:=mX.own;obtain⟨i0,FM,Ft,hz,VY⟩:=Ff;obtain⟨R,hR⟩:=ae (l.take i++M++l.drop j);rw[<-hR];obtain⟨r,hr⟩:∃t:Nat,t=n-j:=⟨_,rfl⟩;obtain⟨J,aB⟩:∃t:Nat,t=i+m:=⟨_,rfl⟩;obtain⟨I,KQ⟩:∃t:Nat,t=J+r:=⟨_,rfl⟩;have ab:=h.max;have aw:=h.le;have hlen:=h.len;have O:=h.size;have Qv:M.length=m:=by obtain⟨_,_,_,_,_,h1⟩:=DI hv;exact h1
 have IW:(Cw M).length=m*2:=by rw[DO,Qv]
 have cU:(Cw (l.drop j)).length=r*2:=by rw[DO,An,hlen,hr]
 have UP:(i:Int)+(m:Int)=(J:Int):=a5;have Ov:(J:Int)+(r:Int)=(I:Int):=a5;have Nv:Aa.wrap (J:Int)=(J:Int):=Ah _ a5;have GK:Aa.wrap (I:Int)=(I:Int):=Ah _ a5;have Hz:¬((i:Int)=(j:Int)):=a5;have FT:¬((j:Int)=(n:Int)):=a5;have Gg:=λw' k k'=>J8 (P:=AP) w' 101 100 i0 Ad FM hz g n cap i j a5 a5 k k' (i:Int) (j:Int) rfl rfl;have Gk:=λw' k=>Fc (P:=AP) w' 101 100 i0 Ad FM g n cap i a5 k (i:Int) rfl;have TY:=λw' k=>EX (P:=AP) w' 101 100 i0 Ad FM hz g n cap j a5 k (j:Int) rfl;have QN:=EW (g:=g) (off:=0) (i:=j) (cap:=cap) (sz:=2) a5;rw[BL]at QN;rw[QN,<-hr]at TY;have MM:∀k v,(Cw (l.drop j))[k]?=AE v->cur[j*2+k]?=AE v:=h.src j;have Xc:=λw' k=>Fc (P:=AP) w' 101 100 i0 Ad FM g n cap I a5 k (I:Int) rfl;have mj:=λw' k=>EX (P:=AP) w' 101 100 i0 Ad FM hz g I cap i a5 k (i:Int) rfl;have zG:=EW (g:=g) (off:=0) (i:=i) (cap:=cap) (sz:=2) a5;have cJ:=λw' k=>EX (P:=AP) w' 101 100 i0 Ad FM hz g I cap J a5 k (J:Int) rfl;have zF:=EW (g:=g) (off:=0) (i:=J) (cap:=cap) (sz:=2) a5;rw[BL]at zG zF;rw[zG]at mj;rw[zF]at cJ;have aH:(Cw M).length=CW m (I-i)*2:=by rw[IW];simp only[Nat.min_def];split<;>omega
 have Li:(Cw (l.drop j)).length=CW r (I-J)*2:=by rw[cU];simp only[Nat.min_def];split<;>omega
 have mY:cur.take (i*2)=Cw (l.take i):=by rw[Hh,<-h.cells,B7,Bh a5]
 have xN:R.length=I:=by rw[hR,AY,AY,Ac,An,hlen,Qv];omega
 have Kq:i*2+(Cw M).length<=cur.length:=by rw[IW,O];omega
 have U:J*2+(Cw (l.drop j)).length<=cur.length:=by rw[cU,O];omega
 have IZ:decide ((I:Int)>(cap:Int))=false:=by simp;omega
 have aD:decide (cap<I)=false:=by simp;omega
 have aA:decide ((cap:Int)<(I:Int))=false:=by simp;omega
 have aE:decide ((J:Int)<=(j:Int))=false:=by simp;omega
 have aC:decide (J<=j)=false:=by simp;omega
 have NV:∀(W:World),W=w.drew->∀lb cb,(callFunc 123 #[AJ (g,J*2) lb cb,AJ Q m d]).run AP W=.ok (.value false) W:=λW e lb cb=>by
  subst e;exact R2 w.drew (g,J*2) Q lb cb m d aa _ _ _ _ (show w.shape? g= _ from h.shape) (show w.shape? Q= _ from mX.shape) (by have:=mX.le;omega) (h.row.free _) (h.row.free _)
 have NV:=NV _ rfl;have MW:i*2+(Cw M).length<=(splice cur (J*2) (Cw (l.drop j))).length:=by rw[DL _ _ _ U];exact Kq
 have D7:∀(W:World),Row W g 100 (splice (splice cur (J*2) (Cw (l.drop j))) (i*2) (Cw M))->Fi W g cap I R (splice (splice cur (J*2) (Cw (l.drop j))) (i*2) (Cw M)):=λW h1=>by
  refine⟨h1,by rw[DL _ _ _ MW,DL _ _ _ U,O],a5,ab,?_,xN⟩;rw[NQ cur (Cw M) (Cw (l.drop j)) (i*2) (J*2) (I*2) (by rw[IW];omega) (by rw[cU];omega) (by rw[O];omega),mY,hR,Dj,Dj]
 obtain⟨ad,al,EY⟩:=Kg hv a5;injection al with al;subst al
 have HO:=AO D7;have QA:=AO EY;have av:=AO MM;have C1:=AO Li;have C4:=AO aH;have F2:=AO U;have F3:=AO MW;have H:=AO h;have ar:=mX.row.lt;have qX:=AO aa;clear D7 EY Li aH Kq U MW IW cU hR Qv hlen O mY xN FM h hv mX hr aB KQ QN zG zF aa;have c2:∀k v,(Cw (l.drop j))[k]?=AE v->w.drew.drew.cell? (((g,j*2):Addr).add k)=AE v:=λk v hk=>by
  rw[Bl];exact(H.out.row.cell _).trans (av.out k v hk)
 have C2:=AO c2;clear c2 MM;go_enter func107,ntmps107
 go_wp2
 go_region
 go_wp2_with (simp only[NV])
 go_region_law (refine GO rfl _ _ 101 101 rfl 100 Ad Gy a6 (g,J*2) (g,j*2) (I-J) (cap-J) r (cap-j) (by simp[Act.eval,Act.put]) (by simp[Act.eval,Act.put]) g (J*2) _ 100 H.out.row (Cw (l.drop j)) C1.out (λ_=>⟨rfl,_,rfl,C2.out⟩) F2.out EJ ?_;intro w2 EA U)
 have c5:∀k v,(Cw M)[k]?=AE v->w2.cell? ((Q:Addr).add k)=AE v:=λk v hk=>by
  have h5:=QA.out k v hk;rw[Bl]at h5⊢;exact(World.cell?_of_block (w:=w.drew.drew) (U.out.block Q ar (λe=>qX.out e.symm))).trans h5
 have C5:=AO c5;clear c5;go_wp2_with (with_reducible refine EO 135 ?_)
 unfold Hid;refine Eb rfl _ _ 101 101 rfl 100 Ad Gy a6 (g,i*2) Q (I-i) (cap-i) m d rfl rfl g (i*2) _ 100 EA.out (Cw M) C4.out (λh0=>⟨rfl,_,rfl,C5.out⟩) F3.out EJ ?_;intro w3 FK MW;have bG:=AO (HO.out w3 FK.out);have HF:=AO (((DG.drew (DG.drew (DG.refl (λb=>b=g) w))).trans U.out λb hb=>.inl hb).trans MW.out λb hb=>.inl hb);clear FK MW EA U;go_wp2
 go_ret
 exact bG.out.got (HF.out.mono λb hb=>by rw[hb];rfl) (.inl rfl)
theorem VH(w:World){g cap n m d i j}{l M}{cur}{B}(h:Fi w g cap n l cur)(hv:w.ownsRow 0 100 2 (.slice B m d) m (Cw M))(Il:i<j)(hj:j<n)(aa:cap<i+m+(n-j))(Ks:n+m<=4000000):
  Calls AP 107 #[.slice g n cap,i,j,.slice B m d] w (JD w (.slice g n cap) (l.take i++M++l.drop j)):=by
 obtain⟨i0,FM,Ft,hz,VY⟩:=Ff;obtain⟨R,hR⟩:=ae (l.take i++M++l.drop j);rw[<-hR];obtain⟨r,hr⟩:∃t:Nat,t=n-j:=⟨_,rfl⟩;obtain⟨I,aB⟩:∃t:Nat,t=i+m:=⟨_,rfl⟩;obtain⟨H,KQ⟩:∃t:Nat,t=I+r:=⟨_,rfl⟩;have aE:=h.max;have aY:=h.le;have hlen:=h.len;have aw:=h.size;have Qv:M.length=m:=by obtain⟨_,_,_,_,_,Q⟩:=DI hv;exact Q
 have IW:(Cw M).length=m*2:=by rw[DO,Qv]
 have cU:(Cw (l.drop j)).length=r*2:=by rw[DO,An,hlen,hr]
 have UP:(i:Int)+(m:Int)=(I:Int):=a5;have Ov:(I:Int)+(r:Int)=(H:Int):=a5;have Nv:Aa.wrap (I:Int)=(I:Int):=Ah _ a5;have GK:Aa.wrap (H:Int)=(H:Int):=Ah _ a5;have Hz:¬((i:Int)=(j:Int)):=a5;have FT:¬((j:Int)=(n:Int)):=a5;have Gg:=λw' k k'=>J8 (P:=AP) w' 101 100 i0 Ad FM hz g n cap i j a5 a5 k k' (i:Int) (j:Int) rfl rfl;have Gk:=λw' k=>Fc (P:=AP) w' 101 100 i0 Ad FM g n cap i a5 k (i:Int) rfl;have TY:=λw' k=>EX (P:=AP) w' 101 100 i0 Ad FM hz g n cap j a5 k (j:Int) rfl;have U:=EW (g:=g) (off:=0) (i:=j) (cap:=cap) (sz:=2) a5;rw[BL]at U;rw[U,<-hr]at TY;have MM:∀k v,(Cw (l.drop j))[k]?=AE v->cur[j*2+k]?=AE v:=h.src j;obtain⟨q,hq⟩:∃t:Nat,t=H-i:=⟨_,rfl⟩;have aA:(H:Int)-(i:Int)=(q:Int):=a5;have UJ:Aa.wrap (q:Int)=(q:Int):=Ah _ a5;have IZ:decide ((H:Int)>(cap:Int))=true:=by simp;omega
 have a1:decide (cap<H)=true:=by simp;omega
 have a0:decide ((cap:Int)<(H:Int))=true:=by simp;omega
 have mj:=λb C w' k=>EX (P:=AP) w' 101 100 i0 Ad FM hz b H C i a5 k (i:Int) rfl;have cJ:=λb C w' k=>EX (P:=AP) w' 101 100 i0 Ad FM hz b H C I a5 k (I:Int) rfl;have aH:(Cw M).length=CW m (H-i)*2:=by rw[IW];simp only[Nat.min_def];split<;>omega
 have Li:(Cw (l.drop j)).length=CW r (H-I)*2:=by rw[cU];simp only[Nat.min_def];split<;>omega
 have mY:cur.take (i*2)=Cw (l.take i):=by rw[Hh,<-h.cells,B7,Bh a5]
 have wK:(Cw (l.take i)).length=i*2:=by rw[DO,Ac,hlen];omega
 have xN:R.length=H:=by rw[hR,AY,AY,Ac,An,hlen,Qv];omega
 have Jw:∀k v,(Cw (l.take i))[k]?=AE v->w.cell? ((g:Addr).add k)=AE v:=λk v O=>by
  rw[Bl,BL,h.row.cell];rw[<-mY,At]at O
  split at O
  ·exact O
  ·cases O
 have NI:∀k v,(Cw (l.drop j))[k]?=AE v->w.cell? (((g,j*2):Addr).add k)=AE v:=λk v O=>by
  rw[Bl];exact(h.row.cell _).trans (MM k v O)
 have gj:∀C (c0:List Value),H<=C->c0.length=C*2->i*2+(Cw M).length<=c0.length/\I*2+(Cw (l.drop j)).length<=(splice c0 (i*2) (Cw M)).length:=λC c0 Q J=>by
  have h3:i*2+(Cw M).length<=c0.length:=by rw[IW,J];omega
  exact⟨h3,by rw[DL _ _ _ h3,cU,J];omega⟩
 have xK:∀C (c0:List Value),H<=C->C<=maxLen->c0.length=C*2->c0.take (i*2)=Cw (l.take i)->∀b (W:World),Row W b 100 (splice (splice c0 (i*2) (Cw M)) (I*2) (Cw (l.drop j)))->Fi W b C H R (splice (splice c0 (i*2) (Cw M)) (I*2) (Cw (l.drop j))):=λC c0 Q hm J h3 b W aC=>by
  refine⟨aC,?_,Q,by unfold maxLen at hm;omega,?_,xN⟩
  ·rw[DL _ _ _ (gj C c0 Q J).2,DL _ _ _ (gj C c0 Q J).1,J]
  ·rw[JF c0 (Cw M) (Cw (l.drop j)) (i*2) (I*2) (H*2) (by rw[IW];omega) (by rw[cU];omega) (by rw[J];omega),h3,hR,Dj,Dj]
 obtain⟨ad,rfl,EY⟩:=Kg hv a5;have z7:ad.block<w:=by
  have wY:0<(Cw M).length:=by rw[IW];omega
  have Q:=EY 0 _ (AU wY);have J:=Ci Q;simpa [CY]using J
 have C0:=AO Jw;have C1:=AO Li;have C2:=AO NI;have C4:=AO aH;have C5:=AO EY;have C6:=AO gj;have C7:=AO xK;have CT:=AO wK;have CI:Hid (i<I/\I<H/\i+q=H/\0<q/\H<=4000000/\cap<H):=by unfold Hid;omega
 have Ym:=AO FM;have aD:=h.row.lt;have al:=λ(ad:Addr) k=>show (ad.add k).block=ad.block by unfold CY;split<;>rfl
 have aF:=AO al;clear Jw Li NI aH gj xK mY wK hR xN h hv KQ aB hlen aw U hq EY MM IW cU Qv hr al;go_enter func107,ntmps107
 go_wp2
 go_region
 go_wp2_with (with_reducible refine EO 67 ?_)
 unfold Hid;refine Gw rfl _ _ 101 3 rfl 100 i0 _ AB AB Ad underlying3 Ym.out Ft hz a6 VY rfl g i cap rfl (Cw (l.take i)) CT.out (λe=>by cases e) (λad e=>by injection e with e;subst e;exact C0.out) q (q:Int) rfl rfl CI.out.2.2.2.1 (by have:=CI.out;omega) (by unfold maxLen;have:=CI.out;omega) (by have:=CI.out;omega) ?_;rw[CI.out.2.2.1];intro w2 C c0 av ar Jw ab EA zJ DN;have U:=EW (g:=w) (off:=0) (i:=I) (cap:=C) (sz:=2) (by have:=CI.out;omega);have qE:=EW (g:=w) (off:=0) (i:=i) (cap:=C) (sz:=2) (by have:=CI.out;omega);rw[BL]at U qE;have aK:=cJ w C;have aJ:=mj w C;rw[U]at aK;rw[qE]at aJ;have D0:=AO (av);have D1:=AO ar;have D2:=AO Jw;have D3:=AO ab;have D4:=AO EA;have D6:=AO (show Below w w w2 from ⟨DN.os,DN.tape,DN.output,DN.size,DN.block⟩);have c5:∀j v,(Cw M)[j]?=AE v->w2.cell? (ad.add j)=AE v:=λj v hj=>by
  rw[D6.out.cell (by rw[aF.out];exact z7)];exact C5.out j v hj
 have aG:=AO c5;have c2:∀k v,(Cw (l.drop j))[k]?=AE v->w2.cell? (((g,j*2):Addr).add k)=AE v:=λj v hj=>by
  rw[D6.out.cell (by rw[Bl];exact aD)];exact C2.out j v hj
 have aI:=AO c2;clear av ar Jw ab EA DN c5 c2 U qE cJ mj zJ;go_wp2_with (with_reducible refine EO 72 ?_)
 unfold Hid;refine Eb rfl _ _ 101 101 rfl 100 Ad Gy a6 (w,i*2) (AE ad) (H-i) (C-i) m d rfl rfl w (i*2) _ 100 D4.out (Cw M) C4.out (λ_=>⟨rfl,_,rfl,aG.out⟩) (C6.out C c0 D0.out D2.out).1 EJ ?_;intro w3 FK MW;have c2:∀k v,(Cw (l.drop j))[k]?=AE v->w3.drew.cell? (((g,j*2):Addr).add k)=AE v:=λk v O=>by
  have h5:=aI.out k v O;rw[Bl]at h5⊢;exact(World.cell?_of_block (MW.out.block g (by have:=D6.out.size;omega) a5)).trans h5
 have aX:=AO c2;clear c2;go_wp2
 go_region_law (refine GO rfl _ _ 101 101 rfl 100 Ad Gy a6 (w.heap.size,I*2) (g,j*2) (H-I) (C-I) r (cap-j) (by simp[Act.eval,Act.put]) (by simp[Act.eval,Act.put]) w.heap.size (I*2) _ 100 FK.out (Cw (l.drop j)) C1.out (λ_=>⟨rfl,_,rfl,aX.out⟩) (C6.out C c0 D0.out D2.out).2 EJ ?_;intro w4 JU Qy)
 go_wp2
 go_ret
 have own:=C7.out C c0 D0.out D1.out D2.out D3.out _ _ JU.out;exact own.got ((DG.DB D6.out _).trans ((MW.out.drew).trans Qy.out λb hb=>.inl hb) λb hb=>.inr a5) (.inr ao)
theorem EP(w:World){v u}{n m i j}{l M}(h:w.ownsRow 0 100 2 v n (Cw l))(H:w.ownsRow 0 100 2 u m (Cw M))(J:∀k,v.ownBlock=AE k->u.ownBlock≠AE k)(Il:i<=j)(hj:j<=n)(hm:i=j->0<m)(O:n+m<=4000000):
  Calls AP 107 #[v,i,j,u] w (JD w v (l.take i++M++l.drop j)):=by
 by_cases e:i=j
 ·subst e;exact VG w h H J hj (hm rfl) O
 have hl:l.length=n:=by obtain⟨_,_,_,_,_,I⟩:=DI h;exact I
 rcases JJ h with⟨_,h0,_⟩|⟨g,cap,cur,rfl,I⟩
 ·omega
 obtain⟨B,d,rfl,U,xJ,Qv⟩:=DI H;by_cases e2:j=n
 ·subst e2;rw[List.drop_of_length_le a5,AZ];rcases Am cap (i+m)with h3|h3
  ·exact Pb w I H a5 h3 O
  ·exact Pa w I H a5 h3
 ·rcases Am cap (i+m+(n-j))with h3|h3
  ·exact VH w I H a5 a5 h3 O
  ·rcases Am j (i+m)with h4|h4
   ·rcases JJ H with⟨_,h0,_⟩|⟨gv,cv,aY,Q,h2⟩
    ·omega
    ·injection Q with Q e4 e5
     subst Q e5;exact VF w I h2 (λe=>J g rfl (by rw[e];rfl)) a5 a5 h4 h3 O
   ·exact Wy w I H a5 a5 h4 O
def J7(s:Sp)(v:Value):List Value:=[s.first,s.blocks,v]
def JY(w:World)(G:Nat->Prop)(p:Nat)(s:Sp):Prop:=
 s.ok/\∃v,Row w p 103 (J7 s v)/\w.ownsRow 0 100 2 v s.fr.length (Cw s.fr)/\∀k,G k↔k=p\/v.ownBlock=AE k
theorem XG{w v n l}(h:w.ownsRow 0 100 2 v n (Cw l)){k}(e:v.ownBlock=AE k):∃cs,Row w k 100 cs:=by
 rcases JJ h with⟨rfl,_⟩|⟨g,cap,cur,rfl,H⟩
 ·cases e
 ·injection e with e;subst e;exact⟨_,H.row⟩
theorem R1{w w' F v n l}(h:w.ownsRow 0 100 2 v n (Cw l))(hf:DG F w w')(H:∀k,v.ownBlock=AE k->¬F k):w'.ownsRow 0 100 2 v n (Cw l):=by
 obtain⟨J,e⟩:=h;refine⟨J,?_⟩;rcases e with e|⟨g,cap,cur,rfl,I,hh,r⟩
 ·exact .inl e
 ·exact .inr ⟨g,cap,cur,rfl,I,hf.row (g:=g) (cs:=cur.toList) (by unfold Row;simpa using hh) (H g rfl),r⟩
theorem Dw{w w':World}{v n l}(h:w.ownsRow 0 100 2 v n (Cw l))(hb:Below w w w'):w'.ownsRow 0 100 2 v n (Cw l):=
 R1 h (DG.DB hb λ_=>False) λ_ _ hf=>hf
theorem IK{w:World}{A n c l}(h:w.ownsRow 0 100 2 (AJ A n c) n (Cw l)){i}(hi:i<n):
  ∃g,A=AE ⟨g,0,AD⟩/\g<w.heap.size/\w.cell? ⟨g,i*2,AD⟩=AE (AA AB (DZ l i).1)/\w.cell? ⟨g,i*2+1,AD⟩=AE (AA AB (DZ l i).2):=by
 rcases JJ h with⟨_,h0,_⟩|⟨g,cap,cur,e,h1⟩
 ·omega
 ·injection e with H J I
  exact⟨g,H,h1.row.lt,(h1.at_ hi).1,(h1.at_ hi).2⟩
section
variable{w w':World}{G:Nat->Prop}{p:Nat}{s:Sp}
theorem JY.lt(h:JY w G p s){k}(e:G k):k<w:=by
 obtain⟨_,v,H,I,J⟩:=h;rcases(J k).1 e with rfl|e
 ·exact H.lt
 ·exact(I.lt k e).2
theorem JY.Ey{F}(h:JY w G p s)(hf:DG F w w')(H:∀k,G k->¬F k):JY w' G p s:=by
 obtain⟨Q,v,I,J,e⟩:=h;exact⟨Q,v,hf.row I (H p ((e p).2 (.inl rfl))),R1 J hf λk O=>H k ((e k).2 (.inr O)),e⟩
theorem JY.below(h:JY w G p s)(hb:Below w w w'):JY w' G p s:=h.Ey (DG.DB hb λ_=>False) λ_ _ hf=>hf
end
theorem Io(f n:Nat)(w:World)(h:f+n<=4000000):Calls AP 81 #[AL #[f,n]] w λe w'=>e=AH ((f+n:Nat):Int)/\Below w w w':=by
 obtain⟨u,hu⟩:=al (f+n);rw[hu];have I:(f:Int)+(n:Int)=(u:Int):=a5;have hw:Aa.wrap (u:Int)=(u:Int):=Ah _ a5;have H:=AO ((AS w w).alloc ao (AK #[f,n] 100));go_enter func81,ntmps81
 go_wp2
 go_ret
 exact⟨rfl,H.out⟩
theorem UK(a b:Nat)(f n:Int)(w:World)(h:a+b<=4000000)(hf:Fg f):Calls AP 79 #[AL #[a,b],f,n] w λe w'=>e=AH (.bool (decide ((a:Int)<=f)&&decide (n<=((a+b:Nat):Int)-f)))/\Below w w w':=by
 have bf:=hf.bounds;have J:=AO ((AS w w).alloc ao (AK #[a,b] 100));by_cases H:(a:Int)<=f
 ·have I:decide ((a:Int)<=f)=true:=by simpa using H
  have O:decide (f≥(a:Int))=true:=by simpa using H
  have he:=Io a b (w.alloc (AK #[a,b] 100)) h;obtain⟨u,hu⟩:=al (a+b);rw[hu]at he⊢;have hw:Aa.wrap ((u:Int)-f)=(u:Int)-f:=Ah _ a5;have Q:=AO he;rw[I];clear he H;go_enter func79,ntmps79
  go_wp2_with fail
  refine Q.out.mono ?_;rintro e w2 ⟨rfl,hb⟩;have U:=AO (J.out.trans (hb.mono a8));clear hb;go_wp2
  go_ret
  exact⟨a8,U.out⟩
 ·have I:decide ((a:Int)<=f)=false:=by simpa using H
  have O:decide (f≥(a:Int))=false:=by simpa using H
  rw[I];clear H;go_enter func79,ntmps79
  go_wp2
  go_ret
  exact⟨a8,J.out⟩
def Hi(f n:Nat):Sp:=⟨f,n,if n=0 then []else [(f,n)]⟩
theorem XN{f n}(hf:f<=1000000)(e:n<=1000000):(Hi f n).ok:=by
 refine⟨hf,e,?_⟩;unfold Hi;by_cases h:n=0
 ·simp[h,Canon]
 ·simp[h,Canon];omega
theorem eX(f n:Nat)(w:World)(hf:f<=1000000)(O:n<=1000000):Calls AP 26 #[f,n] w λe w'=>∃p G,e=AH (AI (AE ⟨p,0,AD⟩))/\JY w' G p (Hi f n)/\(∀k,G k->w.heap.size<=k)/\Below w.heap.size w w':=by
 have g1:decide ((f:Int)<0)=false:=a8;have g2:decide ((f:Int)>1000000)=false:=by simp;omega
 have g3:decide ((n:Int)<0)=false:=a8;have g4:decide ((n:Int)>1000000)=false:=by simp;omega
 have Q:=AO (XN hf O);by_cases h:n=0
 ·subst h;have hb:=(AS w w).alloc ao (AK #[f,(),AJ AD 0 0] 103);have H:Row (w.alloc (AK #[f,(),AJ AD 0 0] 103)) w 103 (J7 (Hi f 0) (AJ AD 0 0)):=heap_alloc_new _ _;have I:Hid (∃p G,Bm (AI (AE ⟨w.heap.size,0,AD⟩))=Bm (AI (AE ⟨p,0,AD⟩))/\JY (w.alloc (AK #[AA AB f,AA AB 0,AJ AD 0 0] 103)) G p (Hi f 0)/\(∀k,G k->w.heap.size<=k)/\Below w.heap.size w (w.alloc (AK #[AA AB f,AA AB 0,AJ AD 0 0] 103))):=
   ⟨_,λk=>k=w.heap.size,rfl,⟨Q.out,_,H,World.ownsRow_nil _ _ _ _,λk=>⟨.inl,λh=>h.elim id λe=>by cases e⟩⟩,λk hk=>by omega,hb⟩
  clear hb H;go_enter func26,ntmps26
  go_wp2
  go_ret
  exact I.out
 ·have g5:decide ((n:Int)>0)=true:=by simp;omega
  have g6:decide (0<n)=true:=by simp;omega
  have J:∀W,W=(w.alloc (AK #[AA AB f,AA AB n,AJ (AE ⟨w.heap.size+1,0,AD⟩) 1 1] 103)).alloc (AK #[AA AB f,AA AB n] 100)->
    (∃p G,Bm (AI (AE ⟨w.heap.size,0,AD⟩))=Bm (AI (AE ⟨p,0,AD⟩))/\JY W G p (Hi f n)/\(∀k,G k->w.heap.size<=k)/\Below w.heap.size w W):=by
   rintro W rfl;have hb:=((AS w.heap.size w).alloc ao (AK #[AA AB f,AA AB n,AJ (AE ⟨w.heap.size+1,0,AD⟩) 1 1] 103)).alloc a8 (AK #[AA AB f,AA AB n] 100);have EU:Row (w.alloc (AK #[AA AB f,AA AB n,AJ (AE ⟨w.heap.size+1,0,AD⟩) 1 1] 103)) w.heap.size 103 [AA AB f,AA AB n,AJ (AE ⟨w.heap.size+1,0,AD⟩) 1 1]:=heap_alloc_new _ _;have H:=EU.alloc (AK #[f,n] 100);have he:Row ((w.alloc (AK #[AA AB f,AA AB n,AJ (AE ⟨w.heap.size+1,0,AD⟩) 1 1] 103)).alloc (AK #[AA AB f,AA AB n] 100)) (w.heap.size+1) 100 [AA AB f,AA AB n]:=by
    have:=heap_alloc_new (w.alloc (AK #[AA AB f,AA AB n,AJ (AE ⟨w.heap.size+1,0,AD⟩) 1 1] 103)) (AK #[AA AB f,AA AB n] 100);rw[World.size_alloc]at this;exact this
   have U:(Hi f n).fr=[(f,n)]:=by unfold Hi;simp[h]
   refine⟨_,λk=>k=w.heap.size\/k=w.heap.size+1,rfl,⟨Q.out,AJ (AE ⟨w.heap.size+1,0,AD⟩) 1 1,H,?_,λk=>?_⟩,λk hk=>by omega,hb⟩
   ·rw[U];exact(Fi.own (cap:=1) ⟨he,rfl,AQ _,a5,rfl,rfl⟩)
   ·simp only[Bp];constructor
    ·rintro(h|h)
     ·exact .inl h
     ·exact .inr (by rw[h])
    ·rintro(h|h)
     ·exact .inl h
     ·injection h with h;exact .inr h.symm
  have I:=AO J;clear J h hf O;go_enter func26,ntmps26
  go_wp2
  go_ret
  exact I.out _ rfl
theorem eK{l k}(e:k<l.length):ED (l.take (k+1))=ED (l.take k)+(DZ l k).2:=by
 rw[Bi,AU e,Gp e,Ds];simp[ED]
theorem rY{l}(k:Nat):ED (l.take k)<=ED l:=by
 conv=>rhs;rw[<-BS k l,Ds]
 omega
theorem n8(p:Nat)(s:Sp)(G:Nat->Prop)(w:World)(h:JY w G p s):Calls AP 43 #[AI p] w λe w'=>e=AH (ED s.fr:Nat)/\Below w w w':=by
 obtain⟨J,v,hr,ho,hG⟩:=h;obtain⟨A,c,rfl,ad,Fu,_⟩:=DI ho;have c2:w.cell? (p,2)=AE (AJ A s.fr.length c):=hr.cell 2;have Hl:=hr.lt;obtain⟨n,I⟩:=al s.fr.length;have hlen:=J.len;have SH:ED s.fr<=4000000:=by have:=J.2.2.sum;have:=J.2.1;omega
 generalize hl:s.fr=l at*
 have HN:=AO I;rw[I]at c2 hlen;have HO:Hid (w.ownsRow 0 100 2 (AJ A n c) n (Cw l)):=by rw[<-I];exact ho
 have HS:=AO SH;have ab:Hid (ED (l.take n)=ED l):=by unfold Hid;rw[Ao a5]
 clear J hr ho hG I SH;go_enter func43,ntmps43
 go_wp2
 go_loopw [3,13] (λsv Q wr=>∃k:Nat,k<=n/\Q=AA AB k/\sv=AA AB (ED (l.take k):Nat)/\Below w.heap.size w wr) (λ_ Q _=>n-(BF Q).toNat)
 case atStart=>exact⟨0,a5,rfl,rfl,AS _ _⟩
 case round=>
  obtain⟨k,hk,rfl,rfl,O⟩:=hrel;have Jb:=AO O;by_cases aa:k<n
  ·obtain⟨g,rfl,hg,Jw,Li⟩:=IK (Dw HO.out O) aa;obtain⟨a,ha⟩:=al ((DZ l k).1);obtain⟨b,hb⟩:=al ((DZ l k).2);have H:=eK (l:=l) (k:=k) (by have:=HN.out;omega);have hle:=rY (l:=l) (k+1);rw[ha]at Jw;rw[hb]at Li H;obtain⟨t,U⟩:=al (ED (l.take k));obtain⟨u,hu⟩:=al (ED (l.take (k+1)));rw[U];rw[U,hu]at H;rw[hu]at hle;have Ku:(t:Int)+(b:Int)=(u:Int):=a5;have Nv:Aa.wrap (u:Int)=(u:Int):=Ah _ (by have:=HS.out;omega);have HU:=AO hu;clear H hle ha hb U hu O;go_wp2
   have E1:=AO (Jb.out.alloc (by have:=Jb.out.size;omega) (AK #[a,b] 100));go_roundw
   case rel=>exact⟨k+1,a5,by go_num,by rw[HU.out],E1.out⟩
   case measure=>simp[BF];omega
  ·obtain rfl:k=n:=a5;rw[ab.out];clear O;go_wp2
   go_ret
   exact⟨rfl,Jb.out⟩
theorem iT{v n l}(w:World)(h:w.ownsRow 0 100 2 v n (Cw l))(hn:n<=4000000):Calls AP 152 #[v] w λe w'=>∃v',e=AH v'/\w'.ownsRow w 100 2 v' n (Cw l)/\Below w w w':=by
 rcases JJ h with⟨rfl,rfl,rfl⟩|⟨g,cap,cur,rfl,h1⟩
 ·have heq:=Lib.run_eql_slice_nil (P:=AP) w 101 100 AD 0 0 0 0 Ad;clear h;go_enter func152,ntmps152
  go_wp2
  go_ret
  exact⟨_,rfl,World.ownsRow_nil _ _ _ _,AS _ _⟩
 ·obtain⟨i0,U,Ft,hz,VY⟩:=Ff;have heq:=Lib.run_eql_slice_nil (P:=AP) w 101 100 g n cap 0 0 Ad;have Q:(Cw l).length=n*2:=by rw[DO,h1.len]
  have EY:∀j v,(Cw l)[j]?=AE v->(w.alloc (AK #[] 100)).cell? ((g:Addr).add j)=AE v:=λj v hj=>by
   rw[Bl,BL,(h1.row.alloc _).cell];have:=h1.src 0 j v (by simpa using hj);simpa using this
  have HS:=AO EY;have qZ:=AO Q;have Ym:=AO U;have J:=h1.max;clear h h1 EY Q U;go_enter func152,ntmps152
  go_wp2_with (with_reducible refine EO 7 ?_)
  unfold Hid;refine wpList_append_own_at _ rfl _ _ 101 rfl w 100 i0 _ 2 16 Ad Ym.out Ft hz VY rfl a6 _ 0 [] rfl (World.ownsRow_made w #[] 0 ao a6 rfl) g n cap (Cw l) rfl qZ.out HS.out EJ (by unfold maxLen;omega) a5 a8 ?_;intro v' w' H O _ _;rw[BL,BI]at H;have HO:=AO H;have HB:Hid (Below w w w'):=((AS w w).alloc ao (AK #[] 100)).grown O a8 λk I=>by injection I with I;subst I;exact AQ _
  obtain⟨A',c',rfl⟩:∃A' c',v'=AJ A' n c':=by
   rcases H.2 with⟨rfl,rfl⟩|⟨g',Q6,Sw,rfl,_⟩
   ·exact⟨_,_,rfl⟩
   ·exact⟨_,_,rfl⟩
  clear H O;go_wp2
  go_ret
  exact⟨_,rfl,HO.out,HB.out⟩
theorem X6(p:Nat)(s:Sp)(G:Nat->Prop)(w:World)(h:JY w G p s):Calls AP 145 #[AI p] w λe w'=>∃v',e=AH v'/\w'.ownsRow w 100 2 v' s.fr.length (Cw s.fr)/\Below w w w':=by
 obtain⟨J,v,I,H,Q⟩:=h;have c2:w.cell? (p,2)=AE v:=I.cell 2;have hlen:=J.len;have O:=iT w H a5;have HC:=AO O;obtain⟨A,c,rfl,_,_,_⟩:=DI H;generalize s.fr.length=n at*
 clear J I H Q O;go_enter func145,ntmps145
 go_wp2_with fail
 refine HC.out.mono ?_;rintro e w2 ⟨v',rfl,H,hb⟩;have U:=AO H;have HB:=AO hb;obtain⟨A',c',rfl⟩:∃A' c',v'=AJ A' n c':=by
  rcases H.2 with⟨rfl,rfl⟩|⟨g',Q6,Sw,rfl,_⟩
  ·exact⟨_,_,rfl⟩
  ·exact⟨_,_,rfl⟩
 clear H hb;go_wp2
 go_ret
 exact⟨_,rfl,U.out,HB.out⟩
theorem fT(b1 b2 p n c i:Nat)(A:Option Addr)(l:List Ex)(at_:Int)(W:World)(O:W.cell? b1=AE (AI p))(J:W.cell? b2=AE (AA AB at_))(h3:W.cell? (p,2)=AE (AJ A n c))
  (I:W.ownsRow 0 100 2 (AJ A n c) n (Cw l))(hi:i<n)(H:(DZ l i).1+(DZ l i).2<=4000000):
  Calls AP 106 #[i,AI b1,AI b2] W λe w'=>e=AH (.bool (decide (at_<((DZ l i).1+(DZ l i).2:Nat))))/\Below W W w':=by
 obtain⟨g,rfl,hg,Jw,Li⟩:=IK I hi;generalize(DZ l i).1=a at*
 generalize(DZ l i).2=b at*
 have l1:=Ci O;have l2:=Ci J;have l3:=Ci h3;obtain⟨u,hu⟩:=al (a+b);have Q:Hid (∀w,Calls AP 81 #[AL #[a,b]] w λe w'=>e=AH u/\Below w w w'):=λw=>by have:=Io a b w H;rwa [hu]at this
 rw[hu];have i0:(0:Int)<=(i:Int):=a5;have i1:(i:Int)<(n:Int):=a5;clear hu H I;go_enter func106,ntmps106
 go_wp2
 go_region_held3 (λw'=>w'.cell? b1=AE (AI p)/\w'.cell? b2=AE (AA AB at_)/\w'.cell? (p,2)=AE (AJ g n c)/\w'.cell? (g,i*2)=AE (AA AB a)/\w'.cell? (g,i*2+1)=AE (AA AB b))
  (first|go_keep|(go_split_ands;refine⟨?_,?_,?_,?_,?_⟩<;>(first|assumption|(rw[D9.cell (by first|(simp;done)|(simp;omega))];assumption)))) ((go_at_call 81;refine(Q.out _).mono ?_;rintro e w2 ⟨rfl,D9⟩))
 have U:Hid (Below W W w2):=(Cy (AS W W) 1).trans D9;clear D9;go_wp2
 go_ret
 refine⟨?_,U.out⟩
 first|rfl|(simp only[gt_iff_lt])
theorem dx(b1:Nat)(a b:Nat)(n:Int)(W:World)(H:W.cell? b1=AE (AA AB n)):
  Calls AP 99 #[AL #[a,b],AI b1] W λe w'=>e=AH (.bool (decide (n<=(b:Int))))/\Below W W w':=by
 have l1:=Ci H;have J:(W.alloc (AK #[a,b] 100)).cell? b1=AE (AA AB n):=Lib.cell?_alloc_some _ H;have I:=AO ((AS W W).alloc ao (AK #[a,b] 100));go_enter func99,ntmps99
 go_wp2
 go_ret
 refine⟨?_,I.out⟩
 first|rfl|(simp only[ge_iff_le])
theorem ZM(n:Nat)(q:Nat->Bool)(fs:Array Value)(w:World)(hn:n<=2000000)(Xl:∀i j,i<=j->j<n->q i=true->q j=true)
  (hp:∀W k,k<n->Below w.heap.size w W->Calls AP 106 (#[AA AB (k:Nat)]++fs) W λe w'=>e=AH (.bool (q k))/\Below w.heap.size w w'):
  Calls AP 105 #[n,.func (.func 106) #[] fs] w λe w'=>∃i:Nat,e=AH i/\i<=n/\(∀k,k<i->q k=false)/\(i<n->q i=true)/\Below w w w':=by
 have HP:=AO hp;have HM:=AO Xl;clear hp Xl;go_enter func105,ntmps105
 go_wp2
 go_loopw [5,6] (λJ jv wr=>∃i j:Nat,i<=j/\j<=n/\J=AA AB i/\jv=AA AB j/\Below w.heap.size w wr/\Hid (∀k,k<i->q k=false)/\Hid (j<n->q j=true)) (λJ jv _=>(BF jv).toNat-(BF J).toNat)
 case atStart=>exact⟨0,n,a5,AQ _,rfl,rfl,AS _ _,λk I=>absurd I a5,λh=>absurd h a5⟩
 case round=>
  obtain⟨i,j,Il,U,rfl,rfl,O,Q,HJ⟩:=hrel;have Jb:=AO O;by_cases aa:i<j
  ·obtain⟨H,SH⟩:∃H:Nat,H=i+j:=⟨_,rfl⟩;obtain⟨h,hh⟩:∃h:Nat,h=H/2:=⟨_,rfl⟩;have Qw:i<=h:=a5;have ab:h<j:=a5;have Ku:(i:Int)+(j:Int)=(H:Int):=a5;have Nv:Aa.wrap (H:Int)=(H:Int):=Ah _ a5;have hdiv:(H:Int)/2=(h:Int):=a5;clear O SH hh;go_wp2_with fail
   refine(HP.out wr h a5 Jb.out).mono ?_;rintro e w2 ⟨rfl,DN⟩;have E1:=AO DN;clear DN
   cases hq:q h with
   |true=>
    have HQ:Hid (∀k,k<h->k<i->q k=false):=λk _ I=>Q.out k I;have qV:Hid (h<n->q h=true):=λ_=>hq;clear hq;go_wp2
    go_roundw
    case rel=>exact⟨i,h,Qw,a5,rfl,rfl,E1.out,Q.out,qV.out⟩
    case measure=>simp[BF];omega
   |false=>
    have HQ:Hid (∀k,k<h+1->q k=false):=λk I=>by
     rcases Am k h with h1|h1
     ·cases JV:q k with
      |false=>rfl
      |true=>have:=HM.out k h a5 a5 JV;rw[hq]at this;cases this
     ·obtain rfl:k=h:=a5;exact hq
    clear hq;go_wp2
    go_roundw
    case rel=>exact⟨h+1,j,a5,U,by go_num,rfl,E1.out,HQ.out,HJ.out⟩
    case measure=>simp[BF];omega
  ·obtain rfl:i=j:=a5;clear O;go_wp2
   go_ret
   exact⟨i,rfl,U,Q.out,HJ.out,Jb.out⟩
def Gj(l:List Ex)(a:Int):Nat:=l.findIdx λx=>decide (a<((x.1+x.2:Nat):Int))
theorem UF(l:List Ex)(a:Nat):Gj l (a:Int)=EH l a:=by
 unfold Gj EH
 congr 1;funext x
 rw[Bool.eq_iff_iff];simp only[decide_eq_true_eq];omega
theorem Rl(p:Nat)(s:Sp)(G:Nat->Prop)(a:Int)(w:World)(h:JY w G p s):Calls AP 80 #[AI p,a] w λe w'=>e=AH (Gj s.fr a:Nat)/\Below w w w':=by
 obtain⟨O,v,hr,ho,hG⟩:=h;obtain⟨A,c,rfl,aa,Fu,_⟩:=DI ho;have hlen:=O.len;have H:=O.2.2;have Qw:s.first+s.blocks<=4000000:=by have:=O.1;have:=O.2.1;omega
 generalize s.first+s.blocks=hi at*
 generalize s.first=lo at*
 generalize hl:s.fr=l at*
 obtain⟨n,hn⟩:=al l.length;rw[hn]at ho hlen aa;have hB:=((AS w w).alloc ao (AK #[AI p] 62)).alloc a8 (AK #[a] 3);have U:((w.alloc (AK #[AI p] 62)).alloc (AK #[a] 3)).cell? w=AE (AI p):=by
  have J:Row (w.alloc (AK #[AI p] 62)) w 62 [AI p]:=heap_alloc_new _ _;exact(J.alloc _).cell 0
 have k2:((w.alloc (AK #[AI (AE ⟨p,0,AD⟩)] 62)).alloc (AK #[AA AB a] 3)).cell? ⟨w.heap.size+1,0,AD⟩=AE (AA AB a):=by
  have J:Row ((w.alloc (AK #[AI p] 62)).alloc (AK #[a] 3)) (w+1) 3 [a]:=by
   have:=heap_alloc_new (w.alloc (AK #[AI p] 62)) (AK #[a] 3);rw[World.size_alloc]at this;exact this
  exact J.cell 0
 have k3:((w.alloc (AK #[AI p] 62)).alloc (AK #[a] 3)).cell? (p,2)=AE (AJ A n c):=((hr.alloc _).alloc _).cell 2|>.trans (by rw[<-hn,<-hl];rfl);have k4:=Dw ho hB;generalize hW:(w.alloc (AK #[AI p] 62)).alloc (AK #[a] 3)=W at*
 have hq:∀W' k,k<n->Below W.heap.size W W'->Calls AP 106 (#[AA AB (k:Nat)]++#[AI (AE ⟨w.heap.size,0,AD⟩),AI (AE ⟨w.heap.size+1,0,AD⟩)]) W' λe w'=>e=AH (.bool (decide (a<((DZ l k).1+(DZ l k).2:Nat))))/\Below W.heap.size W w':=λW' k hk hb=>by
  refine(fT w.heap.size (w.heap.size+1) p n c k A l a W' ?_ ?_ ?_ (Dw k4 hb) hk ?_).mono λe w' h=>⟨h.1,hb.trans (h.2.mono hb.size)⟩
  ·exact(hb.cell (Ci U)).trans U
  ·exact(hb.cell (Ci k2)).trans k2
  ·exact(hb.cell (Ci k3)).trans k3
  ·have:=H.getD (show k<l.length by omega);omega
 have Q:=ZM n (λk=>decide (a<((DZ l k).1+(DZ l k).2:Nat))) #[AI (AE ⟨w.heap.size,0,AD⟩),AI (AE ⟨w.heap.size+1,0,AD⟩)] W a5 (λi j Il hj cS=>by
   simp only[decide_eq_true_eq]at cS⊢;rcases Am i j with J|J
   ·have:=H.ends J a5;omega
   ·obtain rfl:i=j:=a5;exact cS) hq
 have I:Calls AP 105 #[n,.func (.func 106) #[] #[AI w.heap.size,AI (w.heap.size+1,0)]] W λe w'=>e=AH (Gj l a:Nat)/\Below w.heap.size w w':=Q.mono λe w' h=>by
  obtain⟨i,rfl,J,h2,h3,h4⟩:=h;have:Gj l a=i:=IQ a5 h2 (λh=>h3 a5);rw[this];exact⟨rfl,hB.trans (h4.mono hB.size)⟩
 have HR:=AO I;have K1:=AO U;generalize Gj l a=z at*
 subst hW;clear I Q hq H O hr ho k4 hB hn U hl hG;go_enter func80,ntmps80
 go_wp2_with fail
 refine HR.out.mono ?_;rintro e w2 ⟨rfl,hb⟩;have HB:=AO hb;clear hb;go_wp2
 go_ret
 exact⟨rfl,HB.out⟩
theorem Zt(b1:Nat)(m:Int)(A:Option Addr)(n c:Nat)(l:List Ex)(w:World)(H:w.cell? b1=AE (AA AB m))(ho:w.ownsRow 0 100 2 (AJ A n c) n (Cw l))(hl:l.length=n)(hn:n<=2000000):
  Calls AP 98 #[AJ A n c,.func (.func 99) #[] #[AI b1]] w λe w'=>
   (∃i:Nat,i<n/\(∀k,k<i->decide (m<=((DZ l k).2:Int))=false)/\decide (m<=((DZ l i).2:Int))=true/\e=AH i/\Below w w w')\/((∀k,k<n->decide (m<=((DZ l k).2:Int))=false)/\e=AH (AA AB (-1))/\Below w w w'):=by
 have HO:=AO ho;have H1:=AO H;have DV:=Ci H;clear ho H;go_enter func98,ntmps98
 go_wp2
 go_loopw [5,8] (λ_ iv wr=>∃k:Nat,k<=n/\iv=AA AB k/\Below w.heap.size w wr/\Hid (∀j,j<k->decide (m<=((DZ l j).2:Int))=false)) (λ_ iv _=>n-(BF iv).toNat)
 case atStart=>exact⟨0,a5,rfl,AS _ _,λj hj=>absurd hj a5⟩
 case round=>
  obtain⟨k,hk,rfl,J,HK⟩:=hrel;have Q:=AO J;by_cases O:k<n
  ·obtain⟨g,rfl,hg,Jw,Li⟩:=IK (Dw HO.out J) O;have I:=dx b1 (DZ l k).1 (DZ l k).2 m wr ((J.cell DV).trans H1.out);have HX:Hid (DZ l k=((DZ l k).1,(DZ l k).2)):=rfl;generalize(DZ l k).1=a at*
   cases hq:decide (m<=((DZ l k).2:Int))with
   |true=>
    rw[hq]at I;have U:=AO I;have HQ:=AO hq;generalize(DZ l k).2=b at Li U;clear J I hq;go_wp2_with fail
    refine U.out.mono ?_;rintro e w2 ⟨rfl,DN⟩;have E1:=AO (Q.out.trans (DN.mono Q.out.size));clear DN;go_wp2
    go_ret
    exact .inl ⟨k,O,HK.out,HQ.out,rfl,E1.out⟩
   |false=>
    rw[hq]at I;have U:=AO I;have HQ:Hid (∀j,j<k+1->decide (m<=((DZ l j).2:Int))=false):=λj hj=>by
     rcases Am j k with H|H
     ·exact HK.out j H
     ·obtain rfl:j=k:=a5;exact hq
    generalize(DZ l k).2=b at Li U;clear J I hq;go_wp2_with fail
    refine U.out.mono ?_;rintro e w2 ⟨rfl,DN⟩;have E1:=AO (Q.out.trans (DN.mono Q.out.size));clear DN;go_wp2
    go_roundw
    case rel=>exact⟨k+1,a5,by go_num,E1.out,HQ.out⟩
    case measure=>simp[BF];omega
  ·obtain rfl:k=n:=a5;clear J;go_wp2
   go_ret
   exact .inr ⟨HK.out,rfl,Q.out⟩
theorem Ie{w:World}{B B' v n xs}(h:w.ownsRow B 100 2 v n xs)(hb:B'<=B):w.ownsRow B' 100 2 v n xs:=by
 obtain⟨H,e⟩:=h;refine⟨H,?_⟩;rcases e with e|⟨g,cap,cur,rfl,I,r⟩
 ·exact .inl e
 ·exact .inr ⟨g,cap,cur,rfl,a5,r⟩
def xj(w:World)(G:Nat->Prop)(p:Nat)(s:Sp)(v:Value):Prop:=
 s.ok/\Row w p 103 (J7 s v)/\w.ownsRow 0 100 2 v s.fr.length (Cw s.fr)/\∀k,G k↔k=p\/v.ownBlock=AE k
theorem xj.apart{w G p s v}(h:xj w G p s v):v.ownBlock≠AE p:=by
 intro e;obtain⟨cs,H⟩:=XG h.2.2.1 e;have I:=h.2.1;unfold Row at I H;rw[I]at H;injection H with H;injection H with _ H;exact absurd H a6
theorem Ek{w w5 w6 G p s v R e}(h:xj w G p s v)(hb:Below w w w5)(H:JD w5 v R e w6):Row w6 p 103 (J7 s v):=by
 obtain⟨v',_,_,hf,_⟩:=H;exact hf.row (h.2.1.below hb h.2.1.lt) h.apart
theorem Gc{w w5 J G p s v v' R}(h:xj w G p s v)(hb:Below w w w5)(hg:JD w5 v R (AH v') J)(DK:({s with fr:=R}:Sp).ok):
  ∃G',JY (J.setCell (p,2) v') G' p {s with fr:=R}/\DG G w (J.setCell (p,2) v')/\∀k,G' k->G k\/w<=k:=by
 have U:=Ek h hb hg;obtain⟨v2,e,ho,hf,hk⟩:=hg;injection e with e;subst e
 have O:v'.ownBlock≠AE p:=by
  intro e;obtain⟨cs,I⟩:=XG ho e;unfold Row at U I;rw[U]at I;injection I with I;injection I with _ I;exact absurd I a6
 have Km:DG (λk=>k=p) J (J.setCell (p,2) v'):=(DG.refl (λk=>k=p) J).set (p:=(p,2)) (.inl rfl) v';refine⟨λk=>k=p\/v'.ownBlock=AE k,⟨DK,v',U.set 2 v',R1 ho Km λk H e=>O (by rw[H,e]),λk=>BN⟩,?_,λk H=>?_⟩
 ·refine((DG.DB hb G).trans hf λk H=>.inl ((h.2.2.2 k).2 (.inr H))).trans Km λk H=>.inl ((h.2.2.2 k).2 (.inl H))
 ·rcases H with rfl|H
  ·exact .inl ((h.2.2.2 k).2 (.inl rfl))
  ·rcases hk k H with Q|Q
   ·exact .inl ((h.2.2.2 k).2 (.inr Q))
   ·exact .inr (Af hb.size Q)
theorem um{w w':World}{x y a b}(h:Below (w+2) ((w.alloc (AK #[x,y] 100)).alloc (AK #[a,b] 100)) w'):
  w'.cell? w.heap.size=AE x/\w'.cell? (w.heap.size,1)=AE y/\w'.cell? (w.heap.size+1,0)=AE a/\w'.cell? (w.heap.size+1,1)=AE b:=by
 have J:Row (w.alloc (AK #[x,y] 100)) w 100 [x,y]:=heap_alloc_new _ _;have I:Row ((w.alloc (AK #[x,y] 100)).alloc (AK #[a,b] 100)) (w+1) 100 [a,b]:=by
  have:=heap_alloc_new (w.alloc (AK #[x,y] 100)) (AK #[a,b] 100);rw[World.size_alloc]at this;exact this
 have H:=(J.alloc (AK #[a,b] 100)).below h a5;have e:=I.below h a5;exact⟨H.cell 0,H.cell 1,e.cell 0,e.cell 1⟩
theorem lp{w:World}{t}{a b k:Nat}(H:w=k):∀j v,(Cw [(a,b)])[j]?=AE v->(w.alloc (AK #[a,b] t)).cell? ((k:Addr).add j)=AE v:=by
 subst H;intro j v I;have e:Row (w.alloc (AK #[a,b] t)) w t [a,b]:=heap_alloc_new _ _;rw[Bl,BL,e.cell];exact I
theorem Kh{w w':World}{B v n xs}(h:w.ownsRow B 100 2 v n xs)(hb:Below w w w'):w'.ownsRow B 100 2 v n xs:=by
 obtain⟨I,e⟩:=h;refine⟨I,?_⟩;rcases e with e|⟨g,cap,cur,rfl,H,hh,r⟩
 ·exact .inl e
 ·exact .inr ⟨g,cap,cur,rfl,H,(hb.block g (Array.getElem?_eq_some_iff.1 hh).1).trans hh,r⟩
section
variable{w w1 w2:World}{x y a b u:Value}{m:Nat}{l:List Value}
abbrev S6 (w:World) (x y a b u:Value) (m:Nat) (l:List Value) (w1:World):Prop:=
 Below (w.heap.size+2) ((w.alloc (AK #[x,y] 100)).alloc (AK #[a,b] 100)) w1/\w1.ownsRow (w.heap.size+2) 100 2 u m l/\w.heap.size+2<=w1.heap.size/\w1.cell? ⟨w.heap.size,0,AD⟩=AE x/\w1.cell? ⟨w.heap.size,1,AD⟩=AE y/\w1.cell? ⟨w.heap.size+1,0,AD⟩=AE a/\w1.cell? ⟨w.heap.size+1,1,AD⟩=AE b
theorem vr(h:Below (w.heap.size+2) ((w.alloc (AK #[x,y] 100)).alloc (AK #[a,b] 100)) w1)(O:w1.ownsRow (w.heap.size+2) 100 2 u m l)(J:w.heap.size+2<=w1.heap.size):S6 w x y a b u m l w1:=by
 obtain⟨I,H,e,k3⟩:=um h;exact⟨h,O,J,I,H,e,k3⟩
theorem QJ{w3 w4}(h:Below (w+2) ((w.alloc (AK #[x,y] 100)).alloc (AK #[a,b] 100)) w3)(hb:Below w3 w3 w4):
  Below w3.heap.size w3 w4/\w4.cell? w.heap.size=AE x/\w4.cell? (w.heap.size,1)=AE y/\w4.cell? (w.heap.size+1,0)=AE a/\w4.cell? (w.heap.size+1,1)=AE b:=by
 obtain⟨I,H,e,k3⟩:=um (h.trans (hb.mono (by have:=h.size;simp at this;omega)));exact⟨hb,I,H,e,k3⟩
theorem VA(h:Below (w.heap.size+2) ((w.alloc (AK #[x,y] 100)).alloc (AK #[a,b] 100)) w1)(H:w1.ownsRow (w.heap.size+2) 100 2 u m l)(e:w.heap.size+2<=w1.heap.size)(hb:Below w1.heap.size w1 w2):S6 w x y a b u m l w2:=
 vr (h.trans (hb.mono e)) (Kh H hb) (Af e hb.size)
theorem Wu(h:Below (w.heap.size+2) ((w.alloc (AK #[x,y] 100)).alloc (AK #[a,b] 100)) w1)(H:w1.ownsRow (w.heap.size+2) 100 2 u m l)(e:w.heap.size+2<=w1.heap.size)(o:Obj):S6 w x y a b u m l (w1.alloc o):=
 VA h H e ((AS _ _).alloc ao o)
theorem kj(h:Below (w.heap.size+2) ((w.alloc (AK #[x,y] 100)).alloc (AK #[a,b] 100)) w1)(J:w1.ownsRow (w.heap.size+2) 100 2 u m l)(H:w.heap.size+2<=w1.heap.size)(e:w2.ownsRow (w.heap.size+2) 100 2 u m l)(I:w1.grownBy w2 u.ownBlock):S6 w x y a b u m l w2:=
 vr (h.grown I H λk e=>(J.lt k e).1) e (Af H I.size)
end
theorem cn(p:Nat)(s:Sp)(G:Nat->Prop)(i f n':Nat)(w:World)(h:JY w G p s)(hi:i<s.fr.length)(h1:(DZ s.fr i).1<=f)(h2:f+n'<=(DZ s.fr i).1+(DZ s.fr i).2)(hn:1<=n'):
  Calls AP 83 #[AI p,i,AL #[f,n']] w λe w'=>∃G',e=AH (AM #[])/\JY w' G' p {s with fr:=LY s.fr i f n'}/\DG G w w'/\∀k,G' k->G k\/w<=k:=by
 obtain⟨DK,v,hr,ho,hG⟩:=h;obtain⟨i0,FM,Ft,hz,VY⟩:=Ff;obtain⟨A,c,rfl,aJ,Fu,_⟩:=DI ho;have KB:=YA DK.2.2 hi h1 h2 hn;have SZ:=DK.2.2.getD hi;have Qw:s.first+s.blocks<=4000000:=by have:=DK.1;have:=DK.2.1;omega
 have hlen:=DK.len;have c2:w.cell? (p,2)=AE (AJ A s.fr.length c):=hr.cell 2;have Hl:=hr.lt;obtain⟨g,rfl,O,Jw,Li⟩:=IK ho hi;obtain⟨A,hA⟩:∃A:Option Addr,A=AE g:=⟨_,rfl⟩;obtain⟨N,hN⟩:=ae s.fr.length;have H0:xj w G p s (AJ g N c):=by subst hN;exact⟨DK,hr,ho,hG⟩
 obtain⟨R,hR⟩:=ae (LY s.fr i f n');have aA:Hid (({s with fr:=LY s.fr i f n'}:Sp).ok):=⟨DK.1,DK.2.1,KB.1⟩;unfold LY at hR;rw[<-hN]at c2 hi hlen;obtain⟨a,ha⟩:=al ((DZ s.fr i).1);obtain⟨b,hb⟩:=al ((DZ s.fr i).2);have hx:DZ s.fr i=(a,b):=Prod.ext ha hb;rw[hx]at hR;rw[ha,hb]at h2 SZ;rw[ha]at h1 Jw;rw[hb]at Li;have hcut:LY s.fr i f n'=R:=by unfold LY;rw[hx,hR]
 rw[hcut]at aA⊢;have JB:=aA;have HA:=AO hA;subst hA;have H:=AO H0;have HN:Hid (i<N/\N<=1000000/\s.fr.length=N):=⟨hi,hlen,hN.symm⟩;have Ym:=AO FM;obtain⟨U,qC⟩:=al (f+n');obtain⟨u2,Ph⟩:=al (a+b);have YT:Hid (∀W,Calls AP 81 #[AL #[f,n']] W λe w'=>e=AH U/\Below W W w'):=λW=>by have:=Io f n' W a5;rwa [qC]at this
 have PI:Hid (∀W,Calls AP 81 #[AL #[a,b]] W λe w'=>e=AH u2/\Below W W w'):=λW=>by have:=Io a b W a5;rwa [Ph]at this
 have aX:U<=u2:=a5;have aY:u2<=4000000:=a5;have LI:f<=4000000:=a5;have aH:(0:Int)<=(i:Int):=a5;have aG:(i:Int)<(N:Int):=a5;have aK:Aa.wrap ((i:Int)+1)=(i:Int)+1:=Ah _ a5;have vK:=AO hR;have HU:=AO qC;have Tz:=AO Ph;clear KB SZ DK hr ho hG H0 hN ha hb hx hcut aA hR FM qC Ph Qw;by_cases hl:a<f
 ·obtain⟨q,hq⟩:=al (f-a);have aC:(f:Int)-(a:Int)=(q:Int):=a5;have aI:Aa.wrap (q:Int)=(q:Int):=Ah _ a5;have gl:decide ((a:Int)<(f:Int))=true:=by simp;omega
  have aD:decide (a<f)=true:=by simp;omega
  have HQ:=AO hq;have HL:Hid (a<f):=hl;clear hq;go_enter func83,ntmps83
  go_wp2_with (with_reducible refine EO 30 ?_)
  unfold Hid;refine wpList_append_own_at _ rfl _ _ 101 rfl (w.heap.size+2) 100 i0 _ 2 16 Ad Ym.out Ft hz VY rfl a6 _ 0 [] rfl (World.ownsRow_nil _ _ _ _) ⟨w.heap.size+2,0,AD⟩ 1 1 (Cw [(a,q)]) rfl rfl (lp a8) EJ a6 a6 a8 ?_;intro v1 w3 zT Hz _ _;rw[BI]at zT;have Ei:Hid (Below (w+2) ((w.alloc (AK #[f,n'] 100)).alloc (AK #[a,b] 100)) w3):=((AS _ _).alloc a8 _).grown Hz a8 λk hk=>by cases hk
  have xq:=AO zT;obtain⟨B1,d1,rfl⟩:∃B1 d1,v1=AJ B1 1 d1:=by
   obtain⟨B1,d1,h1,_⟩:=DI (Ie zT (Aq _));exact⟨B1,d1,h1⟩
  clear zT Hz;go_wp2
  have Jy:Hid (Below w w w3):=(((AS w w).alloc ao _).alloc a8 _).trans (Ei.out.mono a5);by_cases mq:U<u2
  ·skip
   have gr:decide ((U:Int)<(u2:Int))=true:=by simp;omega
   have av:decide (U<u2)=true:=by simp;omega
   obtain⟨t,ht⟩:=al (u2-U);have aF:(u2:Int)-(U:Int)=(t:Int):=a5;have aB:Aa.wrap (t:Int)=(t:Int):=Ah _ a5;have HT:=AO ht;clear ht;have HR:Hid (s.fr.take i++([(a,q)]++[(U,t)])++s.fr.drop (i+1)=R):=by
    unfold Hid;rw[vK.out];unfold MK;dsimp only;rw[if_pos HL.out,if_pos (by rw[HU.out];have:=Tz.out;omega)];rw[HQ.out];rw[HU.out,Tz.out,HT.out]
   have TY:w.heap.size+2<=w3.heap.size:=by have:=Ei.out.size;simp at this;omega
   go_region_held3 (λw'=>Below w3.heap.size w3 w'/\w'.cell? w.heap.size=AE (AA AB f)/\w'.cell? (w.heap.size,1)=AE (AA AB n')/\w'.cell? (w.heap.size+1,0)=AE (AA AB a)/\w'.cell? (w.heap.size+1,1)=AE (AA AB b))
    (first
     |(exact QJ Ei.out (Cy (AS _ _) 1))
     |(exact QJ Ei.out I))
    ((go_split_ands;go_at_call 81;(first|(with_reducible refine(YT.out _).mono ?_)|(with_reducible refine(PI.out _).mono ?_));rintro e w4 ⟨rfl,D9⟩;have I:Below w3.heap.size w3 w4:=CM a9 (CO D9 (CN a9))))
   have TR:=AO I;clear I;have ab:w4.ownsRow (w+2) 100 2 (AJ B1 1 d1) 1 (Cw [(a,q)]):=Kh xq.out TR.out;have IX:Below (w+2) ((w.alloc (AK #[f,n'] 100)).alloc (AK #[a,b] 100)) w4:=Ei.out.trans (TR.out.mono TY);obtain⟨m0,m1,m2,m3⟩:=um IX;have Xc:w.heap.size+2<=w4.heap.size:=by have:=IX.size;simp at this;omega
   have Qi:=AO IX;have aw:=AO ab;clear IX ab;go_wp2
   go_region_held3 (λw'=>Below (w.heap.size+2) ((w.alloc (AK #[AA AB f,AA AB n'] 100)).alloc (AK #[AA AB a,AA AB b] 100)) w'/\w'.ownsRow (w.heap.size+2) 100 2 (AJ B1 1 d1) 1 (Cw [(a,q)])/\w.heap.size+2<=w'.heap.size/\w'.cell? ⟨w.heap.size,0,AD⟩=AE (AA AB f)/\w'.cell? ⟨w.heap.size,1,AD⟩=AE (AA AB n')/\w'.cell? ⟨w.heap.size+1,0,AD⟩=AE (AA AB a)/\w'.cell? ⟨w.heap.size+1,1,AD⟩=AE (AA AB b))
    (first
     |(exact⟨Cy Qi.out 1,aw.out,Xc,m0,m1,m2,m3⟩)
     |(exact I)
     |(go_split_ands;exact Wu a9 a9 a9 _)
     |(exact Sc))
    (first
     |(go_split_ands;go_at_call 81;(first|(with_reducible refine(YT.out _).mono ?_)|(with_reducible refine(PI.out _).mono ?_));rintro e Q ⟨rfl,D9⟩;have I:=VA a9 a9 a9 D9)
     |(go_split_ands;refine Ke rfl _ _ 101 rfl (w.heap.size+2) 100 i0 _ 2 16 Ad Ym.out Ft hz VY rfl a6 (AJ B1 1 d1) 1 (Cw [(a,q)]) (by first|rfl|simp) a9 _ 1 1 (Cw [(U,t)]) (by first|rfl|simp) rfl (lp (by first|rfl|simp)) EJ a6 a6 a9 ?_;intro v5 Q gK ad zf;have Sc:=kj a9 a9 a9 zf ad))
   generalize ar:1+1=m5 at gK;have aE:m5<=2:=a5;rw[<-Dj]at gK;obtain⟨B5,d5,rfl⟩:∃B5 d5,v5=AJ B5 m5 d5:=by
    obtain⟨B5,d5,h1,_⟩:=DI (Ie gK.out (Aq _));exact⟨B5,d5,h1⟩
   have aa:Hid (Q.ownsRow 0 100 2 (AJ B5 m5 d5) m5 (Cw ([(a,q)]++[(U,t)]))):=Ie gK.out (Aq _);have KV:Hid (∀k,(AJ B5 m5 d5).ownBlock=AE k->w<=k):=λk hk=>by have:=(gK.out.lt k hk).1;omega
   have EV:Hid (Below w w Q):=(((AS w w).alloc ao _).alloc a8 _).trans (Sc.1.mono a5);clear ar gK Sc ad zf I m0 m1 m2 m3 Xc;have SO:=Dw H.out.2.2.1 EV.out;have Nw:Row Q p 103 (J7 s (AJ g N c)):=H.out.2.1.below EV.out Hl;have EN:=EP Q (i:=i) (j:=i+1) SO aa.out (λk hk e=>by have h1:=(H.out.2.2.1.lt k hk).2;have h2:=KV.out k e;omega) a5 (by have:=HN.out;omega) a5 (by have:=HN.out;omega);have hR:s.fr.take i++([(a,q)]++[(U,t)])++s.fr.drop (i+1)=R:=HR.out;rw[hR]at EN;have MX:((i+1:Nat):Int)=(i:Int)+1:=a5;rw[MX]at EN;have FR:=AO EN;have c5:Q.cell? (p,2)=AE (AJ g N c):=Nw.cell 2;have HC:Hid (∀v' J,JD Q (AJ g N c) R (AH v') J->∃G',JY (J.setCell (p,2) v') G' p {s with fr:=R}/\DG G w (J.setCell (p,2) v')/\∀k,G' k->G k\/w<=k):=λv' J O=>Gc H.out EV.out O JB.out;have Lz:Hid (∀v' J,JD Q (AJ g N c) R (AH v') J->J.cell? (p,2)=AE (AJ g N c)/\J.frozen? (p,2)=false):=λv' J O=>by have:=Ek H.out EV.out O;exact⟨this.cell 2,this.free 2⟩
   have zQ:p<Q:=Nw.lt;clear EN SO Nw hR MX;go_wp2_with fail
   refine FR.out.mono ?_;rintro e J O;obtain⟨v',rfl,Hz,FT,IZ⟩:=id O;have HX:=AO (HC.out v' J O);obtain⟨c6,f6⟩:=Lz.out v' J O;obtain⟨A',c',rfl,_,_,_⟩:=DI Hz;clear O Hz FT IZ;go_wp2
   go_end0
   obtain⟨G',h1,h2,h3⟩:=HX.out;exact⟨G',rfl,h1,h2,h3⟩
  ·skip
   have gr:decide ((U:Int)<(u2:Int))=false:=by simp;omega
   have av:decide (U<u2)=false:=by simp;omega
   have HR:Hid (s.fr.take i++([(a,q)]++[])++s.fr.drop (i+1)=R):=by
    unfold Hid;rw[vK.out];unfold MK;dsimp only;rw[if_pos HL.out,if_neg (by rw[HU.out];have:=Tz.out;omega)];rw[HQ.out]
   have TY:w.heap.size+2<=w3.heap.size:=by have:=Ei.out.size;simp at this;omega
   go_region_held3 (λw'=>Below w3.heap.size w3 w'/\w'.cell? w.heap.size=AE (AA AB f)/\w'.cell? (w.heap.size,1)=AE (AA AB n')/\w'.cell? (w.heap.size+1,0)=AE (AA AB a)/\w'.cell? (w.heap.size+1,1)=AE (AA AB b))
    (first
     |(exact QJ Ei.out (Cy (AS _ _) 1))
     |(exact QJ Ei.out I))
    ((go_split_ands;go_at_call 81;(first|(with_reducible refine(YT.out _).mono ?_)|(with_reducible refine(PI.out _).mono ?_));rintro e w4 ⟨rfl,D9⟩;have I:Below w3.heap.size w3 w4:=CM a9 (CO D9 (CN a9))))
   have TR:=AO I;clear I;have aa:Hid (w4.ownsRow 0 100 2 (AJ B1 1 d1) 1 (Cw ([(a,q)]++[]))):=by unfold Hid;rw[AZ];exact Ie (Kh xq.out TR.out) (Aq _)
   have KV:Hid (∀k,(AJ B1 1 d1).ownBlock=AE k->w<=k):=λk hk=>by have:=(xq.out.lt k hk).1;omega
   have EV:Hid (Below w.heap.size w w4):=Jy.out.trans (TR.out.mono a5);generalize w4=Q at*
   have SO:=Dw H.out.2.2.1 EV.out;have Nw:Row Q p 103 (J7 s (AJ g N c)):=H.out.2.1.below EV.out Hl;have EN:=EP Q (i:=i) (j:=i+1) SO aa.out (λk hk e=>by have h1:=(H.out.2.2.1.lt k hk).2;have h2:=KV.out k e;omega) a5 (by have:=HN.out;omega) a5 (by have:=HN.out;omega);have hR:s.fr.take i++([(a,q)]++[])++s.fr.drop (i+1)=R:=HR.out;rw[hR]at EN;have MX:((i+1:Nat):Int)=(i:Int)+1:=a5;rw[MX]at EN;have FR:=AO EN;have c5:Q.cell? (p,2)=AE (AJ g N c):=Nw.cell 2;have HC:Hid (∀v' J,JD Q (AJ g N c) R (AH v') J->∃G',JY (J.setCell (p,2) v') G' p {s with fr:=R}/\DG G w (J.setCell (p,2) v')/\∀k,G' k->G k\/w<=k):=λv' J O=>Gc H.out EV.out O JB.out;have Lz:Hid (∀v' J,JD Q (AJ g N c) R (AH v') J->J.cell? (p,2)=AE (AJ g N c)/\J.frozen? (p,2)=false):=λv' J O=>by have:=Ek H.out EV.out O;exact⟨this.cell 2,this.free 2⟩
   have zQ:p<Q:=Nw.lt;clear EN SO Nw hR MX;go_wp2_with fail
   refine FR.out.mono ?_;rintro e J O;obtain⟨v',rfl,Hz,FT,IZ⟩:=id O;have HX:=AO (HC.out v' J O);obtain⟨c6,f6⟩:=Lz.out v' J O;obtain⟨A',c',rfl,_,_,_⟩:=DI Hz;clear O Hz FT IZ;go_wp2
   go_end0
   obtain⟨G',h1,h2,h3⟩:=HX.out;exact⟨G',rfl,h1,h2,h3⟩
 ·have gl:decide ((a:Int)<(f:Int))=false:=by simp;omega
  have aD:decide (a<f)=false:=by simp;omega
  have HL:Hid (¬a<f):=hl;have Ei:Hid (Below (w+2) ((w.alloc (AK #[f,n'] 100)).alloc (AK #[a,b] 100)) ((w.alloc (AK #[f,n'] 100)).alloc (AK #[a,b] 100))):=AS _ _;have xq:Hid (((w.alloc (AK #[f,n'] 100)).alloc (AK #[a,b] 100)).ownsRow (w+2) 100 2 (AJ AD 0 0) 0 (Cw [])):=World.ownsRow_nil _ _ _ _;go_enter func83,ntmps83
  go_wp2
  generalize Kv:(w.alloc (AK #[f,n'] 100)).alloc (AK #[a,b] 100)=w3 at xq⊢;have Ei:Hid (Below (w+2) ((w.alloc (AK #[f,n'] 100)).alloc (AK #[a,b] 100)) w3):=Kv▸Ei.out;clear Kv;have Jy:Hid (Below w w w3):=(((AS w w).alloc ao _).alloc a8 _).trans (Ei.out.mono a5);by_cases mq:U<u2
  ·skip
   have gr:decide ((U:Int)<(u2:Int))=true:=by simp;omega
   have av:decide (U<u2)=true:=by simp;omega
   obtain⟨t,ht⟩:=al (u2-U);have aF:(u2:Int)-(U:Int)=(t:Int):=a5;have aB:Aa.wrap (t:Int)=(t:Int):=Ah _ a5;have HT:=AO ht;clear ht;have HR:Hid (s.fr.take i++([]++[(U,t)])++s.fr.drop (i+1)=R):=by
    unfold Hid;rw[vK.out];unfold MK;dsimp only;rw[if_neg HL.out,if_pos (by rw[HU.out];have:=Tz.out;omega)];rw[HU.out,Tz.out,HT.out]
   have TY:w.heap.size+2<=w3.heap.size:=by have:=Ei.out.size;simp at this;omega
   go_region_held3 (λw'=>Below w3.heap.size w3 w'/\w'.cell? w.heap.size=AE (AA AB f)/\w'.cell? (w.heap.size,1)=AE (AA AB n')/\w'.cell? (w.heap.size+1,0)=AE (AA AB a)/\w'.cell? (w.heap.size+1,1)=AE (AA AB b))
    (first
     |(exact QJ Ei.out (Cy (AS _ _) 1))
     |(exact QJ Ei.out I))
    ((go_split_ands;go_at_call 81;(first|(with_reducible refine(YT.out _).mono ?_)|(with_reducible refine(PI.out _).mono ?_));rintro e w4 ⟨rfl,D9⟩;have I:Below w3.heap.size w3 w4:=CM a9 (CO D9 (CN a9))))
   have TR:=AO I;clear I;have ab:w4.ownsRow (w+2) 100 2 (AJ AD 0 0) 0 (Cw []):=Kh xq.out TR.out;have IX:Below (w+2) ((w.alloc (AK #[f,n'] 100)).alloc (AK #[a,b] 100)) w4:=Ei.out.trans (TR.out.mono TY);obtain⟨m0,m1,m2,m3⟩:=um IX;have Xc:w.heap.size+2<=w4.heap.size:=by have:=IX.size;simp at this;omega
   have Qi:=AO IX;have aw:=AO ab;clear IX ab;go_wp2
   go_region_held3 (λw'=>Below (w.heap.size+2) ((w.alloc (AK #[AA AB f,AA AB n'] 100)).alloc (AK #[AA AB a,AA AB b] 100)) w'/\w'.ownsRow (w.heap.size+2) 100 2 (AJ AD 0 0) 0 (Cw [])/\w.heap.size+2<=w'.heap.size/\w'.cell? ⟨w.heap.size,0,AD⟩=AE (AA AB f)/\w'.cell? ⟨w.heap.size,1,AD⟩=AE (AA AB n')/\w'.cell? ⟨w.heap.size+1,0,AD⟩=AE (AA AB a)/\w'.cell? ⟨w.heap.size+1,1,AD⟩=AE (AA AB b))
    (first
     |(exact⟨Cy Qi.out 1,aw.out,Xc,m0,m1,m2,m3⟩)
     |(exact I)
     |(go_split_ands;exact Wu a9 a9 a9 _)
     |(exact Sc))
    (first
     |(go_split_ands;go_at_call 81;(first|(with_reducible refine(YT.out _).mono ?_)|(with_reducible refine(PI.out _).mono ?_));rintro e Q ⟨rfl,D9⟩;have I:=VA a9 a9 a9 D9)
     |(go_split_ands;refine Ke rfl _ _ 101 rfl (w.heap.size+2) 100 i0 _ 2 16 Ad Ym.out Ft hz VY rfl a6 (AJ AD 0 0) 0 (Cw []) (by first|rfl|simp) a9 _ 1 1 (Cw [(U,t)]) (by first|rfl|simp) rfl (lp (by first|rfl|simp)) EJ a6 a6 a9 ?_;intro v5 Q gK ad zf;have Sc:=kj a9 a9 a9 zf ad))
   generalize ar:0+1=m5 at gK;have aE:m5<=2:=a5;rw[<-Dj]at gK;obtain⟨B5,d5,rfl⟩:∃B5 d5,v5=AJ B5 m5 d5:=by
    obtain⟨B5,d5,h1,_⟩:=DI (Ie gK.out (Aq _));exact⟨B5,d5,h1⟩
   have aa:Hid (Q.ownsRow 0 100 2 (AJ B5 m5 d5) m5 (Cw ([]++[(U,t)]))):=Ie gK.out (Aq _);have KV:Hid (∀k,(AJ B5 m5 d5).ownBlock=AE k->w<=k):=λk hk=>by have:=(gK.out.lt k hk).1;omega
   have EV:Hid (Below w w Q):=(((AS w w).alloc ao _).alloc a8 _).trans (Sc.1.mono a5);clear ar gK Sc ad zf I m0 m1 m2 m3 Xc;have SO:=Dw H.out.2.2.1 EV.out;have Nw:Row Q p 103 (J7 s (AJ g N c)):=H.out.2.1.below EV.out Hl;have EN:=EP Q (i:=i) (j:=i+1) SO aa.out (λk hk e=>by have h1:=(H.out.2.2.1.lt k hk).2;have h2:=KV.out k e;omega) a5 (by have:=HN.out;omega) a5 (by have:=HN.out;omega);have hR:s.fr.take i++([]++[(U,t)])++s.fr.drop (i+1)=R:=HR.out;rw[hR]at EN;have MX:((i+1:Nat):Int)=(i:Int)+1:=a5;rw[MX]at EN;have FR:=AO EN;have c5:Q.cell? (p,2)=AE (AJ g N c):=Nw.cell 2;have HC:Hid (∀v' J,JD Q (AJ g N c) R (AH v') J->∃G',JY (J.setCell (p,2) v') G' p {s with fr:=R}/\DG G w (J.setCell (p,2) v')/\∀k,G' k->G k\/w<=k):=λv' J O=>Gc H.out EV.out O JB.out;have Lz:Hid (∀v' J,JD Q (AJ g N c) R (AH v') J->J.cell? (p,2)=AE (AJ g N c)/\J.frozen? (p,2)=false):=λv' J O=>by have:=Ek H.out EV.out O;exact⟨this.cell 2,this.free 2⟩
   have zQ:p<Q:=Nw.lt;clear EN SO Nw hR MX;go_wp2_with fail
   refine FR.out.mono ?_;rintro e J O;obtain⟨v',rfl,Hz,FT,IZ⟩:=id O;have HX:=AO (HC.out v' J O);obtain⟨c6,f6⟩:=Lz.out v' J O;obtain⟨A',c',rfl,_,_,_⟩:=DI Hz;clear O Hz FT IZ;go_wp2
   go_end0
   obtain⟨G',h1,h2,h3⟩:=HX.out;exact⟨G',rfl,h1,h2,h3⟩
  ·skip
   have gr:decide ((U:Int)<(u2:Int))=false:=by simp;omega
   have av:decide (U<u2)=false:=by simp;omega
   have HR:Hid (s.fr.take i++([]++[])++s.fr.drop (i+1)=R):=by
    unfold Hid;rw[vK.out];unfold MK;dsimp only;rw[if_neg HL.out,if_neg (by rw[HU.out];have:=Tz.out;omega)]
   have TY:w.heap.size+2<=w3.heap.size:=by have:=Ei.out.size;simp at this;omega
   go_region_held3 (λw'=>Below w3.heap.size w3 w'/\w'.cell? w.heap.size=AE (AA AB f)/\w'.cell? (w.heap.size,1)=AE (AA AB n')/\w'.cell? (w.heap.size+1,0)=AE (AA AB a)/\w'.cell? (w.heap.size+1,1)=AE (AA AB b))
    (first
     |(exact QJ Ei.out (Cy (AS _ _) 1))
     |(exact QJ Ei.out I))
    ((go_split_ands;go_at_call 81;(first|(with_reducible refine(YT.out _).mono ?_)|(with_reducible refine(PI.out _).mono ?_));rintro e w4 ⟨rfl,D9⟩;have I:Below w3.heap.size w3 w4:=CM a9 (CO D9 (CN a9))))
   have TR:=AO I;clear I;have aa:Hid (w4.ownsRow 0 100 2 (AJ AD 0 0) 0 (Cw ([]++[]))):=by unfold Hid;rw[AZ];exact Ie (Kh xq.out TR.out) (Aq _)
   have KV:Hid (∀k,(AJ AD 0 0).ownBlock=AE k->w<=k):=λk hk=>by have:=(xq.out.lt k hk).1;omega
   have EV:Hid (Below w.heap.size w w4):=Jy.out.trans (TR.out.mono a5);generalize w4=Q at*
   have SO:=Dw H.out.2.2.1 EV.out;have Nw:Row Q p 103 (J7 s (AJ g N c)):=H.out.2.1.below EV.out Hl;have EN:=EP Q (i:=i) (j:=i+1) SO aa.out (λk hk e=>by have h1:=(H.out.2.2.1.lt k hk).2;have h2:=KV.out k e;omega) a5 (by have:=HN.out;omega) a5 (by have:=HN.out;omega);have hR:s.fr.take i++([]++[])++s.fr.drop (i+1)=R:=HR.out;rw[hR]at EN;have MX:((i+1:Nat):Int)=(i:Int)+1:=a5;rw[MX]at EN;have FR:=AO EN;have c5:Q.cell? (p,2)=AE (AJ g N c):=Nw.cell 2;have HC:Hid (∀v' J,JD Q (AJ g N c) R (AH v') J->∃G',JY (J.setCell (p,2) v') G' p {s with fr:=R}/\DG G w (J.setCell (p,2) v')/\∀k,G' k->G k\/w<=k):=λv' J O=>Gc H.out EV.out O JB.out;have Lz:Hid (∀v' J,JD Q (AJ g N c) R (AH v') J->J.cell? (p,2)=AE (AJ g N c)/\J.frozen? (p,2)=false):=λv' J O=>by have:=Ek H.out EV.out O;exact⟨this.cell 2,this.free 2⟩
   have zQ:p<Q:=Nw.lt;clear EN SO Nw hR MX;go_wp2_with fail
   refine FR.out.mono ?_;rintro e J O;obtain⟨v',rfl,Hz,FT,IZ⟩:=id O;have HX:=AO (HC.out v' J O);obtain⟨c6,f6⟩:=Lz.out v' J O;obtain⟨A',c',rfl,_,_,_⟩:=DI Hz;clear O Hz FT IZ;go_wp2
   go_end0
   obtain⟨G',h1,h2,h3⟩:=HX.out;exact⟨G',rfl,h1,h2,h3⟩
def Next(w:World)(G:Nat->Prop)(p:Nat)(s:Sp)(w':World):Prop:=∃G',JY w' G' p s/\DG G w w'/\∀k,G' k->G k\/w<=k
theorem Next.DB{w w' G p s}(h:JY w G p s)(hb:Below w w w'):Next w G p s w':=⟨G,h.below hb,DG.DB hb G,λ_ e=>.inl e⟩
theorem Next.behind{w w1 w':World}{G p s}(hb:Below w w w1)(h:Next w1 G p s w'):Next w G p s w':=by
 obtain⟨G',J,I,h3⟩:=h;exact⟨G',J,(DG.DB hb G).trans I λb e=>.inl e,λk H=>(h3 k H).imp id λh=>Af hb.size h⟩
def GN(s:Sp)(n:Int):Sp×Nat×Nat:=
 if n<1 then (s,0,1)else if I7 s.fr n.toNat<s.fr.length then ({s with fr:=LY s.fr (I7 s.fr n.toNat) (DZ s.fr (I7 s.fr n.toNat)).1 n.toNat},(DZ s.fr (I7 s.fr n.toNat)).1,0)else (s,0,5)
def MO(s:Sp)(f n:Int):Sp×Nat:=
 if n<1 then (s,1)else if Gj s.fr f<s.fr.length/\((DZ s.fr (Gj s.fr f)).1:Int)<=f/\n<=(((DZ s.fr (Gj s.fr f)).1+(DZ s.fr (Gj s.fr f)).2:Nat):Int)-f then ({s with fr:=LY s.fr (Gj s.fr f) f.toNat n.toNat},0)else (s,1)
def Ez(s:Sp)(f n:Int):Sp×Nat:=
 if n<1\/¬((s.first:Int)<=f/\n<=((s.first+s.blocks:Nat):Int)-f)\/(EH s.fr f.toNat<s.fr.length/\(DZ s.fr (EH s.fr f.toNat)).1<f.toNat+n.toNat)then (s,1)else ({s with fr:=GH s.fr (EH s.fr f.toNat) f.toNat n.toNat},0)
theorem kI(p:Nat)(s:Sp)(G:Nat->Prop)(n:Int)(w:World)(h:JY w G p s)(hn:Fg n):
  Calls AP 73 #[AI p,n] w λe w'=>e=AH (AM #[((GN s n).2.1:Nat),((GN s n).2.2:Nat)])/\Next w G p (GN s n).1 w':=by
 have hB:=(AS w w).alloc ao (AK #[n] 3);by_cases J:n<1
 ·have g1:decide (n<1)=true:=by simpa using J
  have HN:Hid (Next w G p (GN s n).1 (w.alloc (AK #[n] 3))):=by unfold Hid GN;rw[if_pos J];exact Next.DB h hB
  have e:(GN s n).2=(0,1):=by unfold GN;rw[if_pos J]
  rw[e];clear h hB J e;go_enter func73,ntmps73
  go_wp2
  go_ret2
  exact⟨rfl,HN.out⟩
 ·have g1:decide (n<1)=false:=by simpa using J
  obtain⟨m,rfl⟩:∃m:Nat,n=(m:Int):=⟨n.toNat,a5⟩;have hm:1<=m:=a5;have O:=h.below hB;obtain⟨DK,v,hr,ho,hG⟩:=id O;obtain⟨A,c,rfl,av,Fu,_⟩:=DI ho;have hlen:=DK.len;have c2:(w.alloc (AK #[m] 3)).cell? (p,2)=AE (AJ A s.fr.length c):=hr.cell 2;have k1:(w.alloc (AK #[m] 3)).cell? w=AE (AA AB (m:Int)):=by
   have r1:Row (w.alloc (AK #[m] 3)) w 3 [m]:=heap_alloc_new _ _;exact r1.cell 0
  have I:=Zt w (m:Int) A s.fr.length c s.fr _ k1 ho rfl a5;have V5:=AO O;have HB:=AO hB;have HO:=AO ho;have zC:((m:Int)).toNat=m:=BX m;have Hl:p<w:=by obtain⟨_,v,hr,_⟩:=h;exact hr.lt
  obtain⟨N,hN⟩:=ae s.fr.length;have HN:=AO hN;have OE:GN s (m:Int)=if I7 s.fr m<s.fr.length then ({s with fr:=LY s.fr (I7 s.fr m) (DZ s.fr (I7 s.fr m)).1 m},(DZ s.fr (I7 s.fr m)).1,0)else (s,0,5):=by unfold GN;rw[if_neg J,zC]
  by_cases Q:I7 s.fr m<s.fr.length
  ·rw[if_pos Q]at OE;rw[OE];dsimp only;have aa:=N8 Q;have H:=I.mono (R':=λe w'=>e=AH (I7 s.fr m:Nat)/\Below (w.alloc (AK #[m] 3)).heap.size (w.alloc (AK #[m] 3)) w') (λe w2 hh=>by
    rcases hh with⟨i,hi,Z8,FX,rfl,DN⟩|⟨hno,rfl,DN⟩
    ·have U:I7 s.fr m=i:=IQ a5 (λk hk=>by have:=Z8 k hk;simp only[decide_eq_false_iff_not]at this⊢;omega) (λ_=>by simp only[decide_eq_true_eq]at FX⊢;omega);rw[U];exact⟨rfl,DN⟩
    ·have h2:=hno _ Q;simp only[decide_eq_true_eq,decide_eq_false_iff_not]at aa h2;unfold I7 at h2;omega)
   have ab:m<=(DZ s.fr (I7 s.fr m)).2:=by unfold I7;simpa using aa
   generalize I7 s.fr m=i at*
   obtain⟨a,ha⟩:=al ((DZ s.fr i).1);have RO:Hid (∀W,Below (w.alloc (AK #[AA AB (m:Int)] 3)).heap.size (w.alloc (AK #[AA AB (m:Int)] 3)) W->∃g,A=AE ⟨g,0,AD⟩/\g<W.heap.size/\W.cell? ⟨g,i*2,AD⟩=AE (AA AB (a:Nat))):=λW hb=>by
    obtain⟨g,J,h2,h3,_⟩:=IK (Dw HO.out hb) Q;rw[ha]at h3;exact⟨g,J,h2,h3⟩
   have ve:Hid (∀w2,Below (w.alloc (AK #[m] 3)).heap.size (w.alloc (AK #[m] 3)) w2->Calls AP 83 #[AI p,i,AL #[a,m]] w2 λe w'=>e=AH (AM #[])/\Next w G p {s with fr:=LY s.fr i a m} w'):=λw2 DN=>
    (cn p s G i a m w2 (V5.out.below DN) Q (by rw[ha];exact AQ _) (by rw[ha];omega) hm).mono λe w' ⟨G',J,h2⟩=>⟨J,Next.behind (HB.out.trans (DN.mono HB.out.size)) ⟨G',h2⟩⟩
   rw[ha];generalize LY s.fr i a m=R at*
   rw[<-hN]at c2 hlen H Q;have pQ:=AO H;have gi:decide ((i:Int)<0)=false:=a8;have ar:(0:Int)<=(i:Int):=a5;have ad:(i:Int)<(N:Int):=a5;clear I H O DK hr ho hG h J hB zC hN aa ab ha OE Q;go_enter func73,ntmps73
   go_wp2_with fail
   refine pQ.out.mono ?_;rintro e w2 ⟨rfl,DN⟩;obtain⟨g,rfl,hg,Jw⟩:=RO.out w2 DN;have hcut:=ve.out w2 DN;have Lz:=AO hcut;have dD:=(DN.cell (p:=(p,2)) (by simp;omega)).trans c2;have Tq:=(DN.cell (p:=⟨w.heap.size,0,AD⟩) a8).trans k1;clear hcut DN pQ RO ve c2 k1 HO V5;go_wp2_with fail
   refine Lz.out.mono ?_;rintro e w3 ⟨rfl,hx⟩;have HX:=AO hx;clear hx;go_wp2
   go_ret2
   exact⟨rfl,HX.out⟩
  ·rw[if_neg Q]at OE;rw[OE];dsimp only;have H:=I.mono (R':=λe w'=>e=AH (AA AB (-1))/\Next w G p s w') (λe w2 hh=>by
    rcases hh with⟨i,hi,Z8,FX,rfl,DN⟩|⟨hno,rfl,DN⟩
    ·have U:I7 s.fr m=i:=IQ a5 (λk hk=>by have:=Z8 k hk;simp only[decide_eq_false_iff_not]at this⊢;omega) (λ_=>by simp only[decide_eq_true_eq]at FX⊢;omega);omega
    ·exact⟨rfl,Next.behind HB.out (Next.DB V5.out DN)⟩)
   rw[<-hN]at c2 hlen H;have pQ:=AO H;clear I H O DK hr ho hG h J hB zC hN OE Q;go_enter func73,ntmps73
   go_wp2_with fail
   refine pQ.out.mono ?_;rintro e w2 ⟨rfl,hx⟩;have HX:=AO hx;clear hx pQ;go_wp2
   go_ret2
   exact⟨rfl,HX.out⟩
theorem Xi(p:Nat)(s:Sp)(G:Nat->Prop)(f n:Int)(w:World)(h:JY w G p s)(hf:Fg f)(hn:Fg n):
  Calls AP 64 #[AI p,f,n] w λe w'=>e=AH ((MO s f n).2:Nat)/\Next w G p (MO s f n).1 w':=by
 by_cases Q:n<1
 ·have g1:decide (n<1)=true:=by simpa using Q
  have HN:Hid (Next w G p (MO s f n).1 w):=by unfold Hid MO;rw[if_pos Q];exact Next.DB h (AS _ _)
  have e:(MO s f n).2=1:=by unfold MO;rw[if_pos Q]
  rw[e];clear h Q e;go_enter func64,ntmps64
  go_wp2
  go_ret
  exact⟨rfl,HN.out⟩
 have g1:decide (n<1)=false:=by simpa using Q
 obtain⟨DK,v,hr,ho,hG⟩:=id h;obtain⟨A,c,rfl,ar,Fu,_⟩:=DI ho;have hlen:=DK.len;have c2:w.cell? (p,2)=AE (AJ A s.fr.length c):=hr.cell 2;have Hl:=hr.lt;have Pn:=Rl p s G f w h;have aa:Gj s.fr f<=s.fr.length:=Cg;have OE:Hid (MO s f n=if Gj s.fr f<s.fr.length/\((DZ s.fr (Gj s.fr f)).1:Int)<=f/\n<=(((DZ s.fr (Gj s.fr f)).1+(DZ s.fr (Gj s.fr f)).2:Nat):Int)-f then ({s with fr:=LY s.fr (Gj s.fr f) f.toNat n.toNat},0)else (s,1)):=by unfold Hid MO;rw[if_neg Q]
 obtain⟨i,hi⟩:=al (Gj s.fr f);rw[hi]at Pn aa OE;have Tf:=AO Pn;have H:=AO h;have HO:=AO ho;have JB:=AO DK;obtain⟨N,hN⟩:=ae s.fr.length;rw[<-hN]at c2 hlen aa;have HN:=AO hN;clear Pn h DK hr ho hG hi hN;by_cases J:i<N
 ·have g2:((i:Int)==(N:Int))=false:=by simp;omega
  have g3:decide ((i:Int)=(N:Int))=false:=by simp;omega
  have ao:(0:Int)<=(i:Int):=a5;have ad:(i:Int)<(N:Int):=a5;have M6:=JB.out.2.2.getD (i:=i) (by rw[<-HN.out];exact J);have ab:(DZ s.fr i).1+(DZ s.fr i).2<=2000000:=by have:=JB.out.1;have:=JB.out.2.1;omega
  obtain⟨a,ha⟩:=al ((DZ s.fr i).1);obtain⟨b,hb⟩:=al ((DZ s.fr i).2);obtain⟨g,rfl,hg,Jw,Li⟩:=IK HO.out (i:=i) (by rw[<-HN.out];exact J);have nG:=λW=>UK a b f n W a5 hf;have HH:=AO nG;have I:=OE.out;rw[ha,hb]at I;rw[ha]at Jw;rw[hb]at Li;have HA:=AO ha;have HB:=AO hb;by_cases O:(a:Int)<=f/\n<=((a+b:Nat):Int)-f
  ·rw[if_pos ⟨by rw[<-HN.out];exact J,O⟩]at I;rw[I];dsimp only;obtain⟨U,rfl⟩:∃U:Nat,f=(U:Int):=⟨f.toNat,a5⟩;obtain⟨n',rfl⟩:∃n':Nat,n=(n':Int):=⟨n.toNat,a5⟩;simp only[BX];have nF:(decide ((a:Int)<=(U:Int))&&decide ((n':Int)<=((a+b:Nat):Int)-(U:Int)))=true:=by simp only[Bool.and_eq_true,decide_eq_true_eq];exact O
   have jZ:=AO nF;have ve:Hid (∀w2,Below w w w2->Calls AP 83 #[AI p,i,AL #[U,n']] w2 λe w'=>e=AH (AM #[])/\Next w G p {s with fr:=LY s.fr i U n'} w'):=λw2 DN=>
    (cn p s G i U n' w2 (H.out.below DN) (by rw[<-HN.out];exact J) (by rw[HA.out];omega) (by rw[HA.out,HB.out];omega) a5).mono λe w' ⟨G',Q,h2⟩=>⟨Q,Next.behind DN ⟨G',h2⟩⟩
   generalize LY s.fr i U n'=R at*
   clear I O nF nG ha hb M6 ab OE HO JB;go_enter func64,ntmps64
   go_wp2_with fail
   refine Tf.out.mono ?_;rintro e w2 ⟨rfl,DN⟩;have dD:=(DN.cell (p:=(p,2)) Hl).trans c2;have d0:=(DN.cell (p:=(g,i*2)) hg).trans Jw;have d1:=(DN.cell (p:=(g,i*2+1)) hg).trans Li;have E1:=AO DN;clear DN;go_wp2_with fail
   refine(HH.out _).mono ?_;rintro e w3 ⟨rfl,D9⟩;rw[jZ.out];have Ei:=AO (E1.out.trans (D9.mono E1.out.size));clear D9 dD d0 d1;go_wp2_with fail
   refine(ve.out _ Ei.out).mono ?_;rintro e w4 ⟨rfl,O⟩;have HX:=AO O;clear O;go_wp2
   go_ret
   exact⟨rfl,HX.out⟩
  ·rw[if_neg (λhh=>O hh.2)]at I;rw[I];dsimp only;have nF:(decide ((a:Int)<=f)&&decide (n<=((a+b:Nat):Int)-f))=false:=by
    cases hq:(decide ((a:Int)<=f)&&decide (n<=((a+b:Nat):Int)-f))with
    |false=>rfl
    |true=>simp only[Bool.and_eq_true,decide_eq_true_eq]at hq;exact absurd hq O
   have jZ:=AO nF;clear I O nF nG ha hb M6 ab OE HO JB;go_enter func64,ntmps64
   go_wp2_with fail
   refine Tf.out.mono ?_;rintro e w2 ⟨rfl,DN⟩;have dD:=(DN.cell (p:=(p,2)) Hl).trans c2;have d0:=(DN.cell (p:=(g,i*2)) hg).trans Jw;have d1:=(DN.cell (p:=(g,i*2+1)) hg).trans Li;have E1:=AO DN;clear DN;go_wp2_with fail
   refine(HH.out _).mono ?_;rintro e w3 ⟨rfl,D9⟩;rw[jZ.out];have HX:Hid (Next w G p s w3):=Next.DB H.out (E1.out.trans (D9.mono E1.out.size));clear D9 dD d0 d1;go_wp2
   go_ret
   exact⟨rfl,HX.out⟩
 ·obtain rfl:i=N:=a5;have I:=OE.out;rw[if_neg (λhh=>by have:=hh.1;rw[<-HN.out]at this;omega)]at I;rw[I];dsimp only;clear I OE HO JB J;go_enter func64,ntmps64
  go_wp2_with fail
  refine Tf.out.mono ?_;rintro e w2 ⟨rfl,DN⟩;have dD:=(DN.cell (p:=(p,2)) Hl).trans c2;have HX:Hid (Next w G p s w2):=Next.DB H.out DN;clear DN;go_wp2
  go_ret
  exact⟨rfl,HX.out⟩
section
variable{l:List Ex}{i f n:Nat}
theorem Ra(e:0<i)(h:(DZ l (i-1)).1+(DZ l (i-1)).2=f):KK l i f=true:=by simp[KK,e,h]
theorem KZ(h:0<i->(DZ l (i-1)).1+(DZ l (i-1)).2≠f):KK l i f=false:=by
 unfold KK;by_cases e:0<i
 ·simp[e,h e]
 ·simp[e]
theorem RZ(e:i<l.length)(h:(DZ l i).1=f):Fp l i f=true:=by simp[Fp,e,h]
theorem KY(h:i<l.length->(DZ l i).1≠f):Fp l i f=false:=by
 unfold Fp;by_cases e:i<l.length
 ·simp[e,h e]
 ·simp[e]
end
theorem tC(p:Nat)(s:Sp)(G:Nat->Prop)(i f n':Nat)(w:World)(h:JY w G p s)(hi:i=EH s.fr f)(h1:s.first<=f)(h2:f+n'<=s.first+s.blocks)(hn:1<=n')(ab:∀b,f<=b->b<f+n'->¬hasB s.fr b)(Oo:¬0<i):
  Calls AP 82 #[AI p,i,AL #[f,n']] w λe w'=>∃G',e=AH (AM #[])/\JY w' G' p {s with fr:=GH s.fr i f n'}/\DG G w w'/\∀k,G' k->G k\/w<=k:=by
 obtain⟨DK,v,hr,ho,hG⟩:=h;have KB:=Mz DK.2.2 hn h1 h2 ab;rw[<-hi]at KB;have ad:i<=s.fr.length:=by rw[hi];exact Cg
 clear hi ab;have Qw:s.first+s.blocks<=2000000:=by have:=DK.1;have:=DK.2.1;omega
 have SZ:∀k,k<s.fr.length->(DZ s.fr k).1+(DZ s.fr k).2<=2000000:=λk hk=>by have:=DK.2.2.getD hk;omega
 obtain⟨A,c,rfl,aF,Fu,_⟩:=DI ho;have hlen:=DK.len;have c2:w.cell? (p,2)=AE (AJ A s.fr.length c):=hr.cell 2;have Hl:=hr.lt;have Xj:=DK;have FX:∀k,k<s.fr.length->∃g,A=AE ⟨g,0,AD⟩/\g<w.heap.size/\w.cell? ⟨g,k*2,AD⟩=AE (AA AB (DZ s.fr k).1)/\w.cell? ⟨g,k*2+1,AD⟩=AE (AA AB (DZ s.fr k).2):=λk hk=>IK ho hk;have RO:=AO FX;obtain⟨N,hN⟩:=ae s.fr.length;have H0:xj w G p s (AJ A N c):=by subst hN;exact⟨DK,hr,ho,hG⟩
 obtain⟨R,hR⟩:=ae (GH s.fr i f n');have JB:Hid (({s with fr:=R}:Sp).ok):=by rw[hR];exact⟨DK.1,DK.2.1,KB.1⟩
 rw[<-hR];have HR:=AO hR;have H:=AO H0;have HN:Hid (s.fr.length=N):=hN.symm;have bI:=AO SZ;rw[<-hN]at c2 hlen ad;have Qy:f+n'<=2000000:=a5;have K9:Hid (Below w w (w.alloc (AK #[f,n'] 100))):=(AS _ _).alloc ao _;clear KB DK hr ho hG FX H0 hN hR Qw SZ Xj h1 h2;have lg:decide ((0:Int)<(i:Int))=false:=by simp;omega
 have aD:decide ((i:Int)>0)=false:=by simp;omega
 have aC:decide (0<i)=false:=by simp;omega
 have V4:Hid (0<i->(DZ s.fr (i-1)).1+(DZ s.fr (i-1)).2≠f):=λhh=>absurd hh Oo;have vW:Hid (f+n'=f+n'):=rfl;go_enter func82,ntmps82
 go_wp2
 go_quiet (fail)
 have Gm:Row ((w.alloc (AK #[f,n'] 100)).drewN nq) w 100 [f,n']:=heap_alloc_new _ _;have PJ:Hid (Below w w ((w.alloc (AK #[f,n'] 100)).drewN nq)):=Cy K9.out nq;generalize(w.alloc (AK #[f,n'] 100)).drewN nq=wp at*
 go_wp2
 by_cases m7:i<N
 ·obtain⟨U,N5,FT,cV,Kr⟩:=RO.out (i) (by rw[HN.out];exact m7);have Sa:=bI.out (i) (by rw[HN.out];exact m7);subst N5;obtain⟨a2,QV⟩:=al ((DZ s.fr (i)).1);obtain⟨b2,DN⟩:=al ((DZ s.fr (i)).2);rw[QV]at cV;rw[DN]at Kr;rw[QV,DN]at Sa;have V8:=AO QV;have TS:=AO DN;obtain⟨u2,Ph⟩:=al (f+n');have PI:Hid (∀W,Calls AP 81 #[AL #[f,n']] W λe w'=>e=AH u2/\Below W W w'):=λW=>by have:=Io (f) (n') W a5;rwa [Ph]at this
  have Tz:=AO Ph;have QY:wp.cell? ⟨p,2,AD⟩=AE (AJ (AE ⟨U,0,AD⟩) N c):=(H.out.2.1.below PJ.out Hl).cell 2;obtain⟨Uj,TH⟩:=Gm.q2;have Sq:=(PJ.out.cell (p:=⟨U,(i)*2,AD⟩) FT).trans cV;have So:=(PJ.out.cell (p:=⟨U,(i)*2+1,AD⟩) FT).trans Kr;have IM:w.heap.size<wp.heap.size:=Gm.lt;have Kn:p<wp.heap.size:=a5;have Ix:U<wp.heap.size:=a5;have vu:((i:Int):Int)<(N:Int):=a5;have vv:(0:Int)<=((i:Int):Int):=a5;have rg:decide (((i:Int):Int)<(N:Int))=true:=by simp;omega
  have lJ:decide (i<N)=true:=by simp;omega
  clear Ph QV DN;by_cases GL:a2=u2
  ·have rt:decide (a2=u2)=true:=by simp;omega
   have lA:(a2==u2)=true:=by simp;omega
   have kz:((a2:Int)==(u2:Int))=true:=by simp;omega
   obtain⟨n2,PO⟩:=ae (n'+b2);have Ov:(n':Int)+(b2:Int)=(n2:Int):=a5;have GK:Aa.wrap (n2:Int)=(n2:Int):=Ah _ a5;have aE:Aa.wrap (((i:Int):Int)+1)=((i:Int):Int)+1:=Ah _ a5;have TL:Hid (Fp s.fr (i) (f+n')=true):=RZ (by rw[HN.out];exact m7) (by rw[V8.out];have:=Tz.out;have:=vW.out;omega);have pM:=AO PO;clear PO;go_region_held3 (λw'=>Below wp.heap.size wp w'/\w'.cell? (p,2)=AE (AJ U N c)/\w'.cell? w.heap.size=AE (AA AB f)/\w'.cell? (w.heap.size,1)=AE (AA AB n')/\w'.cell? ⟨U,(i)*2,AD⟩=AE (AA AB a2)/\w'.cell? ⟨U,(i)*2+1,AD⟩=AE (AA AB b2))
    (first
     |(exact⟨Cy (AS _ _) 1,QY,Uj,TH,Sq,So⟩)
     |(exact⟨I,(I.cell Kn).trans QY,(I.cell IM).trans Uj,(I.cell IM).trans TH,(I.cell Ix).trans Sq,(I.cell Ix).trans So⟩))
    ((go_split_ands;go_at_call 81;(with_reducible refine(PI.out _).mono ?_);rintro e WU ⟨rfl,D9⟩;have I:Below wp.heap.size wp WU:=CM a9 (CO D9 (CN a9))))
   have Iy:=Gm.below I IM;have PK:=AO (PJ.out.trans (I.mono PJ.out.size));have LB:=AO I;clear I;have aA:=(LB.out.cell (p:=(p,2)) Kn).trans QY;have aw:=(LB.out.cell (p:=⟨U,(i)*2,AD⟩) Ix).trans Sq;have av:=(LB.out.cell (p:=⟨U,(i)*2+1,AD⟩) Ix).trans So;have aB:=(LB.out.cell (p:=(w,1)) IM).trans TH;have ar:=Iy.free 1;generalize WU=Yy at*
   go_wp2
   go_region
   have Gx:Row (Yy.setCell (w,1) n2).drew w 100 [f,n2]:=(Iy.set 1 n2).drewN 1;have Mm:Hid (Below w.heap.size w (Yy.setCell ⟨w.heap.size,1,AD⟩ (AA AB n2)).drew):=Cy (PK.out.setCell (p:=⟨w.heap.size,1,AD⟩) ao _) 1;clear aA aw av aB ar LB PK Iy;generalize(Yy.setCell (w.heap.size,1) n2).drew=O at*
   go_wp2
   have RN:Hid (s.fr.take (i)++[(f,n2)]++s.fr.drop (i+1)=R):=by
    unfold Hid;rw[HR.out];unfold GH;rw[KZ V4.out,TL.out];dsimp only;rw[pM.out,TS.out]
   have aa:w.heap.size<O.heap.size:=Gx.lt;have c5:O.cell? (p,2)=AE (AJ U N c):=(H.out.2.1.below Mm.out Hl).cell 2;obtain⟨b0,b1⟩:=Gx.q2;have Xg:p<O.heap.size:=a5;have EV:∀W,W=O.drew.alloc (AK #[f,n2] 100)->Hid (Below w w W):=λW e=>by subst e;exact(Cy Mm.out 1).alloc (by have:=Mm.out.size;exact this) _
   have FR:∀W,W=O.drew.alloc (AK #[f,n2] 100)->Hid (Calls AP 107 #[AJ U N c,AA AB ((i:Int)),AA AB ((i:Int)+1),AJ O 1 1] W (JD W (AJ U N c) R)):=λW e=>by
    have NV:=Dw H.out.2.2.1 (EV W e).out;rw[HN.out]at NV;have Ig:Fi W O 1 1 [(f,n2)] [f,n2]:=⟨by subst e;exact heap_alloc_new O.drew _,rfl,AQ _,a5,rfl,rfl⟩;have EN:=EP W (i:=i) (j:=i+1) NV Ig.own (λk hk e2=>by have h1:=(H.out.2.2.1.lt k hk).2;(have e3:O.heap.size=k:=by simpa [Bp]using e2);omega) a5 a5 a5 a5;rw[RN.out]at EN;have Fk:((i:Nat):Int)=(i:Int):=a5;have GW:((i+1:Nat):Int)=(i:Int)+1:=a5
    first|rw[Fk,GW]at EN|rw[Fk]at EN
    exact EN
   have FR:=FR _ rfl;have EV:=EV _ rfl;have HC:Hid (∀v' J,JD (O.drew.alloc (AK #[f,n2] 100)) (AJ U N c) R (AH v') J->∃G',JY (J.setCell (p,2) v') G' p {s with fr:=R}/\DG G w (J.setCell (p,2) v')/\∀k,G' k->G k\/w<=k):=λv' J Q=>Gc H.out EV.out Q JB.out;clear TL rt lA kz vv vu rg lJ QY Uj TH Kn Ix IM Sq So cV Kr PI Tz V8 TS Sa FT;have Lz:Hid (∀v' J,JD (O.drew.alloc (AK #[f,n2] 100)) (AJ U N c) R (AH v') J->J.cell? (p,2)=AE (AJ U N c)/\J.frozen? (p,2)=false):=λv' J Q=>by have:=Ek H.out EV.out Q;exact⟨this.cell 2,this.free 2⟩
   go_wp2
   go_region_with (go_at_call 107;refine FR.out.mono ?_;rintro e J Q;obtain⟨v',rfl,Hz,FT,IZ⟩:=id Q;have HX:=AO (HC.out v' J Q);obtain⟨c6,f6⟩:=Lz.out v' J Q;obtain⟨A',c',rfl,_,_,_⟩:=DI Hz;clear Q Hz FT IZ)
   all_goals(go_wp2;go_end0;obtain⟨G',h1,h2,h3⟩:=HX.out;exact⟨G',rfl,h1,h2,h3⟩)
  ·have rt:decide (a2=u2)=false:=by simp;omega
   have lA:(a2==u2)=false:=by simp;omega
   have kz:((a2:Int)==(u2:Int))=false:=by simp;omega
   have TL:Hid (Fp s.fr (i) (f+n')=false):=KY λ_=>by rw[V8.out];have:=Tz.out;have:=vW.out;omega
   go_wp2
   go_region_held3 (λw'=>Below wp.heap.size wp w'/\w'.cell? (p,2)=AE (AJ U N c)/\w'.cell? w.heap.size=AE (AA AB f)/\w'.cell? (w.heap.size,1)=AE (AA AB n')/\w'.cell? ⟨U,(i)*2,AD⟩=AE (AA AB a2)/\w'.cell? ⟨U,(i)*2+1,AD⟩=AE (AA AB b2))
    (first
     |(exact⟨Cy (AS _ _) 1,QY,Uj,TH,Sq,So⟩)
     |(exact⟨I,(I.cell Kn).trans QY,(I.cell IM).trans Uj,(I.cell IM).trans TH,(I.cell Ix).trans Sq,(I.cell Ix).trans So⟩))
    ((go_split_ands;go_at_call 81;(with_reducible refine(PI.out _).mono ?_);rintro e WU ⟨rfl,D9⟩;have I:Below wp.heap.size wp WU:=CM a9 (CO D9 (CN a9))))
   have Iy:=Gm.below I IM;have PK:=AO (PJ.out.trans (I.mono PJ.out.size));have LB:=AO I;clear I;generalize WU=O at*
   have Mm:=PK;have Gx:=Iy;go_wp2
   have RN:Hid (s.fr.take (i)++[(f,n')]++s.fr.drop (i)=R):=by
    unfold Hid;rw[HR.out];unfold GH;rw[KZ V4.out,TL.out]
   have aa:w.heap.size<O.heap.size:=Gx.lt;have c5:O.cell? (p,2)=AE (AJ U N c):=(H.out.2.1.below Mm.out Hl).cell 2;obtain⟨b0,b1⟩:=Gx.q2;have Xg:p<O.heap.size:=a5;have EV:∀W,W=O.drew.alloc (AK #[f,n'] 100)->Hid (Below w w W):=λW e=>by subst e;exact(Cy Mm.out 1).alloc (by have:=Mm.out.size;exact this) _
   have FR:∀W,W=O.drew.alloc (AK #[f,n'] 100)->Hid (Calls AP 107 #[AJ U N c,AA AB ((i:Int)),AA AB ((i:Int)),AJ O 1 1] W (JD W (AJ U N c) R)):=λW e=>by
    have NV:=Dw H.out.2.2.1 (EV W e).out;rw[HN.out]at NV;have Ig:Fi W O 1 1 [(f,n')] [f,n']:=⟨by subst e;exact heap_alloc_new O.drew _,rfl,AQ _,a5,rfl,rfl⟩;have EN:=EP W (i:=i) (j:=i) NV Ig.own (λk hk e2=>by have h1:=(H.out.2.2.1.lt k hk).2;(have e3:O.heap.size=k:=by simpa [Bp]using e2);omega) a5 a5 a5 a5;rw[RN.out]at EN;have Fk:((i:Nat):Int)=(i:Int):=a5;have GW:((i:Nat):Int)=(i:Int):=a5
    first|rw[Fk,GW]at EN|rw[Fk]at EN
    exact EN
   have FR:=FR _ rfl;have EV:=EV _ rfl;have HC:Hid (∀v' J,JD (O.drew.alloc (AK #[f,n'] 100)) (AJ U N c) R (AH v') J->∃G',JY (J.setCell (p,2) v') G' p {s with fr:=R}/\DG G w (J.setCell (p,2) v')/\∀k,G' k->G k\/w<=k):=λv' J Q=>Gc H.out EV.out Q JB.out;clear TL rt lA kz vv vu rg lJ QY Uj TH Kn Ix IM Sq So cV Kr PI Tz V8 TS Sa FT;have Lz:Hid (∀v' J,JD (O.drew.alloc (AK #[f,n'] 100)) (AJ U N c) R (AH v') J->J.cell? (p,2)=AE (AJ U N c)/\J.frozen? (p,2)=false):=λv' J Q=>by have:=Ek H.out EV.out Q;exact⟨this.cell 2,this.free 2⟩
   go_wp2
   go_region_with (go_at_call 107;refine FR.out.mono ?_;rintro e J Q;obtain⟨v',rfl,Hz,FT,IZ⟩:=id Q;have HX:=AO (HC.out v' J Q);obtain⟨c6,f6⟩:=Lz.out v' J Q;obtain⟨A',c',rfl,_,_,_⟩:=DI Hz;clear Q Hz FT IZ)
   all_goals(go_wp2;go_end0;obtain⟨G',h1,h2,h3⟩:=HX.out;exact⟨G',rfl,h1,h2,h3⟩)
 ·have rg:decide (((i:Int):Int)<(N:Int))=false:=by simp;omega
  have lJ:decide (i<N)=false:=by simp;omega
  have TL:Hid (Fp s.fr (i) (f+n')=false):=KY λhh=>by rw[HN.out]at hh;omega
  have QY:wp.cell? (p,2)=AE (AJ A N c):=(H.out.2.1.below PJ.out Hl).cell 2;have Kn:p<wp:=by have:=Gm.lt;omega
  go_quiet (fail)
  have Gx:=Gm.drewN nq;have Mm:Hid (Below w w (wp.drewN nq)):=Cy PJ.out nq;generalize wp.drewN nq=O at*
  go_wp2
  have RN:Hid (s.fr.take (i)++[(f,n')]++s.fr.drop (i)=R):=by
   unfold Hid;rw[HR.out];unfold GH;rw[KZ V4.out,TL.out]
  have aa:w.heap.size<O.heap.size:=Gx.lt;have c5:O.cell? (p,2)=AE (AJ A N c):=(H.out.2.1.below Mm.out Hl).cell 2;obtain⟨b0,b1⟩:=Gx.q2;have Xg:p<O.heap.size:=a5;have EV:∀W,W=O.drew.alloc (AK #[f,n'] 100)->Hid (Below w w W):=λW e=>by subst e;exact(Cy Mm.out 1).alloc (by have:=Mm.out.size;exact this) _
  have FR:∀W,W=O.drew.alloc (AK #[f,n'] 100)->Hid (Calls AP 107 #[AJ A N c,AA AB ((i:Int)),AA AB ((i:Int)),AJ O 1 1] W (JD W (AJ A N c) R)):=λW e=>by
   have NV:=Dw H.out.2.2.1 (EV W e).out;rw[HN.out]at NV;have Ig:Fi W O 1 1 [(f,n')] [f,n']:=⟨by subst e;exact heap_alloc_new O.drew _,rfl,AQ _,a5,rfl,rfl⟩;have EN:=EP W (i:=i) (j:=i) NV Ig.own (λk hk e2=>by have h1:=(H.out.2.2.1.lt k hk).2;(have e3:O.heap.size=k:=by simpa [Bp]using e2);omega) a5 a5 a5 a5;rw[RN.out]at EN;have Fk:((i:Nat):Int)=(i:Int):=a5;have GW:((i:Nat):Int)=(i:Int):=a5
   first|rw[Fk,GW]at EN|rw[Fk]at EN
   exact EN
  have FR:=FR _ rfl;have EV:=EV _ rfl;have HC:Hid (∀v' J,JD (O.drew.alloc (AK #[f,n'] 100)) (AJ A N c) R (AH v') J->∃G',JY (J.setCell (p,2) v') G' p {s with fr:=R}/\DG G w (J.setCell (p,2) v')/\∀k,G' k->G k\/w<=k):=λv' J Q=>Gc H.out EV.out Q JB.out;have Lz:Hid (∀v' J,JD (O.drew.alloc (AK #[f,n'] 100)) (AJ A N c) R (AH v') J->J.cell? (p,2)=AE (AJ A N c)/\J.frozen? (p,2)=false):=λv' J Q=>by have:=Ek H.out EV.out Q;exact⟨this.cell 2,this.free 2⟩
  go_wp2
  go_region_with (go_at_call 107;refine FR.out.mono ?_;rintro e J Q;obtain⟨v',rfl,Hz,FT,IZ⟩:=id Q;have HX:=AO (HC.out v' J Q);obtain⟨c6,f6⟩:=Lz.out v' J Q;obtain⟨A',c',rfl,_,_,_⟩:=DI Hz;clear Q Hz FT IZ)
  all_goals(go_wp2;go_end0;obtain⟨G',h1,h2,h3⟩:=HX.out;exact⟨G',rfl,h1,h2,h3⟩)
theorem sy(p:Nat)(s:Sp)(G:Nat->Prop)(i f n':Nat)(w:World)(h:JY w G p s)(hi:i=EH s.fr f)(h1:s.first<=f)(h2:f+n'<=s.first+s.blocks)(hn:1<=n')(ar:∀b,f<=b->b<f+n'->¬hasB s.fr b)(Oo:0<i)(Z7:(DZ s.fr (i-1)).1+(DZ s.fr (i-1)).2≠f):
  Calls AP 82 #[AI (AE ⟨p,0,AD⟩),AA AB i,AL #[AA AB f,AA AB n']] w λe w'=>∃G',e=AH (AM #[])/\JY w' G' p {s with fr:=GH s.fr i f n'}/\DG G w w'/\∀k,G' k->G k\/w.heap.size<=k:=by
 obtain⟨DK,v,hr,ho,hG⟩:=h;have KB:=Mz DK.2.2 hn h1 h2 ar;rw[<-hi]at KB;have aE:i<=s.fr.length:=by rw[hi];exact Cg
 clear hi ar;have Qw:s.first+s.blocks<=2000000:=by have:=DK.1;have:=DK.2.1;omega
 have SZ:∀k,k<s.fr.length->(DZ s.fr k).1+(DZ s.fr k).2<=2000000:=λk hk=>by have:=DK.2.2.getD hk;omega
 obtain⟨A,c,rfl,a6,Fu,_⟩:=DI ho;have hlen:=DK.len;have c2:w.cell? ⟨p,2,AD⟩=AE (AJ A s.fr.length c):=hr.cell 2;have Hl:=hr.lt;have Xj:=DK;have FX:∀k,k<s.fr.length->∃g,A=AE ⟨g,0,AD⟩/\g<w.heap.size/\w.cell? ⟨g,k*2,AD⟩=AE (AA AB (DZ s.fr k).1)/\w.cell? ⟨g,k*2+1,AD⟩=AE (AA AB (DZ s.fr k).2):=λk hk=>IK ho hk;have RO:=AO FX;obtain⟨N,hN⟩:=ae s.fr.length;have H0:xj w G p s (AJ A N c):=by subst hN;exact⟨DK,hr,ho,hG⟩
 obtain⟨R,hR⟩:=ae (GH s.fr i f n');have JB:Hid (({s with fr:=R}:Sp).ok):=by rw[hR];exact⟨DK.1,DK.2.1,KB.1⟩
 rw[<-hR];have HR:=AO hR;have H:=AO H0;have HN:Hid (s.fr.length=N):=hN.symm;have bI:=AO SZ;rw[<-hN]at c2 hlen aE;have Qy:f+n'<=2000000:=a5;have K9:Hid (Below w.heap.size w (w.alloc (AK #[AA AB f,AA AB n'] 100))):=(AS _ _).alloc ao _;clear KB DK hr ho hG FX H0 hN hR Qw SZ Xj h1 h2;obtain⟨j,rfl⟩:∃j,i=j+1:=⟨i-1,a5⟩;obtain⟨g0,rfl,av,yu,yt⟩:=RO.out j (by rw[HN.out];omega);have zq:=bI.out j (by rw[HN.out];omega);obtain⟨a0,RG⟩:=al ((DZ s.fr j).1);obtain⟨b0,aa⟩:=al ((DZ s.fr j).2);rw[RG]at yu;rw[aa]at yt;rw[RG,aa]at zq;have RP:=AO RG;have YU:=AO aa;obtain⟨u0,qD⟩:=al (a0+b0);have aw:Hid (∀W,Calls AP 81 #[AL #[AA AB a0,AA AB b0]] W λe w'=>e=AH (AA AB (u0:Nat))/\Below W.heap.size W w'):=λW=>by have:=Io a0 b0 W a5;rwa [qD]at this
 have vG:=AO qD;have Ot:Row (w.alloc (AK #[AA AB f,AA AB n'] 100)) w.heap.size 100 [AA AB f,AA AB n']:=heap_alloc_new _ _;have a1:(0:Int)<=(j:Int):=a5;have aY:(j:Int)<(N:Int):=a5;have aX:Aa.wrap ((j:Int)+1-1)=(j:Int):=by rw[show (j:Int)+1-1=j by omega];exact Ah _ a5
 have aK:Aa.wrap (j:Int)=(j:Int):=Ah _ a5;clear qD RG aa;have aD:¬u0=f:=by rw[BQ,RP.out,YU.out,vG.out]at Z7;exact Z7
 clear Z7;have aC:decide (u0=f)=false:=by simp;omega
 have aB:(u0==f)=false:=by simp;omega
 have aA:((u0:Int)==(f:Int))=false:=by simp;omega
 have V4:Hid (0<j+1->(DZ s.fr (j+1-1)).1+(DZ s.fr (j+1-1)).2≠f):=λ_=>by rw[BQ,RP.out,YU.out,vG.out];exact aD
 have vW:Hid (f+n'=f+n'):=rfl;go_enter func82,ntmps82
 go_wp2
 generalize w.alloc (AK #[AA AB f,AA AB n'] 100)=wb at*
 have jH:=K9;have xd:wb.cell? ⟨p,2,AD⟩=AE (AJ (AE ⟨g0,0,AD⟩) N c):=(H.out.2.1.below jH.out Hl).cell 2;have ab:wb.cell? ⟨w.heap.size,0,AD⟩=AE (AA AB f):=Ot.cell 0;have XV:=(jH.out.cell (p:=⟨g0,j*2,AD⟩) av).trans yu;have XU:=(jH.out.cell (p:=⟨g0,j*2+1,AD⟩) av).trans yt;have Xb:w.heap.size<wb.heap.size:=Ot.lt;have gJ:p<wb.heap.size:=a5;have Vg:g0<wb.heap.size:=a5;go_region_held3 (λw'=>Below wb.heap.size wb w'/\w'.cell? ⟨p,2,AD⟩=AE (AJ (AE ⟨g0,0,AD⟩) N c)/\w'.cell? ⟨w.heap.size,0,AD⟩=AE (AA AB f)/\w'.cell? ⟨g0,j*2,AD⟩=AE (AA AB a0)/\w'.cell? ⟨g0,j*2+1,AD⟩=AE (AA AB b0))
  (first
   |(exact⟨Cy (AS _ _) 1,xd,ab,XV,XU⟩)
   |(exact⟨I,(I.cell gJ).trans xd,(I.cell Xb).trans ab,(I.cell Vg).trans XV,(I.cell Vg).trans XU⟩))
  ((go_split_ands;go_at_call 81;(with_reducible refine(aw.out _).mono ?_);rintro e qg ⟨rfl,D9⟩;have I:Below wb.heap.size wb qg:=CM a9 (CO D9 (CN a9))))
 have Ou:=Ot.below I Xb;have pX:=AO (jH.out.trans (I.mono jH.out.size));have Us:=AO I;clear I;generalize qg=wp at*
 have Gm:=Ou;have PJ:=pX;clear Us Ou pX xd ab XV XU Xb gJ Vg Ot jH K9 aC aB aA aw vG RP YU yu yt;go_wp2
 by_cases m7:(j+1)<N
 ·obtain⟨U,N5,FT,cV,Kr⟩:=RO.out ((j+1)) (by rw[HN.out];exact m7);have Sa:=bI.out ((j+1)) (by rw[HN.out];exact m7);obtain rfl:U=g0:=by injection N5 with N5;injection N5 with N5;exact N5.symm
  obtain⟨a2,QV⟩:=al ((DZ s.fr ((j+1))).1);obtain⟨b2,DN⟩:=al ((DZ s.fr ((j+1))).2);rw[QV]at cV;rw[DN]at Kr;rw[QV,DN]at Sa;have V8:=AO QV;have TS:=AO DN;obtain⟨u2,Ph⟩:=al (f+n');have PI:Hid (∀W,Calls AP 81 #[AL #[AA AB f,AA AB n']] W λe w'=>e=AH (AA AB (u2:Nat))/\Below W.heap.size W w'):=λW=>by have:=Io (f) (n') W a5;rwa [Ph]at this
  have Tz:=AO Ph;have QY:wp.cell? ⟨p,2,AD⟩=AE (AJ (AE ⟨U,0,AD⟩) N c):=(H.out.2.1.below PJ.out Hl).cell 2;have Uj:wp.cell? ⟨w.heap.size,0,AD⟩=AE (AA AB f):=Gm.cell 0;have TH:wp.cell? ⟨w.heap.size,1,AD⟩=AE (AA AB n'):=Gm.cell 1;have Sq:=(PJ.out.cell (p:=⟨U,((j+1))*2,AD⟩) FT).trans cV;have So:=(PJ.out.cell (p:=⟨U,((j+1))*2+1,AD⟩) FT).trans Kr;have IM:w.heap.size<wp.heap.size:=Gm.lt;have Kn:p<wp.heap.size:=a5;have Ix:U<wp.heap.size:=a5;have vu:((j:Int)+1:Int)<(N:Int):=a5;have vv:(0:Int)<=((j:Int)+1:Int):=a5;have rg:decide (((j:Int)+1:Int)<(N:Int))=true:=by simp;omega
  have lJ:decide ((j+1)<N)=true:=by simp;omega
  clear Ph QV DN;by_cases GL:a2=u2
  ·have rt:decide (a2=u2)=true:=by simp;omega
   have lA:(a2==u2)=true:=by simp;omega
   have kz:((a2:Int)==(u2:Int))=true:=by simp;omega
   obtain⟨n2,PO⟩:=ae (n'+b2);have Ov:(n':Int)+(b2:Int)=(n2:Int):=a5;have GK:Aa.wrap (n2:Int)=(n2:Int):=Ah _ a5;have a3:Aa.wrap (((j:Int)+1:Int)+1)=((j:Int)+1:Int)+1:=Ah _ a5;have TL:Hid (Fp s.fr ((j+1)) (f+n')=true):=RZ (by rw[HN.out];exact m7) (by rw[V8.out];have:=Tz.out;have:=vW.out;omega);have pM:=AO PO;clear PO;go_region_held3 (λw'=>Below wp.heap.size wp w'/\w'.cell? ⟨p,2,AD⟩=AE (AJ (AE ⟨U,0,AD⟩) N c)/\w'.cell? ⟨w.heap.size,0,AD⟩=AE (AA AB f)/\w'.cell? ⟨w.heap.size,1,AD⟩=AE (AA AB n')/\w'.cell? ⟨U,((j+1))*2,AD⟩=AE (AA AB a2)/\w'.cell? ⟨U,((j+1))*2+1,AD⟩=AE (AA AB b2))
    (first
     |(exact⟨Cy (AS _ _) 1,QY,Uj,TH,Sq,So⟩)
     |(exact⟨I,(I.cell Kn).trans QY,(I.cell IM).trans Uj,(I.cell IM).trans TH,(I.cell Ix).trans Sq,(I.cell Ix).trans So⟩))
    ((go_split_ands;go_at_call 81;(with_reducible refine(PI.out _).mono ?_);rintro e WU ⟨rfl,D9⟩;have I:Below wp.heap.size wp WU:=CM a9 (CO D9 (CN a9))))
   have Iy:=Gm.below I IM;have PK:=AO (PJ.out.trans (I.mono PJ.out.size));have LB:=AO I;clear I;have aI:=(LB.out.cell (p:=⟨p,2,AD⟩) Kn).trans QY;have aH:=(LB.out.cell (p:=⟨U,((j+1))*2,AD⟩) Ix).trans Sq;have aG:=(LB.out.cell (p:=⟨U,((j+1))*2+1,AD⟩) Ix).trans So;have aJ:=(LB.out.cell (p:=⟨w.heap.size,1,AD⟩) IM).trans TH;have aF:=Iy.free 1;generalize WU=Yy at*
   go_wp2
   go_region
   have Gx:Row (Yy.setCell ⟨w.heap.size,1,AD⟩ (AA AB n2)).drew w.heap.size 100 [AA AB f,AA AB n2]:=(Iy.set 1 (AA AB n2)).drewN 1;have Mm:Hid (Below w.heap.size w (Yy.setCell ⟨w.heap.size,1,AD⟩ (AA AB n2)).drew):=Cy (PK.out.setCell (p:=⟨w.heap.size,1,AD⟩) ao _) 1;clear aI aH aG aJ aF LB PK Iy;generalize(Yy.setCell ⟨w.heap.size,1,AD⟩ (AA AB n2)).drew=J at*
   go_wp2
   have RN:Hid (s.fr.take ((j+1))++[(f,n2)]++s.fr.drop ((j+1)+1)=R):=by
    unfold Hid;rw[HR.out];unfold GH;rw[KZ V4.out,TL.out];dsimp only;rw[pM.out,TS.out]
   have ad:w.heap.size<J.heap.size:=Gx.lt;have c5:J.cell? ⟨p,2,AD⟩=AE (AJ (AE ⟨U,0,AD⟩) N c):=(H.out.2.1.below Mm.out Hl).cell 2;have b0:J.cell? ⟨w.heap.size,0,AD⟩=AE (AA AB f):=Gx.cell 0;have b1:J.cell? ⟨w.heap.size,1,AD⟩=AE (AA AB n2):=Gx.cell 1;have Xg:p<J.heap.size:=a5;have EV:∀W,W=J.drew.alloc (AK #[AA AB f,AA AB n2] 100)->Hid (Below w.heap.size w W):=λW e=>by subst e;exact(Cy Mm.out 1).alloc (by have:=Mm.out.size;exact this) _
   have FR:∀W,W=J.drew.alloc (AK #[AA AB f,AA AB n2] 100)->Hid (Calls AP 107 #[AJ (AE ⟨U,0,AD⟩) N c,AA AB ((j:Int)+1),AA AB ((j:Int)+1+1),AJ (AE ⟨J.heap.size,0,AD⟩) 1 1] W (JD W (AJ (AE ⟨U,0,AD⟩) N c) R)):=λW e=>by
    have NV:=Dw H.out.2.2.1 (EV W e).out;rw[HN.out]at NV;have Ig:Fi W J.heap.size 1 1 [(f,n2)] [AA AB f,AA AB n2]:=⟨by subst e;exact heap_alloc_new J.drew _,rfl,AQ _,a5,rfl,rfl⟩;have EN:=EP W (i:=(j+1)) (j:=(j+1)+1) NV Ig.own (λk hk e2=>by have h1:=(H.out.2.2.1.lt k hk).2;(have e3:J.heap.size=k:=by simpa [Bp]using e2);omega) a5 a5 a5 a5;rw[RN.out]at EN;have Fk:(((j+1):Nat):Int)=(j:Int)+1:=a5;have GW:(((j+1)+1:Nat):Int)=(j:Int)+1+1:=a5
    first|rw[Fk,GW]at EN|rw[Fk]at EN
    exact EN
   have FR:=FR _ rfl;have EV:=EV _ rfl;have HC:Hid (∀v' O,JD (J.drew.alloc (AK #[AA AB f,AA AB n2] 100)) (AJ (AE ⟨U,0,AD⟩) N c) R (AH v') O->∃G',JY (O.setCell ⟨p,2,AD⟩ v') G' p {s with fr:=R}/\DG G w (O.setCell ⟨p,2,AD⟩ v')/\∀k,G' k->G k\/w.heap.size<=k):=λv' O Q=>Gc H.out EV.out Q JB.out;clear TL rt lA kz vv vu rg lJ QY Uj TH Kn Ix IM Sq So cV Kr PI Tz V8 TS Sa FT;have Lz:Hid (∀v' O,JD (J.drew.alloc (AK #[AA AB f,AA AB n2] 100)) (AJ (AE ⟨U,0,AD⟩) N c) R (AH v') O->O.cell? ⟨p,2,AD⟩=AE (AJ (AE ⟨U,0,AD⟩) N c)/\O.frozen? ⟨p,2,AD⟩=false):=λv' O Q=>by have:=Ek H.out EV.out Q;exact⟨this.cell 2,this.free 2⟩
   go_wp2
   go_region_with (go_at_call 107;refine FR.out.mono ?_;rintro e O Q;obtain⟨v',rfl,Hz,FT,IZ⟩:=id Q;have HX:=AO (HC.out v' O Q);obtain⟨c6,f6⟩:=Lz.out v' O Q;obtain⟨A',c',rfl,_,_,_⟩:=DI Hz;clear Q Hz FT IZ)
   all_goals(go_wp2;go_end0;obtain⟨G',h1,h2,h3⟩:=HX.out;exact⟨G',rfl,h1,h2,h3⟩)
  ·have rt:decide (a2=u2)=false:=by simp;omega
   have lA:(a2==u2)=false:=by simp;omega
   have kz:((a2:Int)==(u2:Int))=false:=by simp;omega
   have TL:Hid (Fp s.fr ((j+1)) (f+n')=false):=KY λ_=>by rw[V8.out];have:=Tz.out;have:=vW.out;omega
   go_wp2
   go_region_held3 (λw'=>Below wp.heap.size wp w'/\w'.cell? ⟨p,2,AD⟩=AE (AJ (AE ⟨U,0,AD⟩) N c)/\w'.cell? ⟨w.heap.size,0,AD⟩=AE (AA AB f)/\w'.cell? ⟨w.heap.size,1,AD⟩=AE (AA AB n')/\w'.cell? ⟨U,((j+1))*2,AD⟩=AE (AA AB a2)/\w'.cell? ⟨U,((j+1))*2+1,AD⟩=AE (AA AB b2))
    (first
     |(exact⟨Cy (AS _ _) 1,QY,Uj,TH,Sq,So⟩)
     |(exact⟨I,(I.cell Kn).trans QY,(I.cell IM).trans Uj,(I.cell IM).trans TH,(I.cell Ix).trans Sq,(I.cell Ix).trans So⟩))
    ((go_split_ands;go_at_call 81;(with_reducible refine(PI.out _).mono ?_);rintro e WU ⟨rfl,D9⟩;have I:Below wp.heap.size wp WU:=CM a9 (CO D9 (CN a9))))
   have Iy:=Gm.below I IM;have PK:=AO (PJ.out.trans (I.mono PJ.out.size));have LB:=AO I;clear I;generalize WU=J at*
   have Mm:=PK;have Gx:=Iy;go_wp2
   have RN:Hid (s.fr.take ((j+1))++[(f,n')]++s.fr.drop ((j+1))=R):=by
    unfold Hid;rw[HR.out];unfold GH;rw[KZ V4.out,TL.out]
   have ad:w.heap.size<J.heap.size:=Gx.lt;have c5:J.cell? ⟨p,2,AD⟩=AE (AJ (AE ⟨U,0,AD⟩) N c):=(H.out.2.1.below Mm.out Hl).cell 2;have b0:J.cell? ⟨w.heap.size,0,AD⟩=AE (AA AB f):=Gx.cell 0;have b1:J.cell? ⟨w.heap.size,1,AD⟩=AE (AA AB n'):=Gx.cell 1;have Xg:p<J.heap.size:=a5;have EV:∀W,W=J.drew.alloc (AK #[AA AB f,AA AB n'] 100)->Hid (Below w.heap.size w W):=λW e=>by subst e;exact(Cy Mm.out 1).alloc (by have:=Mm.out.size;exact this) _
   have FR:∀W,W=J.drew.alloc (AK #[AA AB f,AA AB n'] 100)->Hid (Calls AP 107 #[AJ (AE ⟨U,0,AD⟩) N c,AA AB ((j:Int)+1),AA AB ((j:Int)+1),AJ (AE ⟨J.heap.size,0,AD⟩) 1 1] W (JD W (AJ (AE ⟨U,0,AD⟩) N c) R)):=λW e=>by
    have NV:=Dw H.out.2.2.1 (EV W e).out;rw[HN.out]at NV;have Ig:Fi W J.heap.size 1 1 [(f,n')] [AA AB f,AA AB n']:=⟨by subst e;exact heap_alloc_new J.drew _,rfl,AQ _,a5,rfl,rfl⟩;have EN:=EP W (i:=(j+1)) (j:=(j+1)) NV Ig.own (λk hk e2=>by have h1:=(H.out.2.2.1.lt k hk).2;(have e3:J.heap.size=k:=by simpa [Bp]using e2);omega) a5 a5 a5 a5;rw[RN.out]at EN;have Fk:(((j+1):Nat):Int)=(j:Int)+1:=a5;have GW:(((j+1):Nat):Int)=(j:Int)+1:=a5
    first|rw[Fk,GW]at EN|rw[Fk]at EN
    exact EN
   have FR:=FR _ rfl;have EV:=EV _ rfl;have HC:Hid (∀v' O,JD (J.drew.alloc (AK #[AA AB f,AA AB n'] 100)) (AJ (AE ⟨U,0,AD⟩) N c) R (AH v') O->∃G',JY (O.setCell ⟨p,2,AD⟩ v') G' p {s with fr:=R}/\DG G w (O.setCell ⟨p,2,AD⟩ v')/\∀k,G' k->G k\/w.heap.size<=k):=λv' O Q=>Gc H.out EV.out Q JB.out;clear TL rt lA kz vv vu rg lJ QY Uj TH Kn Ix IM Sq So cV Kr PI Tz V8 TS Sa FT;have Lz:Hid (∀v' O,JD (J.drew.alloc (AK #[AA AB f,AA AB n'] 100)) (AJ (AE ⟨U,0,AD⟩) N c) R (AH v') O->O.cell? ⟨p,2,AD⟩=AE (AJ (AE ⟨U,0,AD⟩) N c)/\O.frozen? ⟨p,2,AD⟩=false):=λv' O Q=>by have:=Ek H.out EV.out Q;exact⟨this.cell 2,this.free 2⟩
   go_wp2
   go_region_with (go_at_call 107;refine FR.out.mono ?_;rintro e O Q;obtain⟨v',rfl,Hz,FT,IZ⟩:=id Q;have HX:=AO (HC.out v' O Q);obtain⟨c6,f6⟩:=Lz.out v' O Q;obtain⟨A',c',rfl,_,_,_⟩:=DI Hz;clear Q Hz FT IZ)
   all_goals(go_wp2;go_end0;obtain⟨G',h1,h2,h3⟩:=HX.out;exact⟨G',rfl,h1,h2,h3⟩)
 ·have rg:decide (((j:Int)+1:Int)<(N:Int))=false:=by simp;omega
  have lJ:decide ((j+1)<N)=false:=by simp;omega
  have TL:Hid (Fp s.fr ((j+1)) (f+n')=false):=KY λhh=>by rw[HN.out]at hh;omega
  have QY:wp.cell? ⟨p,2,AD⟩=AE (AJ (AE ⟨g0,0,AD⟩) N c):=(H.out.2.1.below PJ.out Hl).cell 2;have Kn:p<wp.heap.size:=by have:=Gm.lt;omega
  go_quiet (fail)
  have Gx:=Gm.drewN nq;have Mm:Hid (Below w.heap.size w (wp.drewN nq)):=Cy PJ.out nq;generalize wp.drewN nq=J at*
  go_wp2
  have RN:Hid (s.fr.take ((j+1))++[(f,n')]++s.fr.drop ((j+1))=R):=by
   unfold Hid;rw[HR.out];unfold GH;rw[KZ V4.out,TL.out]
  have ad:w.heap.size<J.heap.size:=Gx.lt;have c5:J.cell? ⟨p,2,AD⟩=AE (AJ (AE ⟨g0,0,AD⟩) N c):=(H.out.2.1.below Mm.out Hl).cell 2;have b0:J.cell? ⟨w.heap.size,0,AD⟩=AE (AA AB f):=Gx.cell 0;have b1:J.cell? ⟨w.heap.size,1,AD⟩=AE (AA AB n'):=Gx.cell 1;have Xg:p<J.heap.size:=a5;have EV:∀W,W=J.drew.alloc (AK #[AA AB f,AA AB n'] 100)->Hid (Below w.heap.size w W):=λW e=>by subst e;exact(Cy Mm.out 1).alloc (by have:=Mm.out.size;exact this) _
  have FR:∀W,W=J.drew.alloc (AK #[AA AB f,AA AB n'] 100)->Hid (Calls AP 107 #[AJ (AE ⟨g0,0,AD⟩) N c,AA AB ((j:Int)+1),AA AB ((j:Int)+1),AJ (AE ⟨J.heap.size,0,AD⟩) 1 1] W (JD W (AJ (AE ⟨g0,0,AD⟩) N c) R)):=λW e=>by
   have NV:=Dw H.out.2.2.1 (EV W e).out;rw[HN.out]at NV;have Ig:Fi W J.heap.size 1 1 [(f,n')] [AA AB f,AA AB n']:=⟨by subst e;exact heap_alloc_new J.drew _,rfl,AQ _,a5,rfl,rfl⟩;have EN:=EP W (i:=(j+1)) (j:=(j+1)) NV Ig.own (λk hk e2=>by have h1:=(H.out.2.2.1.lt k hk).2;(have e3:J.heap.size=k:=by simpa [Bp]using e2);omega) a5 a5 a5 a5;rw[RN.out]at EN;have Fk:(((j+1):Nat):Int)=(j:Int)+1:=a5;have GW:(((j+1):Nat):Int)=(j:Int)+1:=a5
   first|rw[Fk,GW]at EN|rw[Fk]at EN
   exact EN
  have FR:=FR _ rfl;have EV:=EV _ rfl;have HC:Hid (∀v' O,JD (J.drew.alloc (AK #[AA AB f,AA AB n'] 100)) (AJ (AE ⟨g0,0,AD⟩) N c) R (AH v') O->∃G',JY (O.setCell ⟨p,2,AD⟩ v') G' p {s with fr:=R}/\DG G w (O.setCell ⟨p,2,AD⟩ v')/\∀k,G' k->G k\/w.heap.size<=k):=λv' O Q=>Gc H.out EV.out Q JB.out;have Lz:Hid (∀v' O,JD (J.drew.alloc (AK #[AA AB f,AA AB n'] 100)) (AJ (AE ⟨g0,0,AD⟩) N c) R (AH v') O->O.cell? ⟨p,2,AD⟩=AE (AJ (AE ⟨g0,0,AD⟩) N c)/\O.frozen? ⟨p,2,AD⟩=false):=λv' O Q=>by have:=Ek H.out EV.out Q;exact⟨this.cell 2,this.free 2⟩
  go_wp2
  go_region_with (go_at_call 107;refine FR.out.mono ?_;rintro e O Q;obtain⟨v',rfl,Hz,FT,IZ⟩:=id Q;have HX:=AO (HC.out v' O Q);obtain⟨c6,f6⟩:=Lz.out v' O Q;obtain⟨A',c',rfl,_,_,_⟩:=DI Hz;clear Q Hz FT IZ)
  all_goals(go_wp2;go_end0;obtain⟨G',h1,h2,h3⟩:=HX.out;exact⟨G',rfl,h1,h2,h3⟩)
theorem sw(p:Nat)(s:Sp)(G:Nat->Prop)(i f n':Nat)(w:World)(h:JY w G p s)(hi:i=EH s.fr f)(h1:s.first<=f)(h2:f+n'<=s.first+s.blocks)(hn:1<=n')(aD:∀b,f<=b->b<f+n'->¬hasB s.fr b)(Oo:0<i)(Z7:(DZ s.fr (i-1)).1+(DZ s.fr (i-1)).2=f):
  Calls AP 82 #[AI (AE ⟨p,0,AD⟩),AA AB i,AL #[AA AB f,AA AB n']] w λe w'=>∃G',e=AH (AM #[])/\JY w' G' p {s with fr:=GH s.fr i f n'}/\DG G w w'/\∀k,G' k->G k\/w.heap.size<=k:=by
 obtain⟨DK,v,hr,ho,hG⟩:=h;have KB:=Mz DK.2.2 hn h1 h2 aD;rw[<-hi]at KB;have aK:i<=s.fr.length:=by rw[hi];exact Cg
 clear hi aD;have Qw:s.first+s.blocks<=2000000:=by have:=DK.1;have:=DK.2.1;omega
 have SZ:∀k,k<s.fr.length->(DZ s.fr k).1+(DZ s.fr k).2<=2000000:=λk hk=>by have:=DK.2.2.getD hk;omega
 obtain⟨A,c,rfl,ba,Fu,_⟩:=DI ho;have hlen:=DK.len;have c2:w.cell? ⟨p,2,AD⟩=AE (AJ A s.fr.length c):=hr.cell 2;have Hl:=hr.lt;have Xj:=DK;have FX:∀k,k<s.fr.length->∃g,A=AE ⟨g,0,AD⟩/\g<w.heap.size/\w.cell? ⟨g,k*2,AD⟩=AE (AA AB (DZ s.fr k).1)/\w.cell? ⟨g,k*2+1,AD⟩=AE (AA AB (DZ s.fr k).2):=λk hk=>IK ho hk;have RO:=AO FX;obtain⟨N,hN⟩:=ae s.fr.length;have H0:xj w G p s (AJ A N c):=by subst hN;exact⟨DK,hr,ho,hG⟩
 obtain⟨R,hR⟩:=ae (GH s.fr i f n');have JB:Hid (({s with fr:=R}:Sp).ok):=by rw[hR];exact⟨DK.1,DK.2.1,KB.1⟩
 rw[<-hR];have HR:=AO hR;have H:=AO H0;have HN:Hid (s.fr.length=N):=hN.symm;have bI:=AO SZ;rw[<-hN]at c2 hlen aK;have Qy:f+n'<=2000000:=a5;have K9:Hid (Below w.heap.size w (w.alloc (AK #[AA AB f,AA AB n'] 100))):=(AS _ _).alloc ao _;clear KB DK hr ho hG FX H0 hN hR Qw SZ Xj h1 h2;obtain⟨j,rfl⟩:∃j,i=j+1:=⟨i-1,a5⟩;obtain⟨g0,rfl,aE,yu,yt⟩:=RO.out j (by rw[HN.out];omega);have zq:=bI.out j (by rw[HN.out];omega);obtain⟨J,RG⟩:=al ((DZ s.fr j).1);obtain⟨b0,aa⟩:=al ((DZ s.fr j).2);rw[RG]at yu;rw[aa]at yt;rw[RG,aa]at zq;have RP:=AO RG;have YU:=AO aa;obtain⟨u0,qD⟩:=al (J+b0);have aF:Hid (∀W,Calls AP 81 #[AL #[AA AB J,AA AB b0]] W λe w'=>e=AH (AA AB (u0:Nat))/\Below W.heap.size W w'):=λW=>by have:=Io J b0 W a5;rwa [qD]at this
 have vG:=AO qD;have Ot:Row (w.alloc (AK #[AA AB f,AA AB n'] 100)) w.heap.size 100 [AA AB f,AA AB n']:=heap_alloc_new _ _;have a7:(0:Int)<=(j:Int):=a5;have a6:(j:Int)<(N:Int):=a5;have a3:Aa.wrap ((j:Int)+1-1)=(j:Int):=by rw[show (j:Int)+1-1=j by omega];exact Ah _ a5
 have a1:Aa.wrap (j:Int)=(j:Int):=Ah _ a5;clear qD RG aa;have aJ:u0=f:=by rw[BQ,RP.out,YU.out,vG.out]at Z7;exact Z7
 clear Z7;have aI:decide (u0=f)=true:=by simp;omega
 have aH:(u0==f)=true:=by simp;omega
 have aG:((u0:Int)==(f:Int))=true:=by simp;omega
 obtain⟨U,Pp⟩:=ae (b0+n');have UP:(b0:Int)+(n':Int)=(U:Int):=a5;have Nv:Aa.wrap (U:Int)=(U:Int):=Ah _ (by have:=vG.out;omega);have V4:Hid ((DZ s.fr (j+1-1)).1+(DZ s.fr (j+1-1)).2=f):=by unfold Hid;rw[BQ,RP.out,YU.out,vG.out];exact aJ
 have yE:Hid ((DZ s.fr (j+1-1)).1=J):=by unfold Hid;rw[BQ];exact RP.out
 have aB:Hid ((DZ s.fr (j+1-1)).2+n'=U):=by unfold Hid;rw[BQ,YU.out];exact Pp.symm
 have vW:Hid (f+n'=J+U):=by unfold Hid;have:=vG.out;omega
 have bb:J+U<=2000000:=by have:=vW.out;omega
 clear Pp;go_enter func82,ntmps82
 go_wp2
 generalize w.alloc (AK #[AA AB f,AA AB n'] 100)=wb at*
 have jH:=K9;have xd:wb.cell? ⟨p,2,AD⟩=AE (AJ (AE ⟨g0,0,AD⟩) N c):=(H.out.2.1.below jH.out Hl).cell 2;have aA:wb.cell? ⟨w.heap.size,0,AD⟩=AE (AA AB f):=Ot.cell 0;have XV:=(jH.out.cell (p:=⟨g0,j*2,AD⟩) aE).trans yu;have XU:=(jH.out.cell (p:=⟨g0,j*2+1,AD⟩) aE).trans yt;have Xb:w.heap.size<wb.heap.size:=Ot.lt;have gJ:p<wb.heap.size:=a5;have Vg:g0<wb.heap.size:=a5;go_region_held3 (λw'=>Below wb.heap.size wb w'/\w'.cell? ⟨p,2,AD⟩=AE (AJ (AE ⟨g0,0,AD⟩) N c)/\w'.cell? ⟨w.heap.size,0,AD⟩=AE (AA AB f)/\w'.cell? ⟨g0,j*2,AD⟩=AE (AA AB J)/\w'.cell? ⟨g0,j*2+1,AD⟩=AE (AA AB b0))
  (first
   |(exact⟨Cy (AS _ _) 1,xd,aA,XV,XU⟩)
   |(exact⟨I,(I.cell gJ).trans xd,(I.cell Xb).trans aA,(I.cell Vg).trans XV,(I.cell Vg).trans XU⟩))
  ((go_split_ands;go_at_call 81;(with_reducible refine(aF.out _).mono ?_);rintro e qg ⟨rfl,D9⟩;have I:Below wb.heap.size wb qg:=CM a9 (CO D9 (CN a9))))
 have Ou:=Ot.below I Xb;have pX:=AO (jH.out.trans (I.mono jH.out.size));have Us:=AO I;clear I;have av:=(Us.out.cell (p:=⟨p,2,AD⟩) gJ).trans xd;have ar:=(Us.out.cell (p:=⟨g0,j*2,AD⟩) Vg).trans XV;have ad:=(Us.out.cell (p:=⟨g0,j*2+1,AD⟩) Vg).trans XU;have aw:qg.cell? ⟨w.heap.size,1,AD⟩=AE (AA AB n'):=Ou.cell 1;have aX:qg.cell? ⟨w.heap.size,0,AD⟩=AE (AA AB f):=Ou.cell 0;have ab:=Ou.free 1;have aY:=Ou.free 0;generalize qg=Yy at*
 clear xd aA XV XU;go_wp2
 go_region
 have Gm:Row ((Yy.setCell ⟨w.heap.size,0,AD⟩ (AA AB J)).setCell ⟨w.heap.size,1,AD⟩ (AA AB U)).drew w.heap.size 100 [AA AB J,AA AB U]:=((Ou.set 0 (AA AB J)).set 1 (AA AB U)).drewN 1;have PJ:Hid (Below w.heap.size w ((Yy.setCell ⟨w.heap.size,0,AD⟩ (AA AB J)).setCell ⟨w.heap.size,1,AD⟩ (AA AB U)).drew):=Cy ((pX.out.setCell (p:=⟨w.heap.size,0,AD⟩) ao _).setCell (p:=⟨w.heap.size,1,AD⟩) ao _) 1;clear av ar ad aw aX ab aY Us Ou pX Xb gJ Vg Ot jH K9 aI aH aG aF vG RP YU yu yt;generalize((Yy.setCell ⟨w.heap.size,0,AD⟩ (AA AB J)).setCell ⟨w.heap.size,1,AD⟩ (AA AB U)).drew=wp at*
 go_wp2
 by_cases m7:(j+1)<N
 ·obtain⟨g2,N5,FT,cV,Kr⟩:=RO.out ((j+1)) (by rw[HN.out];exact m7);have Sa:=bI.out ((j+1)) (by rw[HN.out];exact m7);obtain rfl:g2=g0:=by injection N5 with N5;injection N5 with N5;exact N5.symm
  obtain⟨a2,QV⟩:=al ((DZ s.fr ((j+1))).1);obtain⟨b2,DN⟩:=al ((DZ s.fr ((j+1))).2);rw[QV]at cV;rw[DN]at Kr;rw[QV,DN]at Sa;have V8:=AO QV;have TS:=AO DN;obtain⟨u2,Ph⟩:=al (J+U);have PI:Hid (∀W,Calls AP 81 #[AL #[AA AB J,AA AB U]] W λe w'=>e=AH (AA AB (u2:Nat))/\Below W.heap.size W w'):=λW=>by have:=Io (J) (U) W a5;rwa [Ph]at this
  have Tz:=AO Ph;have QY:wp.cell? ⟨p,2,AD⟩=AE (AJ (AE ⟨g2,0,AD⟩) N c):=(H.out.2.1.below PJ.out Hl).cell 2;have Uj:wp.cell? ⟨w.heap.size,0,AD⟩=AE (AA AB J):=Gm.cell 0;have TH:wp.cell? ⟨w.heap.size,1,AD⟩=AE (AA AB U):=Gm.cell 1;have Sq:=(PJ.out.cell (p:=⟨g2,((j+1))*2,AD⟩) FT).trans cV;have So:=(PJ.out.cell (p:=⟨g2,((j+1))*2+1,AD⟩) FT).trans Kr;have IM:w.heap.size<wp.heap.size:=Gm.lt;have Kn:p<wp.heap.size:=a5;have Ix:g2<wp.heap.size:=a5;have vu:((j:Int)+1:Int)<(N:Int):=a5;have vv:(0:Int)<=((j:Int)+1:Int):=a5;have rg:decide (((j:Int)+1:Int)<(N:Int))=true:=by simp;omega
  have lJ:decide ((j+1)<N)=true:=by simp;omega
  clear Ph QV DN;by_cases GL:a2=u2
  ·have rt:decide (a2=u2)=true:=by simp;omega
   have lA:(a2==u2)=true:=by simp;omega
   have kz:((a2:Int)==(u2:Int))=true:=by simp;omega
   obtain⟨n2,PO⟩:=ae (U+b2);have Ov:(U:Int)+(b2:Int)=(n2:Int):=a5;have GK:Aa.wrap (n2:Int)=(n2:Int):=Ah _ a5;have a8:Aa.wrap (((j:Int)+1:Int)+1)=((j:Int)+1:Int)+1:=Ah _ a5;have TL:Hid (Fp s.fr ((j+1)) (f+n')=true):=RZ (by rw[HN.out];exact m7) (by rw[V8.out];have:=Tz.out;have:=vW.out;omega);have pM:=AO PO;clear PO;go_region_held3 (λw'=>Below wp.heap.size wp w'/\w'.cell? ⟨p,2,AD⟩=AE (AJ (AE ⟨g2,0,AD⟩) N c)/\w'.cell? ⟨w.heap.size,0,AD⟩=AE (AA AB J)/\w'.cell? ⟨w.heap.size,1,AD⟩=AE (AA AB U)/\w'.cell? ⟨g2,((j+1))*2,AD⟩=AE (AA AB a2)/\w'.cell? ⟨g2,((j+1))*2+1,AD⟩=AE (AA AB b2))
    (first
     |(exact⟨Cy (AS _ _) 1,QY,Uj,TH,Sq,So⟩)
     |(exact⟨I,(I.cell Kn).trans QY,(I.cell IM).trans Uj,(I.cell IM).trans TH,(I.cell Ix).trans Sq,(I.cell Ix).trans So⟩))
    ((go_split_ands;go_at_call 81;(with_reducible refine(PI.out _).mono ?_);rintro e WU ⟨rfl,D9⟩;have I:Below wp.heap.size wp WU:=CM a9 (CO D9 (CN a9))))
   have Iy:=Gm.below I IM;have PK:=AO (PJ.out.trans (I.mono PJ.out.size));have LB:=AO I;clear I;have av:=(LB.out.cell (p:=⟨p,2,AD⟩) Kn).trans QY;have ar:=(LB.out.cell (p:=⟨g2,((j+1))*2,AD⟩) Ix).trans Sq;have ad:=(LB.out.cell (p:=⟨g2,((j+1))*2+1,AD⟩) Ix).trans So;have aw:=(LB.out.cell (p:=⟨w.heap.size,1,AD⟩) IM).trans TH;have ab:=Iy.free 1;generalize WU=Yy at*
   go_wp2
   go_region
   have Gx:Row (Yy.setCell ⟨w.heap.size,1,AD⟩ (AA AB n2)).drew w.heap.size 100 [AA AB J,AA AB n2]:=(Iy.set 1 (AA AB n2)).drewN 1;have Mm:Hid (Below w.heap.size w (Yy.setCell ⟨w.heap.size,1,AD⟩ (AA AB n2)).drew):=Cy (PK.out.setCell (p:=⟨w.heap.size,1,AD⟩) ao _) 1;clear av ar ad aw ab LB PK Iy;generalize(Yy.setCell ⟨w.heap.size,1,AD⟩ (AA AB n2)).drew=O at*
   go_wp2
   have RN:Hid (s.fr.take (j)++[(J,n2)]++s.fr.drop ((j+1)+1)=R):=by
    unfold Hid;rw[HR.out];unfold GH;rw[Ra a5 V4.out,TL.out];dsimp only;rw[yE.out,aB.out,pM.out,TS.out];simp
   have aC:w.heap.size<O.heap.size:=Gx.lt;have c5:O.cell? ⟨p,2,AD⟩=AE (AJ (AE ⟨g2,0,AD⟩) N c):=(H.out.2.1.below Mm.out Hl).cell 2;have b0:O.cell? ⟨w.heap.size,0,AD⟩=AE (AA AB J):=Gx.cell 0;have b1:O.cell? ⟨w.heap.size,1,AD⟩=AE (AA AB n2):=Gx.cell 1;have Xg:p<O.heap.size:=a5;have EV:∀W,W=O.drew.alloc (AK #[AA AB J,AA AB n2] 100)->Hid (Below w.heap.size w W):=λW e=>by subst e;exact(Cy Mm.out 1).alloc (by have:=Mm.out.size;exact this) _
   have FR:∀W,W=O.drew.alloc (AK #[AA AB J,AA AB n2] 100)->Hid (Calls AP 107 #[AJ (AE ⟨g2,0,AD⟩) N c,AA AB ((j:Int)),AA AB ((j:Int)+1+1),AJ (AE ⟨O.heap.size,0,AD⟩) 1 1] W (JD W (AJ (AE ⟨g2,0,AD⟩) N c) R)):=λW e=>by
    have NV:=Dw H.out.2.2.1 (EV W e).out;rw[HN.out]at NV;have Ig:Fi W O.heap.size 1 1 [(J,n2)] [AA AB J,AA AB n2]:=⟨by subst e;exact heap_alloc_new O.drew _,rfl,AQ _,a5,rfl,rfl⟩;have EN:=EP W (i:=j) (j:=(j+1)+1) NV Ig.own (λk hk e2=>by have h1:=(H.out.2.2.1.lt k hk).2;(have e3:O.heap.size=k:=by simpa [Bp]using e2);omega) a5 a5 a5 a5;rw[RN.out]at EN;have Fk:((j:Nat):Int)=(j:Int):=a5;have GW:(((j+1)+1:Nat):Int)=(j:Int)+1+1:=a5
    first|rw[Fk,GW]at EN|rw[Fk]at EN
    exact EN
   have FR:=FR _ rfl;have EV:=EV _ rfl;have HC:Hid (∀v' Q,JD (O.drew.alloc (AK #[AA AB J,AA AB n2] 100)) (AJ (AE ⟨g2,0,AD⟩) N c) R (AH v') Q->∃G',JY (Q.setCell ⟨p,2,AD⟩ v') G' p {s with fr:=R}/\DG G w (Q.setCell ⟨p,2,AD⟩ v')/\∀k,G' k->G k\/w.heap.size<=k):=λv' Q hg=>Gc H.out EV.out hg JB.out;clear TL rt lA kz vv vu rg lJ QY Uj TH Kn Ix IM Sq So cV Kr PI Tz V8 TS Sa FT;have Lz:Hid (∀v' Q,JD (O.drew.alloc (AK #[AA AB J,AA AB n2] 100)) (AJ (AE ⟨g2,0,AD⟩) N c) R (AH v') Q->Q.cell? ⟨p,2,AD⟩=AE (AJ (AE ⟨g2,0,AD⟩) N c)/\Q.frozen? ⟨p,2,AD⟩=false):=λv' Q hg=>by have:=Ek H.out EV.out hg;exact⟨this.cell 2,this.free 2⟩
   go_wp2
   go_region_with (go_at_call 107;refine FR.out.mono ?_;rintro e Q hg;obtain⟨v',rfl,Hz,FT,IZ⟩:=id hg;have HX:=AO (HC.out v' Q hg);obtain⟨c6,f6⟩:=Lz.out v' Q hg;obtain⟨A',c',rfl,_,_,_⟩:=DI Hz;clear hg Hz FT IZ)
   all_goals(go_wp2;go_end0;obtain⟨G',h1,h2,h3⟩:=HX.out;exact⟨G',rfl,h1,h2,h3⟩)
  ·have rt:decide (a2=u2)=false:=by simp;omega
   have lA:(a2==u2)=false:=by simp;omega
   have kz:((a2:Int)==(u2:Int))=false:=by simp;omega
   have TL:Hid (Fp s.fr ((j+1)) (f+n')=false):=KY λ_=>by rw[V8.out];have:=Tz.out;have:=vW.out;omega
   go_wp2
   go_region_held3 (λw'=>Below wp.heap.size wp w'/\w'.cell? ⟨p,2,AD⟩=AE (AJ (AE ⟨g2,0,AD⟩) N c)/\w'.cell? ⟨w.heap.size,0,AD⟩=AE (AA AB J)/\w'.cell? ⟨w.heap.size,1,AD⟩=AE (AA AB U)/\w'.cell? ⟨g2,((j+1))*2,AD⟩=AE (AA AB a2)/\w'.cell? ⟨g2,((j+1))*2+1,AD⟩=AE (AA AB b2))
    (first
     |(exact⟨Cy (AS _ _) 1,QY,Uj,TH,Sq,So⟩)
     |(exact⟨I,(I.cell Kn).trans QY,(I.cell IM).trans Uj,(I.cell IM).trans TH,(I.cell Ix).trans Sq,(I.cell Ix).trans So⟩))
    ((go_split_ands;go_at_call 81;(with_reducible refine(PI.out _).mono ?_);rintro e WU ⟨rfl,D9⟩;have I:Below wp.heap.size wp WU:=CM a9 (CO D9 (CN a9))))
   have Iy:=Gm.below I IM;have PK:=AO (PJ.out.trans (I.mono PJ.out.size));have LB:=AO I;clear I;generalize WU=O at*
   have Mm:=PK;have Gx:=Iy;go_wp2
   have RN:Hid (s.fr.take (j)++[(J,U)]++s.fr.drop ((j+1))=R):=by
    unfold Hid;rw[HR.out];unfold GH;rw[Ra a5 V4.out,TL.out];dsimp only;rw[yE.out,aB.out];simp
   have aC:w.heap.size<O.heap.size:=Gx.lt;have c5:O.cell? ⟨p,2,AD⟩=AE (AJ (AE ⟨g2,0,AD⟩) N c):=(H.out.2.1.below Mm.out Hl).cell 2;have b0:O.cell? ⟨w.heap.size,0,AD⟩=AE (AA AB J):=Gx.cell 0;have b1:O.cell? ⟨w.heap.size,1,AD⟩=AE (AA AB U):=Gx.cell 1;have Xg:p<O.heap.size:=a5;have EV:∀W,W=O.drew.alloc (AK #[AA AB J,AA AB U] 100)->Hid (Below w.heap.size w W):=λW e=>by subst e;exact(Cy Mm.out 1).alloc (by have:=Mm.out.size;exact this) _
   have FR:∀W,W=O.drew.alloc (AK #[AA AB J,AA AB U] 100)->Hid (Calls AP 107 #[AJ (AE ⟨g2,0,AD⟩) N c,AA AB ((j:Int)),AA AB ((j:Int)+1),AJ (AE ⟨O.heap.size,0,AD⟩) 1 1] W (JD W (AJ (AE ⟨g2,0,AD⟩) N c) R)):=λW e=>by
    have NV:=Dw H.out.2.2.1 (EV W e).out;rw[HN.out]at NV;have Ig:Fi W O.heap.size 1 1 [(J,U)] [AA AB J,AA AB U]:=⟨by subst e;exact heap_alloc_new O.drew _,rfl,AQ _,a5,rfl,rfl⟩;have EN:=EP W (i:=j) (j:=(j+1)) NV Ig.own (λk hk e2=>by have h1:=(H.out.2.2.1.lt k hk).2;(have e3:O.heap.size=k:=by simpa [Bp]using e2);omega) a5 a5 a5 a5;rw[RN.out]at EN;have Fk:((j:Nat):Int)=(j:Int):=a5;have GW:(((j+1):Nat):Int)=(j:Int)+1:=a5
    first|rw[Fk,GW]at EN|rw[Fk]at EN
    exact EN
   have FR:=FR _ rfl;have EV:=EV _ rfl;have HC:Hid (∀v' Q,JD (O.drew.alloc (AK #[AA AB J,AA AB U] 100)) (AJ (AE ⟨g2,0,AD⟩) N c) R (AH v') Q->∃G',JY (Q.setCell ⟨p,2,AD⟩ v') G' p {s with fr:=R}/\DG G w (Q.setCell ⟨p,2,AD⟩ v')/\∀k,G' k->G k\/w.heap.size<=k):=λv' Q hg=>Gc H.out EV.out hg JB.out;clear TL rt lA kz vv vu rg lJ QY Uj TH Kn Ix IM Sq So cV Kr PI Tz V8 TS Sa FT;have Lz:Hid (∀v' Q,JD (O.drew.alloc (AK #[AA AB J,AA AB U] 100)) (AJ (AE ⟨g2,0,AD⟩) N c) R (AH v') Q->Q.cell? ⟨p,2,AD⟩=AE (AJ (AE ⟨g2,0,AD⟩) N c)/\Q.frozen? ⟨p,2,AD⟩=false):=λv' Q hg=>by have:=Ek H.out EV.out hg;exact⟨this.cell 2,this.free 2⟩
   go_wp2
   go_region_with (go_at_call 107;refine FR.out.mono ?_;rintro e Q hg;obtain⟨v',rfl,Hz,FT,IZ⟩:=id hg;have HX:=AO (HC.out v' Q hg);obtain⟨c6,f6⟩:=Lz.out v' Q hg;obtain⟨A',c',rfl,_,_,_⟩:=DI Hz;clear hg Hz FT IZ)
   all_goals(go_wp2;go_end0;obtain⟨G',h1,h2,h3⟩:=HX.out;exact⟨G',rfl,h1,h2,h3⟩)
 ·have rg:decide (((j:Int)+1:Int)<(N:Int))=false:=by simp;omega
  have lJ:decide ((j+1)<N)=false:=by simp;omega
  have TL:Hid (Fp s.fr ((j+1)) (f+n')=false):=KY λhh=>by rw[HN.out]at hh;omega
  have QY:wp.cell? ⟨p,2,AD⟩=AE (AJ (AE ⟨g0,0,AD⟩) N c):=(H.out.2.1.below PJ.out Hl).cell 2;have Kn:p<wp.heap.size:=by have:=Gm.lt;omega
  go_quiet (fail)
  have Gx:=Gm.drewN nq;have Mm:Hid (Below w.heap.size w (wp.drewN nq)):=Cy PJ.out nq;generalize wp.drewN nq=O at*
  go_wp2
  have RN:Hid (s.fr.take (j)++[(J,U)]++s.fr.drop ((j+1))=R):=by
   unfold Hid;rw[HR.out];unfold GH;rw[Ra a5 V4.out,TL.out];dsimp only;rw[yE.out,aB.out];simp
  have aC:w.heap.size<O.heap.size:=Gx.lt;have c5:O.cell? ⟨p,2,AD⟩=AE (AJ (AE ⟨g0,0,AD⟩) N c):=(H.out.2.1.below Mm.out Hl).cell 2;have b0:O.cell? ⟨w.heap.size,0,AD⟩=AE (AA AB J):=Gx.cell 0;have b1:O.cell? ⟨w.heap.size,1,AD⟩=AE (AA AB U):=Gx.cell 1;have Xg:p<O.heap.size:=a5;have EV:∀W,W=O.drew.alloc (AK #[AA AB J,AA AB U] 100)->Hid (Below w.heap.size w W):=λW e=>by subst e;exact(Cy Mm.out 1).alloc (by have:=Mm.out.size;exact this) _
  have FR:∀W,W=O.drew.alloc (AK #[AA AB J,AA AB U] 100)->Hid (Calls AP 107 #[AJ (AE ⟨g0,0,AD⟩) N c,AA AB ((j:Int)),AA AB ((j:Int)+1),AJ (AE ⟨O.heap.size,0,AD⟩) 1 1] W (JD W (AJ (AE ⟨g0,0,AD⟩) N c) R)):=λW e=>by
   have NV:=Dw H.out.2.2.1 (EV W e).out;rw[HN.out]at NV;have Ig:Fi W O.heap.size 1 1 [(J,U)] [AA AB J,AA AB U]:=⟨by subst e;exact heap_alloc_new O.drew _,rfl,AQ _,a5,rfl,rfl⟩;have EN:=EP W (i:=j) (j:=(j+1)) NV Ig.own (λk hk e2=>by have h1:=(H.out.2.2.1.lt k hk).2;(have e3:O.heap.size=k:=by simpa [Bp]using e2);omega) a5 a5 a5 a5;rw[RN.out]at EN;have Fk:((j:Nat):Int)=(j:Int):=a5;have GW:(((j+1):Nat):Int)=(j:Int)+1:=a5
   first|rw[Fk,GW]at EN|rw[Fk]at EN
   exact EN
  have FR:=FR _ rfl;have EV:=EV _ rfl;have HC:Hid (∀v' Q,JD (O.drew.alloc (AK #[AA AB J,AA AB U] 100)) (AJ (AE ⟨g0,0,AD⟩) N c) R (AH v') Q->∃G',JY (Q.setCell ⟨p,2,AD⟩ v') G' p {s with fr:=R}/\DG G w (Q.setCell ⟨p,2,AD⟩ v')/\∀k,G' k->G k\/w.heap.size<=k):=λv' Q hg=>Gc H.out EV.out hg JB.out;have Lz:Hid (∀v' Q,JD (O.drew.alloc (AK #[AA AB J,AA AB U] 100)) (AJ (AE ⟨g0,0,AD⟩) N c) R (AH v') Q->Q.cell? ⟨p,2,AD⟩=AE (AJ (AE ⟨g0,0,AD⟩) N c)/\Q.frozen? ⟨p,2,AD⟩=false):=λv' Q hg=>by have:=Ek H.out EV.out hg;exact⟨this.cell 2,this.free 2⟩
  go_wp2
  go_region_with (go_at_call 107;refine FR.out.mono ?_;rintro e Q hg;obtain⟨v',rfl,Hz,FT,IZ⟩:=id hg;have HX:=AO (HC.out v' Q hg);obtain⟨c6,f6⟩:=Lz.out v' Q hg;obtain⟨A',c',rfl,_,_,_⟩:=DI Hz;clear hg Hz FT IZ)
  all_goals(go_wp2;go_end0;obtain⟨G',h1,h2,h3⟩:=HX.out;exact⟨G',rfl,h1,h2,h3⟩)
theorem mH(p:Nat)(s:Sp)(G:Nat->Prop)(i f n':Nat)(w:World)(h:JY w G p s)(hi:i=EH s.fr f)(Q:s.first<=f)(O:f+n'<=s.first+s.blocks)(J:1<=n')(H:∀b,f<=b->b<f+n'->¬hasB s.fr b):
  Calls AP 82 #[AI p,i,AL #[f,n']] w λe w'=>∃G',e=AH (AM #[])/\JY w' G' p {s with fr:=GH s.fr i f n'}/\DG G w w'/\∀k,G' k->G k\/w<=k:=by
 by_cases U:0<i
 ·by_cases I:(DZ s.fr (i-1)).1+(DZ s.fr (i-1)).2=f
  ·exact sw p s G i f n' w h hi Q O J H U I
  ·exact sy p s G i f n' w h hi Q O J H U I
 ·exact tC p s G i f n' w h hi Q O J H U
theorem Next.refl{w G p s}(h:JY w G p s):Next w G p s w:=Next.DB h (AS _ _)
theorem Xv(p:Nat)(s:Sp)(G:Nat->Prop)(f n:Int)(w:World)(h:JY w G p s)(hf:Fg f)(hn:Fg n):
  Calls AP 63 #[AI p,f,n] w λe w'=>e=AH ((Ez s f n).2:Nat)/\Next w G p (Ez s f n).1 w':=by
 by_cases h1:n<1
 ·have g1:decide (n<1)=true:=by simpa using h1
  have J:Ez s f n=(s,1):=by unfold Ez;rw[if_pos (.inl h1)]
  rw[J];have HN:Hid (Next w G p s w):=Next.refl h;clear h h1 J;go_enter func63,ntmps63
  go_wp2
  go_ret
  exact⟨rfl,HN.out⟩
 have g1:decide (n<1)=false:=by simpa using h1
 obtain⟨DK,v,hr,ho,hG⟩:=id h;obtain⟨A,c,rfl,aB,Fu,_⟩:=DI ho;have hlen:=DK.len;have Qw:s.first+s.blocks<=2000000:=by have:=DK.1;have:=DK.2.1;omega
 obtain⟨c0,c1,c2⟩:=hr.q3;have Hl:=hr.lt;have HH:Hid (∀W,Calls AP 79 #[AL #[s.first,s.blocks],f,n] W λe w'=>e=AH (.bool (decide ((s.first:Int)<=f)&&decide (n<=((s.first+s.blocks:Nat):Int)-f)))/\Below W W w'):=λW=>UK s.first s.blocks f n W a5 hf;by_cases h2:¬((s.first:Int)<=f/\n<=((s.first+s.blocks:Nat):Int)-f)
 ·have nF:(decide ((s.first:Int)<=f)&&decide (n<=((s.first+s.blocks:Nat):Int)-f))=false:=by
   cases hq:(decide ((s.first:Int)<=f)&&decide (n<=((s.first+s.blocks:Nat):Int)-f))with
   |false=>rfl
   |true=>simp only[Bool.and_eq_true,decide_eq_true_eq]at hq;exact absurd hq h2
  have J:Ez s f n=(s,1):=by unfold Ez;rw[if_pos (.inr (.inl h2))]
  rw[J];have jZ:=AO nF;have H:=AO h;generalize s.fr.length=N at*
  clear h h1 h2 J nF DK hr ho hG;go_enter func63,ntmps63
  go_wp2_with fail
  refine(HH.out _).mono ?_;rintro e w2 ⟨rfl,DN⟩;rw[jZ.out];have HX:Hid (Next w G p s w2):=Next.DB H.out DN;clear DN;go_wp2
  go_ret
  exact⟨rfl,HX.out⟩
 have h2:=Classical.not_not.1 h2;obtain⟨f,rfl⟩:∃f':Nat,f=(f':Int):=⟨f.toNat,a5⟩;obtain⟨n',rfl⟩:∃n':Nat,n=(n':Int):=⟨n.toNat,a5⟩;have nF:(decide ((s.first:Int)<=(f:Int))&&decide ((n':Int)<=((s.first+s.blocks:Nat):Int)-(f:Int)))=true:=by simp only[Bool.and_eq_true,decide_eq_true_eq];exact h2
 have jZ:=AO nF;have J:Ez s (f:Int) (n':Int)=if EH s.fr f<s.fr.length/\(DZ s.fr (EH s.fr f)).1<f+n' then (s,1)else ({s with fr:=GH s.fr (EH s.fr f) f n'},0):=by
  unfold Ez;simp only[BX];by_cases hq:EH s.fr f<s.fr.length/\(DZ s.fr (EH s.fr f)).1<f+n'
  ·rw[if_pos hq,if_pos (.inr (.inr hq))]
  ·rw[if_neg hq,if_neg (by rintro(h3|h3|h3);exact h1 h3;exact h3 h2;exact hq h3)]
 have Kq:s.first<=f:=a5;have Gl:f+n'<=s.first+s.blocks:=a5;have qG:1<=n':=a5;have aE:f+n'<=2000000:=a5;have ad:=Mx DK.2.2 (f:=f) qG;have ao:EH s.fr f<=s.fr.length:=Cg;have Tf:Hid (∀W,Below w w W->Calls AP 80 #[AI p,f] W λe w'=>e=AH (EH s.fr f:Nat)/\Below W W w'):=λW hb=>by
  have:=Rl p s G (f:Int) W (h.below hb);rw[UF]at this;exact this
 have HJ:Hid (¬(EH s.fr f<s.fr.length/\(DZ s.fr (EH s.fr f)).1<f+n')->∀W,Below w w W->Calls AP 82 #[AI p,(EH s.fr f:Nat),AL #[f,n']] W λe w'=>e=AH (AM #[])/\Next w G p {s with fr:=GH s.fr (EH s.fr f) f n'} w'):=λhq W hb=>
  (mH p s G (EH s.fr f) f n' W (h.below hb) rfl Kq Gl qG (ad.2 λU=>by
   rcases Am (DZ s.fr (EH s.fr f)).1 (f+n')with h3|h3
   ·exact absurd ⟨U,h3⟩ hq
   ·exact h3)).mono λe w' ⟨G',h1,h2⟩=>⟨h1,Next.behind hb ⟨G',h2⟩⟩
 obtain⟨u,hu⟩:=al (f+n');have HE:Hid (∀W,Calls AP 81 #[AL #[f,n']] W λe w'=>e=AH u/\Below W W w'):=λW=>by have:=Io f n' W a5;rwa [hu]at this
 rw[hu]at J HJ;have RO:Hid (∀k,k<s.fr.length->∃g,A=AE ⟨g,0,AD⟩/\g<w.heap.size/\w.cell? ⟨g,k*2,AD⟩=AE (AA AB (DZ s.fr k).1)/\w.cell? ⟨g,k*2+1,AD⟩=AE (AA AB (DZ s.fr k).2)):=λk hk=>IK ho hk;have H:=AO h;obtain⟨N,hN⟩:=ae s.fr.length;rw[<-hN]at c2 hlen ao J HJ RO;have HN:=AO hN;generalize GH s.fr (EH s.fr f) f n'=R at*
 generalize EH s.fr f=i at*
 have Qz:=λ(W:World) (hb:Below w w W)=>(hb.alloc (o:=AK #[f,n'] 100) hb.size);have jI:=AO Qz;clear h h1 h2 nF DK hr ho hG ad hu Qw hN Qz Kq Gl;by_cases U:i<N
 ·obtain⟨g,rfl,hg,Jw,Li⟩:=RO.out i U;generalize(DZ s.fr i).1=a at*
  have aA:(0:Int)<=(i:Int):=a5;have aw:(i:Int)<(N:Int):=a5;have gi:decide ((i:Int)<(N:Int))=true:=by simp;omega
  have ar:decide (i<N)=true:=by simp;omega
  by_cases aa:a<u
  ·have ga:decide ((a:Int)<(u:Int))=true:=by simp;omega
   have av:decide (a<u)=true:=by simp;omega
   rw[if_pos ⟨U,aa⟩]at J;rw[J];dsimp only;clear J HJ;go_enter func63,ntmps63
   go_wp2_with fail
   refine(HH.out _).mono ?_;rintro e w2 ⟨rfl,DN⟩;rw[jZ.out];have Q:=AO DN;clear DN;go_wp2_with fail
   refine(Tf.out _ (jI.out _ Q.out)).mono ?_;rintro e w3 ⟨rfl,D9⟩;have Qz:Row (w2.alloc (AK #[f,n'] 100)) w2 100 [f,n']:=heap_alloc_new _ _;have Nz:=Qz.below D9 a8;have O:=AO ((jI.out _ Q.out).trans (D9.mono (jI.out _ Q.out).size));obtain⟨b0,b1⟩:=Nz.q2;have dD:=(O.out.cell (p:=(p,2)) Hl).trans c2;have Gk:w2.heap.size<w3.heap.size:=Nz.lt;have tX:p<w3:=by have:=O.out.size;omega
   have d0:=(O.out.cell (p:=⟨g,i*2,AD⟩) hg).trans Jw;have IZ:g<w3.heap.size:=by have:=O.out.size;omega
   clear D9 Qz Nz Q Tf HH jZ c0 c1 c2 Jw Li;go_wp2
   go_region_held3 (λw'=>Below w3.heap.size w3 w'/\w'.cell? ⟨p,2,AD⟩=AE (AJ (AE ⟨g,0,AD⟩) N c)/\w'.cell? ⟨w2.heap.size,0,AD⟩=AE (AA AB (f:Int))/\w'.cell? ⟨w2.heap.size,1,AD⟩=AE (AA AB (n':Int))/\w'.cell? ⟨g,i*2,AD⟩=AE (AA AB (a:Int)))
    (first
     |(exact⟨Cy (AS _ _) 1,dD,b0,b1,d0⟩)
     |(exact⟨I,(I.cell tX).trans dD,(I.cell Gk).trans b0,(I.cell Gk).trans b1,(I.cell IZ).trans d0⟩))
    ((go_split_ands;go_at_call 81;(with_reducible refine(HE.out _).mono ?_);rintro e w4 ⟨rfl,IX⟩;have I:Below w3.heap.size w3 w4:=CM a9 (CO IX (CN a9))))
   have HX:Hid (Next w G p s w4):=Next.DB H.out (O.out.trans (I.mono O.out.size));clear I;go_wp2
   go_ret
   exact⟨rfl,HX.out⟩
  ·have ga:decide ((a:Int)<(u:Int))=false:=by simp;omega
   have av:decide (a<u)=false:=by simp;omega
   rw[if_neg (λhh=>aa hh.2)]at J;rw[J];dsimp only;have HQ:Hid (¬(i<N/\a<u)):=λhh=>aa hh.2;clear J;go_enter func63,ntmps63
   go_wp2_with fail
   refine(HH.out _).mono ?_;rintro e w2 ⟨rfl,DN⟩;rw[jZ.out];have Q:=AO DN;clear DN;go_wp2_with fail
   refine(Tf.out _ (jI.out _ Q.out)).mono ?_;rintro e w3 ⟨rfl,D9⟩;have Qz:Row (w2.alloc (AK #[f,n'] 100)) w2 100 [f,n']:=heap_alloc_new _ _;have Nz:=Qz.below D9 a8;have O:=AO ((jI.out _ Q.out).trans (D9.mono (jI.out _ Q.out).size));obtain⟨b0,b1⟩:=Nz.q2;have dD:=(O.out.cell (p:=(p,2)) Hl).trans c2;have Gk:w2.heap.size<w3.heap.size:=Nz.lt;have tX:p<w3:=by have:=O.out.size;omega
   have d0:=(O.out.cell (p:=⟨g,i*2,AD⟩) hg).trans Jw;have IZ:g<w3.heap.size:=by have:=O.out.size;omega
   clear D9 Qz Nz Q Tf HH jZ c0 c1 c2 Jw Li;go_wp2
   go_region_held3 (λw'=>Below w3.heap.size w3 w'/\w'.cell? ⟨p,2,AD⟩=AE (AJ (AE ⟨g,0,AD⟩) N c)/\w'.cell? ⟨w2.heap.size,0,AD⟩=AE (AA AB (f:Int))/\w'.cell? ⟨w2.heap.size,1,AD⟩=AE (AA AB (n':Int))/\w'.cell? ⟨g,i*2,AD⟩=AE (AA AB (a:Int)))
    (first
     |(exact⟨Cy (AS _ _) 1,dD,b0,b1,d0⟩)
     |(exact⟨I,(I.cell tX).trans dD,(I.cell Gk).trans b0,(I.cell Gk).trans b1,(I.cell IZ).trans d0⟩))
    ((go_split_ands;go_at_call 81;(with_reducible refine(HE.out _).mono ?_);rintro e w4 ⟨rfl,IX⟩;have I:Below w3.heap.size w3 w4:=CM a9 (CO IX (CN a9))))
   have ab:=AO (HJ.out HQ.out w4 (O.out.trans (I.mono O.out.size)));have aD:=(I.cell (p:=w2) Gk).trans b0;have aC:=(I.cell (p:=(w2,1)) Gk).trans b1;clear I b0 b1 dD d0;go_wp2_with fail
   refine ab.out.mono ?_;rintro e w5 ⟨rfl,hx⟩;have HX:=AO hx;clear hx;go_wp2
   go_ret
   exact⟨rfl,HX.out⟩
 ·have gi:decide ((i:Int)<(N:Int))=false:=by simp;omega
  have ar:decide (i<N)=false:=by simp;omega
  rw[if_neg (λhh=>U hh.1)]at J;rw[J];dsimp only;have HQ:Hid (¬(i<N/\(DZ s.fr i).1<u)):=λhh=>U hh.1;clear J;go_enter func63,ntmps63
  go_wp2_with fail
  refine(HH.out _).mono ?_;rintro e w2 ⟨rfl,DN⟩;rw[jZ.out];have Q:=AO DN;clear DN;go_wp2_with fail
  refine(Tf.out _ (jI.out _ Q.out)).mono ?_;rintro e w3 ⟨rfl,D9⟩;have Qz:Row (w2.alloc (AK #[f,n'] 100)) w2 100 [f,n']:=heap_alloc_new _ _;have Nz:=Qz.below D9 a8;have O:=AO ((jI.out _ Q.out).trans (D9.mono (jI.out _ Q.out).size));obtain⟨b0,b1⟩:=Nz.q2;have dD:=(O.out.cell (p:=(p,2)) Hl).trans c2;have Gk:w2.heap.size<w3.heap.size:=Nz.lt;have tX:p<w3:=by have:=O.out.size;omega
  clear D9 Qz Nz Q Tf HH jZ c0 c1 c2;go_wp2
  go_quiet (fail)
  have ab:=AO (HJ.out HQ.out (w3.drewN nq) (Cy O.out nq));go_wp2_with fail
  refine ab.out.mono ?_;rintro e w5 ⟨rfl,hx⟩;have HX:=AO hx;clear hx;go_wp2
  go_ret
  exact⟨rfl,HX.out⟩
def QK(s:Sp)(k n:Nat):Prop:=∀b,k<=b->b<k+n->hasB s.fr b
structure iy (s s':Sp) (a n:Nat):Prop where
 room:QK s a n
 first:s'.first=s.first
 blocks:s'.blocks=s.blocks
 has:∀b,hasB s'.fr b↔hasB s.fr b/\¬(a<=b/\b<a+n)
 sum:ED s'.fr+n=ED s.fr
 ok:s'.ok
theorem Wc{s i a n}(h:s.ok)(hi:i<s.fr.length)(I:(DZ s.fr i).1<=a)(H:a+n<=(DZ s.fr i).1+(DZ s.fr i).2)(e:1<=n):iy s {s with fr:=LY s.fr i a n} a n:=by
 obtain⟨O,c2,J⟩:=YA h.2.2 hi I H e;exact⟨λb hb DN=>⟨_,RH hi,a5,a5⟩,rfl,rfl,c2,J,h.1,h.2.1,O⟩
theorem ZA{s}(h:s.ok){n:Nat}(H:1<=n):(∃s' a,GN s n=(s',a,0)/\iy s s' a n/\∀k,QK s k n->a<=k)\/(GN s n=(s,0,5)/\∀k,¬QK s k n):=by
 unfold GN;rw[if_neg a5,BX];by_cases e:I7 s.fr n<s.fr.length
 ·rw[if_pos e];obtain⟨J,I⟩:=iJ h.2.2 H e;exact .inl ⟨_,_,rfl,Wc h e ao a5 H,I⟩
 ·rw[if_neg e];exact .inr ⟨rfl,λk=>oD h.2.2 H a5 k⟩
theorem SQ{s}(h:s.ok)(f n:Int):(∃s' a m,f=(a:Nat)/\n=(m:Nat)/\1<=m/\MO s f n=(s',0)/\iy s s' a m)\/(MO s f n=(s,1)/\∀a m:Nat,f=a->n=m->1<=m->¬QK s a m):=by
 unfold MO;by_cases I:n<1
 ·rw[if_pos I];exact .inr ⟨rfl,λa m _ e hm=>by omega⟩
 ·rw[if_neg I];by_cases H:Gj s.fr f<s.fr.length/\((DZ s.fr (Gj s.fr f)).1:Int)<=f/\n<=(((DZ s.fr (Gj s.fr f)).1+(DZ s.fr (Gj s.fr f)).2:Nat):Int)-f
  ·rw[if_pos H];obtain⟨a,rfl⟩:∃a:Nat,f=(a:Int):=⟨f.toNat,a5⟩;obtain⟨m,rfl⟩:∃m:Nat,n=(m:Int):=⟨n.toNat,a5⟩;simp only[BX];exact .inl ⟨_,a,m,rfl,rfl,a5,rfl,Wc h H.1 a5 a5 a5⟩
  ·rw[if_neg H];refine .inr ⟨rfl,λa m O hm U J=>H ?_⟩;subst O;subst hm;rw[UF];obtain⟨Q,h3,h4⟩:=Zd h.2.2 U J;exact⟨Q,a5,a5⟩
structure AX2 (s s':Sp) (a n:Nat):Prop where
 lo:s.first<=a
 hi:a+n<=s.first+s.blocks
 AD:∀b,a<=b->b<a+n->¬hasB s.fr b
 first:s'.first=s.first
 blocks:s'.blocks=s.blocks
 has:∀b,hasB s'.fr b↔hasB s.fr b\/(a<=b/\b<a+n)
 sum:ED s'.fr=ED s.fr+n
 ok:s'.ok
theorem Jj{s}(h:s.ok)(f n:Int):(∃s' a m,f=(a:Nat)/\n=(m:Nat)/\1<=m/\Ez s f n=(s',0)/\AX2 s s' a m)\/
  (Ez s f n=(s,1)/\∀a m:Nat,f=a->n=m->1<=m->¬(s.first<=a/\a+m<=s.first+s.blocks/\∀b,a<=b->b<a+m->¬hasB s.fr b)):=by
 unfold Ez;by_cases e:n<1\/¬((s.first:Int)<=f/\n<=((s.first+s.blocks:Nat):Int)-f)\/(EH s.fr f.toNat<s.fr.length/\(DZ s.fr (EH s.fr f.toNat)).1<f.toNat+n.toNat)
 ·rw[if_pos e];refine .inr ⟨rfl,λa m O hm J hh=>?_⟩;subst O;subst hm;simp only[BX]at e;rcases e with e|e|e
  ·omega
  ·exact e ⟨a5,a5⟩
  ·have:=(Mx h.2.2 J).1 hh.2.2 e.1;omega
 ·rw[if_neg e];have J:¬n<1:=λh=>e (.inl h);have h2:(s.first:Int)<=f/\n<=((s.first+s.blocks:Nat):Int)-f:=Classical.not_not.1 λh=>e (.inr (.inl h));obtain⟨a,rfl⟩:∃a:Nat,f=(a:Int):=⟨f.toNat,a5⟩;obtain⟨m,rfl⟩:∃m:Nat,n=(m:Int):=⟨n.toNat,a5⟩;simp only[BX]at e⊢;have H:∀b,a<=b->b<a+m->¬hasB s.fr b:=(Mx h.2.2 a5).2 λI=>by
   rcases Am (DZ s.fr (EH s.fr a)).1 (a+m)with h3|h3
   ·exact absurd (.inr (.inr ⟨I,h3⟩)) e
   ·exact h3
  obtain⟨U,c2,Q⟩:=Mz h.2.2 (show 1<=m by omega) (show s.first<=a by omega) a5 H;exact .inl ⟨_,a,m,rfl,rfl,a5,rfl,⟨a5,a5,H,rfl,rfl,c2,Q,h.1,h.2.1,U⟩⟩
theorem kP(k r:Nat):p8 (k+1) r=st (p8 k r):=by
 rw[show k+1=1+k by omega,kQ];rfl
theorem si(r c:Nat)(w:World)(Q:r<4294967296)(hc:c<256):
  Calls AP 136 #[.int .u32 r,.int .u32 c] w λe w'=>e=AH (.int .u32 (sj r c))/\w=w':=by
 have O:=u32_xor_nat r c Q a5;have HX:=AO O;have h0:r^^^c<4294967296:=Nat.xor_lt_two_pow (n:=32) Q a5;clear O;go_enter func136,ntmps136
 go_wp2
 rw[HX.out];go_loop [0,9] (λnv I=>∃k n:Nat,k<=8/\n<4294967296/\I=AA AB k/\nv=.int .u32 n/\Hid (n=p8 k (r^^^c))) (λ_ I=>8-(BF I).toNat)
 case atStart=>exact⟨0,_,a5,h0,rfl,rfl,rfl⟩
 case round=>
  obtain⟨k,n,hk,U,rfl,rfl,HN⟩:=hrel;by_cases aa:k<8
  ·have hand:bits .and .u32 (n:Int) 1=((n%2:Nat):Int):=by
    have h:=u32_and_nat n 1 U a6;rwa [Nat.and_one_is_mod]at h
   have hdiv:IntKind.u32.wrap ((n:Int)/2)=((n/2:Nat):Int):=by rw[IntKind.wrap_u32'];omega
   have J:=AO (u32_xor_nat (n/2) 3988292384 a5 a6);have HS:Hid (∀m,m=st n->m=p8 (k+1) (r^^^c)):=λm hm=>by rw[hm,kP,HN.out]
   have HL:Hid (st n<4294967296):=vp U;by_cases H:n%2=1
   ·have g:(bits .and .u32 (n:Int) 1==1)=true:=by rw[hand,H];rfl
    clear hand hdiv;go_wp2
    go_round
    case rel=>exact⟨k+1,n/2^^^3988292384,a5,by have:=HL.out;unfold st at this;rwa [if_pos H]at this,by go_num,congrArg (Bg .u32) J.out,HS.out _ (by unfold st;rw[if_pos H])⟩
    case measure=>simp[BF];omega
   ·have g:(bits .and .u32 (n:Int) 1==1)=false:=by rw[hand,show n%2=0 by omega];rfl
    clear hand hdiv;go_wp2
    go_round
    case rel=>exact⟨k+1,n/2,a5,a5,by go_num,rfl,HS.out _ (by unfold st;rw[if_neg H])⟩
    case measure=>simp[BF];omega
  ·obtain rfl:k=8:=a5;go_wp2
   go_ret
   exact⟨RD (by rw[HN.out];rfl),rfl⟩
theorem dG(s:Nat)(H:s<4294967296):bits .xor .u32 IntKind.u32.max (s:Int)=(cm s:Int):=by
 rw[show IntKind.u32.max=4294967295 by decide];have h:=u32_xor_nat 4294967295 s a6 H;have e:cm s=4294967295^^^s:=by unfold cm cmx top;exact Eq.refl _
 rw[e];exact h
theorem Oe(s x:Nat)(w:World)(O:s<4294967296)(hx:x<18446744073709551616):
  Calls AP 117 #[.int .u32 s,.int .u64 x] w λe w'=>e=AH (.int .u32 (nx s x))/\w=w':=by
 have HX:=AO (dG s O);have h0:cm s<4294967296:=cq O;go_enter func117,ntmps117
 go_wp2
 rw[HX.out];go_loop [1,5,8] (λU rv H=>∃k y r:Nat,k<=8/\r<4294967296/\y<18446744073709551616/\H=AA AB k/\U=.int .u64 y/\rv=.int .u32 r/\Hid (wd (8-k) r y=wd 8 (cm s) x)) (λ_ _ H=>8-(BF H).toNat)
 case atStart=>exact⟨0,x,_,a5,h0,hx,rfl,rfl,rfl,rfl⟩
 case round=>
  obtain⟨k,y,r,hk,I,hy,rfl,rfl,rfl,Q⟩:=hrel;by_cases aa:k<8
  ·have hb:bits .and .u64 (y:Int) 255%4294967296=((y%256:Nat):Int):=by
    have h:=u64_and_nat y 255 hy a6;rw[show (255:Nat)=2^8-1 from rfl,Nat.and_two_pow_sub_one_eq_mod]at h;have J:bits .and .u64 (y:Int) 255=((y%256:Nat):Int):=h;rw[J];omega
   have HB:=AO hb;clear hb;have HS:Hid (wd (8-(k+1)) (sj r (y%256)) (y/256)=wd 8 (cm s) x):=by
    have h:=Q.out;rw[show 8-k=(8-(k+1))+1 by omega]at h;exact h
   have HL:=cD I (show y%256<256 by omega);go_wp2_with fail
   rw[HB.out];refine(si r (y%256) _ I a5).mono ?_;rintro e w' ⟨rfl,rfl⟩;go_wp2
   go_round
   case rel=>exact⟨k+1,y/256,_,a5,HL,a5,by go_num,by go_num,rfl,HS.out⟩
   case measure=>simp[BF];omega
  ·obtain rfl:k=8:=a5;have HC:Hid (bits .xor .u32 IntKind.u32.max (r:Int)=(nx s x:Int)):=by
    have h:=Q.out;unfold Hid;rw[dG r I];have J:r=wd 8 (cm s) x:=h;rw[J];exact Eq.refl _
   go_wp2
   go_ret
   exact⟨RD HC.out,rfl⟩
theorem bU{l:List Nat}{n k c}(H:l.length=n)(I:k<n)(e:c=l.getD k 0):nx (sm (l.take k)) c=sm (l.take (k+1)):=by
 rw[List.take_succ_eq_append_getElem a5,U6,e,AT,AU a5];exact Eq.refl _
theorem rV(a:Option Addr)(n cap:Nat)(l:List Nat)(w:World){B}(O:Reads .u64 w B a n l)(hn:n<=1000000):
  Calls AP 116 #[AJ a n cap] w λe w'=>e=AH (.int .u32 (sm l))/\w=w':=by
 have Q:=AO O.1;go_enter func116,ntmps116
 go_wp2
 go_loop [3,8] (λsv I=>∃k s:Nat,k<=n/\s<4294967296/\I=AA AB k/\sv=.int .u32 s/\Hid (s=sm (l.take k))) (λ_ I=>n-(BF I).toNat)
 case atStart=>exact⟨0,0,a5,a5,rfl,rfl,rfl⟩
 case round=>
  obtain⟨k,s,hk,J,rfl,rfl,U⟩:=hrel;by_cases H:k<n
  ·obtain⟨b,o,c,rfl,hb,hc,hw,HC⟩:=O.at_ H;have zo:=RX hw;have HS:Hid (nx s c=sm (l.take (k+1))):=by
    unfold Hid;rw[U.out];exact bU Q.out H HC.out
   have HL:=XL c J;go_wp2_with fail
   refine(Oe s c _ J zo).mono ?_;rintro e w' ⟨rfl,rfl⟩;go_wp2
   go_round
   case rel=>exact⟨k+1,_,a5,HL,by go_num,rfl,HS.out⟩
   case measure=>simp[BF];omega
  ·obtain rfl:k=n:=a5;go_wp2
   go_ret
   exact⟨RD (by rw[U.out,Ao (by have:=Q.out;omega)]),rfl⟩
def R9(s a:Int):Bool:=decide (8<=s)&&decide (s<=256)&&decide (0<=a)
theorem cC(s a:Int)(w:World):Calls AP 100 #[s,a] w λe w'=>e=AH (.bool (R9 s a))/\w=w':=by
 by_cases J:8<=s
 ·have Q:decide (s≥8)=true:=by simpa using J
  by_cases I:s<=256
  ·have O:decide (s<=256)=true:=by simpa using I
   have H:Hid (R9 s a=decide (a≥0)):=by unfold Hid R9;simp[J,I]
   rw[H.out];go_enter func100,ntmps100
   go_wp2
   go_ret
   exact⟨rfl,rfl⟩
  ·have O:decide (s<=256)=false:=by simp;omega
   have H:Hid (R9 s a=false):=by unfold Hid R9;simp[I]
   rw[H.out];go_enter func100,ntmps100
   go_wp2
   go_ret
   exact⟨rfl,rfl⟩
 ·have Q:decide (s≥8)=false:=by simp;omega
  have H:Hid (R9 s a=false):=by unfold Hid R9;simp[J]
  rw[H.out];go_enter func100,ntmps100
  go_wp2
  go_ret
  exact⟨rfl,rfl⟩
theorem yX(l:List Nat)(a b:Nat):nx (nx (sm l) a) b=sm (l++[a,b]):=by
 rw[<-U6,<-U6];simp
theorem UH(a:Option Addr)(n cap:Nat)(l:List Nat)(num ad:Nat)(w:World){B}(U:Reads .u64 w B a n l)(hn:n<=1000000)(Xk:num<4294967296)(aa:ad<=9223372036854775807):
  Calls AP 101 #[AJ a n cap,.int .u64 num,ad] w λe w'=>e=AH (.int .u64 (Hj l num ad))/\w=w':=by
 have JC:=AO U.1;have hs0:=UA l;have Gg:=XL num hs0;have Gk:=XL ad Gg;have Ly:Hid (nx (nx (sm l) num) ad=sm (l++[num,ad])):=yX l num ad;have Q:Hid (bits .or .u64 ((num:Int)*4294967296) (IntKind.u64.wrap ((sm (l++[num,ad]):Nat):Int))=(Hj l num ad:Int)):=by
  unfold Hid;have e:IntKind.u64.wrap ((sm (l++[num,ad]):Nat):Int)=((sm (l++[num,ad]):Nat):Int):=by
   have:=UA (l++[num,ad]);exact IntWalk.u64_in _ a5
  rw[e];have h:=u64_or_nat (num*4294967296) (sm (l++[num,ad])) a5 (by have:=UA (l++[num,ad]);omega);rw[sk]at h;rw[<-h];simp
 go_enter func101,ntmps101
 go_wp2_with fail
 refine(rV AD 0 0 [] w (B:=0) ⟨rfl,a8,λh=>absurd h a5⟩ a5).mono ?_;rintro e w' ⟨rfl,rfl⟩;go_wp2
 go_loop [7,13] (λsv J=>∃k s:Nat,k<=n/\s<4294967296/\J=AA AB k/\sv=.int .u32 s/\Hid (s=sm (l.take k))) (λ_ J=>n-(BF J).toNat)
 case atStart=>exact⟨0,0,a5,a5,rfl,rfl,rfl⟩
 case round=>
  obtain⟨k,s,hk,I,rfl,rfl,HN⟩:=hrel;by_cases H:k<n
  ·obtain⟨b,o,c,rfl,hb,hc,hw,HC⟩:=U.at_ H;have zo:=RX hw;have HS:Hid (nx s c=sm (l.take (k+1))):=by
    unfold Hid;rw[HN.out];exact bU JC.out H HC.out
   have HL:=XL c I;go_wp2_with fail
   refine(Oe s c _ I zo).mono ?_;rintro e w' ⟨rfl,rfl⟩;go_wp2
   go_round
   case rel=>exact⟨k+1,_,a5,HL,by go_num,rfl,HS.out⟩
   case measure=>simp[BF];omega
  ·obtain rfl:k=n:=a5;have O:Hid (s=sm l):=by
    unfold Hid;rw[HN.out,Ao (by have:=JC.out;omega)]
   go_wp2_with fail
   refine(Oe s num _ I a5).mono ?_;rintro e w' ⟨rfl,rfl⟩;go_wp2_with fail
   refine(Oe (nx s num) ad _ (XL num I) a5).mono ?_;rintro e w' ⟨rfl,rfl⟩;have HF:Hid (nx (nx s num) ad=sm (l++[num,ad])):=by unfold Hid;rw[O.out];exact Ly.out
   rw[HF.out];go_wp2
   go_ret
   exact⟨RD Q.out,rfl⟩
theorem dW(x:Nat)(w:World):Calls AP 135 #[.int .u64 x] w λe w'=>e=AH (.bool (decide (x≠0)))/\w=w':=by
 by_cases h:x=0
 ·subst h;go_enter func135,ntmps135
  go_wp2
  go_ret
  exact⟨rfl,rfl⟩
 ·have H:Hid (decide (x≠0)=true):=by unfold Hid;simpa using h
  rw[H.out];have g:((x:Int) !=0)=true:=by simp;omega
  go_enter func135,ntmps135
  go_wp2
  go_ret
  exact⟨rfl,rfl⟩
def J0(l:List Nat):Bool:=decide (∀x∈l,x=0)
theorem mO(a:Option Addr)(n cap:Nat)(l:List Nat)(w:World){B}(hl:Reads .u64 w B a n l)(hn:n<=1000000):
  Calls AP 146 #[AJ a n cap,.func (.func 135) #[] #[]] w λe w'=>(J0 l=true/\e=AH (AA AB (-1))/\w=w')\/(J0 l=false/\∃i:Nat,e=AH i/\w=w'):=by
 have JC:=AO hl.1;go_enter func146,ntmps146
 go_wp2
 go_loop [5,8] (λ_ Q=>∃k:Nat,k<=n/\Q=AA AB k/\Hid (∀x∈l.take k,x=0)) (λ_ Q=>n-(BF Q).toNat)
 case atStart=>exact⟨0,a5,rfl,by unfold Hid;simp⟩
 case round=>
  obtain⟨k,hk,rfl,HN⟩:=hrel;by_cases U:k<n
  ·obtain⟨b,o,c,rfl,hb,hc,hw,HC⟩:=hl.at_ U;have J:=dW c w;by_cases I:c=0
   ·have HS:Hid (∀x∈l.take (k+1),x=0):=by
     intro x H;have O:k<l.length:=by have:=JC.out;omega
     rw[List.take_succ_eq_append_getElem O]at H;rcases Ag.1 H with H|H
     ·exact HN.out x H
     ·simp at H;have:=HC.out;rw[AT,AU O]at this;rw[H,<-I,this];rfl
    have hd:decide (c≠0)=false:=by simpa using I
    rw[hd]at J;have GJ:=AO J;clear J hd I;go_wp2_with fail
    refine GJ.out.mono ?_;rintro e w' ⟨rfl,rfl⟩;go_wp2
    go_round
    case rel=>exact⟨k+1,a5,by go_num,HS.out⟩
    case measure=>simp[BF];omega
   ·have HZ:Hid (J0 l=false):=by
     unfold Hid J0;rw[decide_eq_false_iff_not];intro h;have O:k<l.length:=by have:=JC.out;omega
     have h1:=h l[k] (Bs O);have:=HC.out;rw[AT,AU O]at this;exact I (by rw[this];exact h1)
    have hd:decide (c≠0)=true:=by simpa using I
    rw[hd]at J;have GJ:=AO J;clear J hd I;go_wp2_with fail
    refine GJ.out.mono ?_;rintro e w' ⟨rfl,rfl⟩;go_wp2
    go_ret
    exact .inr ⟨HZ.out,k,rfl,rfl⟩
  ·have HZ:Hid (J0 l=true):=by
    unfold Hid J0;rw[decide_eq_true_eq];have h:=HN.out;rwa [Ao (by have:=JC.out;omega)]at h
   go_wp2
   go_ret
   exact .inl ⟨HZ.out,rfl,rfl⟩
theorem oT(a:Option Addr)(n cap:Nat)(l:List Nat)(w:World){B}(Q:Reads .u64 w B a n l)(O:n<=1000000):
  Calls AP 134 #[AJ a n cap,.func (.func 135) #[] #[]] w λe w'=>e=AH (.bool (!J0 l))/\w=w':=by
 have I:=mO a n cap l w Q O
 cases H:J0 l with
 |true=>
  rw[H]at I;have J:=AO I;clear I H;go_enter func134,ntmps134
  go_wp2_with fail
  refine J.out.mono ?_;rintro e w' (⟨_,rfl,rfl⟩|⟨H,_⟩)
  ·go_wp2
   go_ret
   exact⟨rfl,rfl⟩
  ·cases H
 |false=>
  rw[H]at I;have J:=AO I;clear I H;go_enter func134,ntmps134
  go_wp2_with fail
  refine J.out.mono ?_;rintro e w' (⟨H,_⟩|⟨_,i,rfl,rfl⟩)
  ·cases H
  ·have hi:decide ((i:Int)≥0)=true:=a8;go_wp2
   go_ret
   exact⟨rfl,rfl⟩
theorem oq(a:Option Addr)(n cap:Nat)(l:List Nat)(w:World){B}(O:Reads .u64 w B a n l)(J:n<=1000000):
  Calls AP 115 #[AJ a n cap] w λe w'=>e=AH (.bool (J0 l))/\w=w':=by
 have H:=oT a n cap l w O J
 cases hz:J0 l with
 |true=>
  rw[hz]at H;have I:=AO H;clear H hz;go_enter func115,ntmps115
  go_wp2_with fail
  refine I.out.mono ?_;rintro e w' ⟨rfl,rfl⟩;go_wp2
  go_ret
  exact⟨rfl,rfl⟩
 |false=>
  rw[hz]at H;have I:=AO H;clear H hz;go_enter func115,ntmps115
  go_wp2_with fail
  refine I.out.mono ?_;rintro e w' ⟨rfl,rfl⟩;go_wp2
  go_ret
  exact⟨rfl,rfl⟩
theorem QL:(AP.info? 120).map (λi=>(i.zero,i.size,i.bytes))=AE (AE (.int .u64 0),1,8):=a7
theorem vq:(AP.info? 120).map (·.size)=AE 1:=a7
theorem fJ(w:World)(e:TypeId):(w.alloc (AK #[] e)).ownsRow w e 1 (AJ w 0 0) 0 []:=
 ⟨rfl,.inr ⟨w.heap.size,0,#[],rfl,AQ _,heap_alloc_new _ _,AQ _,Aq _,rfl,rfl⟩⟩
theorem Y7(A:Option Addr)(n c:Nat)(l:List Nat)(w:World){B}(H:Reads .u64 w B A n l)(O:A≠AD)(PO:n<=1000000)(hB:B<=w):
  Calls AP 104 #[AJ A n c] w λe w'=>∃v,e=AH v/\w'.ownsRow w 120 1 v n (l.map λx:Nat=>Bg .u64 x)/\Below w w w':=by
 obtain⟨Q,hi,Ft,Ew,U⟩:=info_parts QL;rcases A with _|⟨b,off,z⟩
 ·exact absurd rfl O
 have HL:=AO H;have I:=AO H.1;clear H O;have hq:=λw=>Go.Lib.run_eql_slice_nil (P:=AP) w 116 120 (AE ⟨b,off,z⟩) n c 0 0 Bc;go_enter func104,ntmps104
 go_wp2_with (with_reducible refine EO 7 ?_)
 unfold Hid;refine Jc _ rfl _ _ 116 rfl w 120 Q (.int .u64 0) 8 Bc hi Ft Ew U rfl _ 0 [] rfl (fJ w 120) (AE ⟨b,off,z⟩) n c (l.map λx:Nat=>Bg .u64 x) rfl (by rw[Aj];exact I.out) (HL.out.GS ((AS _ w).alloc a5 _:Below B w _)).source Uh a5 a5 a8 ?_;intro v' w' J hb;rw[BL,BI]at J;have HO:=AO J;have HB:=AO (((AS w w).alloc ao _).trans hb);clear J hb;go_wp2
 go_ret
 exact⟨v',rfl,HO.out,HB.out⟩
def vw(x:Nat):Value:=.int .u64 x
theorem map_set(l:List Nat)(k x:Nat):(l.map vw).set k (vw x)=(l.set k x).map vw:=by rw[List.map_set]
theorem fk(size:Nat)(l:List Nat):splice (BA size (Bg .u64 0)) 0 (l.map vw)=(l++BA (size-l.length) 0).map vw:=by
 unfold splice;rw[Bt,BI,BL,Aj,List.drop_replicate,Cj,List.map_replicate];rfl
theorem sg{size tag l}(h:l.length<=size-2)(I:2<=size):(l++BA (size-l.length) 0).set (size-2) tag=Et size tag l++[0]:=by
 have e:BA (size-l.length) 0=BA (size-2-l.length) 0++[0,0]:=by
  rw[show size-l.length=size-2-l.length+2 by omega,<-List.replicate_append_replicate];rfl
 rw[e,<-AR,As _ _ (by simp;omega)];have H:size-2-(l++BA (size-2-l.length) 0).length=0:=by rw[AY,List.length_replicate];omega
 rw[H];unfold Et;rw[AR (l++ _)];rfl
theorem mD{size z F}(h:F.length=size-1):(F++[0]).set (size-1) z=F++[z]:=by
 rw[As _ _ a5,h,Ap];rfl
theorem MH{l:List Nat}{k}(h:k<l.length):(l.map vw)[k]?=AE (.int .u64 (l.getD k 0:Nat)):=by
 rw[Bd,AU h,AT,AU h];rfl
theorem Row.words{w g n t}{l:List Nat}(h:Row w g t (l.map vw))(H:n<=l.length)(hu:∀x∈l,(Cd .u64 (x:Nat)).wf=true):Reads .u64 w w g n (l.take n):=
 h.reads (by rw[Ac];omega) (λx e=>hu x (Bo e)) (λi hi=>by
  rw[MH a5]
  congr 2
  rw[AT,AT,At,if_pos hi]) h.lt
theorem yg(size ad tag:Nat)(a:Option Addr)(n c:Nat)(l:List Nat)(w:World){B}(hl:Reads .u64 w B a n l)(hB:B<=w)(h8:8<=size)(aG:size<=256)(aa:ad<=9223372036854775807)(ht:tag<18446744073709551616)(hn:n<=size-2):
  Calls AP 76 #[size,ad,.int .u64 tag,AJ a n c] w λe w'=>e=AH (AM #[AJ w size size,()])/\Row w' w 120 ((Gi size ad tag l).map vw)/\Below w w w':=by
 obtain⟨i0,hi,Ft,Ew,Js⟩:=info_parts QL;have hlen:=hl.1;have hu:NO l:=λx J=>RX (hl.2.1 x J);have HM:Hid (∀w,Calls AP 100 #[size,ad] w λe w'=>e=AH true/\w=w'):=λw=>by
  have h:=cC size ad w;have e:R9 size ad=true:=by unfold R9;simp;omega
  rwa [e]at h
 obtain⟨H,Gg⟩:=ae (size-1);obtain⟨I,Gk⟩:=ae (size-2);obtain⟨num,Xk⟩:=ae (n+1);have b1:H+1<=size/\size<=H+1:=a5;have b2:I+2<=size/\size<=I+2:=a5;have b3:num<=n+1/\n+1<=num:=a5;have aI:(size:Int)-1=(H:Int):=a5;have aJ:(size:Int)-2=(I:Int):=a5;have Ku:(n:Int)+1=(num:Int):=a5;have hg:decide ((n:Int)>(I:Int))=false:=by simp;omega
 have aw:Hid (∀cs:List Value,cs=l.map vw->splice (BA size (Bg .u64 0)) 0 cs=(l++BA (size-l.length) 0).map vw):=by
  rintro cs rfl;exact fk size l
 have ar:Hid (((l++BA (size-l.length) 0).map vw).set I (vw tag)=(Et size tag l++[0]).map vw):=by
  unfold Hid;rw[map_set,Gk,sg a5 a5]
 have hF:=Pw (tag:=tag) (pl:=l) (size:=size) a5 a5;have Qg:Hid (∀z,((Et size tag l++[0]).map vw).set H (vw z)=(Et size tag l++[z]).map vw):=by
  intro z;rw[map_set,Gg,mD hF]
 have xx:Hid (Gi size ad tag l=Et size tag l++[Hj (Et size tag l) num ad]):=by
  unfold Hid Gi;rw[hlen,Xk]
 have al:=AO (UU (size:=size) hu ht);have av:Hid ((l++BA (size-l.length) 0).length=size):=by unfold Hid;simp;omega
 have pP:Hid ((Et size tag l).length=H):=by unfold Hid;rw[hF,Gg]
 have HL:=AO hl;have O:=AO hlen;rw[xx.out];generalize U:Hj (Et size tag l) num ad=z;have ab:=AO U;clear U;generalize l++BA (size-l.length) 0=L1 at*
 generalize Et size tag l=F at*
 clear hF Gg Gk Xk hlen hl hu xx;have hcut:=λW=>Fc (P:=AP) W 116 120 i0 Bc hi w size size H a5 AB (H:Int) rfl;go_enter func76,ntmps76
 go_wp2_with fail
 refine(HM.out _).mono ?_;rintro e w1 ⟨rfl,rfl⟩;go_wp2_with (with_reducible refine EO 23 ?_)
 unfold Hid;refine I4 _ rfl _ _ 116 rfl 120 i0 (.int .u64 0) Bc hi Ft Ew rfl AB AB _ _ size rfl rfl rfl rfl (by rw[Js];omega) a5 ?_;intro w2 EA DN Gk;have Qf:=AO EA;have Q:=AO DN;clear EA DN Gk;go_wp2_with (with_reducible refine EO 26 ?_)
 unfold Hid;have QA:=AO ((HL.out.GS (B:=B) (w':=w2) ⟨Q.out.os,Q.out.tape,Q.out.output,by have:=Q.out.size;omega,λk hk=>Q.out.block k a5⟩).source);refine Eb rfl _ _ 116 116 rfl 120 Bc vq a6 w a size size n c rfl rfl w 0 _ 120 Qf.out (l.map vw) (by rw[Aj,O.out,Nat.mul_one];exact(Bh a5).symm) (λh0=>⟨rfl,QA.out (by have:=O.out;rw[Aj]at h0;omega)⟩) (by rw[Aj,List.length_replicate,O.out];omega) (λv hv=>by obtain⟨x,_,rfl⟩:=Az.1 hv;rfl) ?_;intro w3 FK MW;have Gb:Hid (Row w3 w 120 (L1.map vw)):=by
  have h:=FK.out;rwa [aw.out _ rfl]at h
 have Ei:=AO (Q.out.trans (MW.out.below (by have:=Q.out.size;exact this) (λb hb=>by rw[hb];exact AQ _)));clear FK MW;have aF:w3.cell? (w,I)=AE (.int .u64 (L1.getD I 0:Nat)):=by
  rw[Gb.out.cell];exact MH (by have:=av.out;omega)
 have cF:=Gb.out.free I;have aB:(0:Int)<=(I:Int):=a5;have aA:(I:Int)<(size:Int):=a5;have aD:(0:Int)<=(H:Int):=a5;have aC:(H:Int)<(size:Int):=a5;have QC:Hid (Row (w3.setCell (w,I) (.int .u64 tag)) w 120 ((F++[0]).map vw)):=by
  have h:=Gb.out.set I (vw tag);rw[ar.out]at h;exact h
 have Qi:Hid (Below w w (w3.setCell (w,I) (.int .u64 tag))):=Ei.out.setCell ao _;go_wp2_with fail
 have LJ:=AO (QC.out.words (n:=H) (by have:=pP.out;simp;omega) (λx J=>by
  rcases Ag.1 J with J|J
  ·exact PU (al.out x J)
  ·simp at J;subst J;exact PU a6))
 have Qd:Hid ((F++[0]).take H=F):=by unfold Hid;rw[<-pP.out];exact List.take_left' rfl
 generalize w3.setCell (w.heap.size,I) (.int .u64 tag)=w4 at*
 rw[Qd.out]at LJ;refine(UH w H size F num ad w4 LJ.out a5 a5 aa).mono ?_;rintro e w5 ⟨rfl,rfl⟩;rw[ab.out];have HZ:=AO (Qg.out z);have aH:w4.cell? (w,H)=AE (.int .u64 ((F++[0]).getD H 0:Nat)):=by
  rw[QC.out.cell];exact MH (by have:=pP.out;simp;omega)
 have aE:=QC.out.free H;have IB:Hid (Row (w4.setCell (w,H) (.int .u64 z)) w 120 ((F++[z]).map vw)):=by
  have h:=QC.out.set H (vw z);rw[HZ.out]at h;exact h
 have EV:Hid (Below w w (w4.setCell (w,H) (.int .u64 z))):=Qi.out.setCell ao _;go_wp2
 go_ret2
 exact⟨rfl,IB.out,EV.out⟩
theorem Reads.mid{k w}{B b off n i m:Nat}{l}(h:Reads k w B (b,off) n l)(aB:i+m<=n):Reads k w B (b,off+i) m ((l.drop i).take m):=by
 obtain⟨h1,O,h3⟩:=h;refine⟨by rw[Ac,An];omega,λx H=>O x (List.mem_of_mem_drop (Bo H)),λhp=>?_⟩;obtain⟨b',Za,e,hb,J⟩:=h3 a5;injection e with e;injection e with U Q;subst U;subst Q
 refine⟨b,off+i,rfl,hb,λj I=>?_⟩;rw[CK,J (i+j) a5]
 congr 3
 rw[AT,AT,At,if_pos I,CL]
theorem uN(a:Option Addr)(n c ad:Nat)(l:List Nat)(w:World){B}(hl:Reads .u64 w B a n l)(hB:B<=w)(hc:n<=c)(h8:8<=n)(aI:n<=256)(ar:ad<=9223372036854775807):
  Calls AP 97 #[AJ a n c,ad] w λe w'=>(okW l ad=false/\e=AH (AM #[AJ AD 0 0,.int .u64 0,AA AB 6])/\Below w w w')\/
   (okW l ad=true/\∃v,e=AH (AM #[v,.int .u64 (PV l),()])/\w'.ownsRow w 120 1 v (GB l-1) ((l.take (GB l-1)).map vw)/\Below w w w'):=by
 obtain⟨i0,hi,Ft,Ew,Js⟩:=info_parts QL;have hlen:=hl.1;have HM:Hid (∀w,Calls AP 100 #[n,ad] w λe w'=>e=AH true/\w=w'):=λw=>by
  have h:=cC n ad w;have e:R9 n ad=true:=by unfold R9;simp;omega
  rwa [e]at h
 obtain⟨b,o,rfl,nX,GU⟩:=hl.2.2 a5;obtain⟨H,Gg⟩:=ae (n-1);obtain⟨I,Gk⟩:=ae (n-2);obtain⟨num,Xk⟩:=ae (GB l);obtain⟨tag,zE⟩:=ae (PV l);obtain⟨z,U⟩:=ae (l.getD H 0);have c1:w.cell? (b,o+H)=AE (.int .u64 (z:Nat)):=by rw[U];exact GU H a5
 have c2:w.cell? (b,o+I)=AE (.int .u64 (tag:Nat)):=by
  rw[zE];unfold PV;rw[hlen,<-Gk];exact GU I a5
 have ao:num=z/4294967296:=by rw[Xk,U];unfold GB;rw[hlen,Gg]
 have aG:z<18446744073709551616:=by
  rw[U];exact RX (hl.2.1 _ (by rw[AT,AU a5];exact Bs _))
 have hdiv:(z:Int)/4294967296=(num:Int):=a5;have aA:num<4294967296:=a5;have b1:H+1<=n/\n<=H+1:=a5;have b2:I+2<=n/\n<=I+2:=a5;have aJ:(n:Int)-1=(H:Int):=a5;have aK:(n:Int)-2=(I:Int):=a5;have aE:(0:Int)<=(H:Int):=a5;have aD:(H:Int)<(n:Int):=a5;have aC:(0:Int)<=(I:Int):=a5;have aB:(I:Int)<(n:Int):=a5;have HL:=AO hl;have al:=AO hlen;have HB:=AO hB;rw[<-zE];rw[<-Xk];have Q:=AO Xk;have HZ:=AO U;have vI:=AO Gg;have Ly:=AO Gk;clear GU hlen hl Gg Gk Xk zE U ao;by_cases h1:num<1
 ·have J:Hid (okW l ad=false):=by
   unfold Hid okW;rw[<-Q.out];simp;omega
  have g1:decide ((num:Int)<1)=true:=by simp;omega
  go_enter func97,ntmps97
  go_wp2_with fail
  refine(HM.out _).mono ?_;rintro e w1 ⟨rfl,rfl⟩;go_wp2
  go_ret3
  exact .inl ⟨J.out,rfl,AS _ _⟩
 have g1:decide ((num:Int)<1)=false:=by simp;omega
 by_cases h2:H<num
 ·have J:Hid (okW l ad=false):=by
   unfold Hid okW;rw[<-Q.out,al.out,<-vI.out];simp;omega
  have g2:decide ((num:Int)>(H:Int))=true:=by simp;omega
  go_enter func97,ntmps97
  go_wp2_with fail
  refine(HM.out _).mono ?_;rintro e w1 ⟨rfl,rfl⟩;go_wp2
  go_ret3
  exact .inl ⟨J.out,rfl,AS _ _⟩
 have g2:decide ((num:Int)>(H:Int))=false:=by simp;omega
 obtain⟨p,hp⟩:=ae (num-1);obtain⟨m,hm⟩:=ae (I-p);obtain⟨cp,ab⟩:=ae (c-p);have bp:p+1<=num/\num<=p+1:=a5;have bm:p+m<=I/\I<=p+m:=a5;have aH:(num:Int)-1=(p:Int):=a5;have O:Hid (okW l ad=true↔J0 ((l.drop p).take m)=true/\z=Hj (l.take H) num ad):=by
  have h:=yo (ad:=ad) al.out a5 (show 1<=GB l by rw[<-Q.out];omega) (by rw[<-Q.out];omega);rw[<-Q.out,<-hp,<-Ly.out,<-vI.out,<-hm,<-HZ.out]at h;unfold Hid J0;rw[decide_eq_true_eq];exact h
 have k1:=λW=>Fc (P:=AP) W 116 120 i0 Bc hi (b,o) n c p a5 .u64 (p:Int) rfl;have k2:=λW=>sC (P:=AP) W 116 120 i0 Bc hi Ew b o n c p I a5 a5 a5 .u64 AB (p:Int) (I:Int) rfl rfl;have k3:=λW=>Fc (P:=AP) W 116 120 i0 Bc hi (b,o) n c H a5 AB (H:Int) rfl;rw[<-hm,<-ab]at k2;have av:=AO (HL.out.mid (i:=p) (m:=m) a5);have Th:=AO (HL.out.take (m:=H) a5);have aw:=AO (HL.out.take (m:=p) a5);rw[<-hp];have H1:Hid (∀r q,Calls AP 115 #[AJ (b,o+p) m cp] (w.drewN (r+q)) λe w'=>e=AH (.bool (J0 ((l.drop p).take m)))/\∃j,w'=w.drewN (r+j)):=λr q=>
  ((oq _ m cp _ _ (av.out.drewN (r+q)) a5).mono λ_ _ h=>⟨h.1,q,h.2.symm⟩)
 have H2:Hid (∀r q,Calls AP 101 #[AJ (b,o) H c,.int .u64 num,ad] (w.drewN (r+q)) λe w'=>e=AH (.int .u64 (Hj (l.take H) num ad))/\∃j,w'=w.drewN (r+j)):=λr q=>
  ((UH _ H c _ num ad _ (Th.out.drewN (r+q)) a5 aA ar).mono λ_ _ h=>⟨h.1,q,h.2.symm⟩)
 generalize Hj (l.take H) num ad=zz at*
 have aF:∀q,(w.drewN q).cell? (b,o+H)=AE (.int .u64 (z:Nat)):=λ_=>c1;clear hp hm ab
 cases TW:J0 ((l.drop p).take m)with
 |false=>
  rw[TW]at H1;have J:Hid (okW l ad=false):=by
   unfold Hid;rw[Bool.eq_false_iff];intro h;have:=(O.out.1 h).1;rw[TW]at this;cases this
  clear TW O;go_enter func97,ntmps97
  go_wp2_with fail
  refine(HM.out _).mono ?_;rintro e w1 ⟨rfl,rfl⟩;go_wp2
  go_quiet (fail)
  go_wp2
  go_quiet (with_reducible first|exact H1.out _ _|exact H2.out _ _)
  go_wp2
  go_ret3
  exact .inl ⟨J.out,rfl,Cy (Cy (AS _ _) _) _⟩
 |true=>
  rw[TW]at H1;by_cases he:z=zz
  ·subst he;have o8:Hid (okW l ad=true):=O.out.2 ⟨TW,rfl⟩;clear TW O;have GJ:Hid (∀q,Calls AP 104 #[AJ (b,o) p c] (w.drewN q) λe w'=>∃v,e=AH v/\w'.ownsRow w 120 1 v p ((l.take p).map vw)/\Below w w w'):=λq=>
    (Y7 (b,o) p c (l.take p) (w.drewN q) (aw.out.drewN q) a8 a5 HB.out).mono λe w' ⟨v,h1,h2,h3⟩=>⟨v,h1,h2,(Cy (AS w.heap.size w) q).trans h3⟩
   have dD:∀q,(w.drewN q).cell? (b,o+I)=AE (.int .u64 (tag:Nat)):=λ_=>c2;go_enter func97,ntmps97
   go_wp2_with fail
   refine(HM.out _).mono ?_;rintro e w1 ⟨rfl,rfl⟩;go_wp2
   go_quiet (fail)
   go_wp2
   go_quiet (with_reducible first|exact H1.out _ _|exact H2.out _ _)
   go_wp2
   have QM:Aa.wrap (I:Int)=(I:Int):=Ah _ a5;go_region_held3 (λw'=>w'.cell? (b,o+I)=AE (.int .u64 (tag:Nat)))
    (first|exact c2|exact e2) ((go_at_call 104;refine(GJ.out _).mono ?_;rintro e w2 ⟨v,rfl,aa,D9⟩;have e2:w2.cell? (b,o+I)=AE (.int .u64 (tag:Nat)):=(D9.cell (p:=(b,o+I)) (BH nX HB.out)).trans c2))
   have HO:=AO aa;have Ei:=AO D9;clear aa D9;go_wp2
   go_ret3
   exact .inr ⟨o8.out,v,rfl,HO.out,Ei.out⟩
  ·have J:Hid (okW l ad=false):=by
    unfold Hid;rw[Bool.eq_false_iff];intro h;exact he (O.out.1 h).2
   have g3:((z:Int) !=(zz:Int))=true:=by simp;omega
   clear TW O;go_enter func97,ntmps97
   go_wp2_with fail
   refine(HM.out _).mono ?_;rintro e w1 ⟨rfl,rfl⟩;go_wp2
   go_quiet (fail)
   go_wp2
   go_quiet (with_reducible first|exact H1.out _ _|exact H2.out _ _)
   go_wp2
   go_ret3
   exact .inl ⟨J.out,rfl,Cy (Cy (AS _ _) _) _⟩
def XY(v:Value):Option (DataW Value×List MemPlace):=AE (.held v,[])
theorem law:Maps.Keyed AP 3:=Maps.int_keyed underlying3
theorem y5{x}(h:Fg x):keyOf AP 3 x=AE (.int AB x):=Maps.keyOf_int_mk underlying3 h
theorem AF5{x}(h:Fg x):WideAt.IsKeyLit (.int AB x):=law.key (y5 h)
def Fn(D:DataW Value)(f:Int->Option Value):Prop:=
 Maps.IsMap D/\(∀x,Fg x->f x=AD->Maps.has D (.int AB x)=false)/\∀x v,Fg x->f x=AE v->Maps.has D (.int AB x)=true/\∀zd,D.atKey (.int AB x) zd=.held v
theorem Fn.empty:Fn (.map []) nothing:=⟨Maps.isMap_empty,λ_ _ _=>rfl,λ_ _ _ h=>by cases h⟩
theorem Fn.put{D f}(h:Fn D f){i}(hi:Fg i)(v:Value):Fn (D.put (.int AB i) (.held v)) (WG f i v):=by
 obtain⟨O,h1,U⟩:=h;have I:∀{x:Int},x≠i->(Cd AB x)≠.int AB i:=λH e=>H (by injection e);refine⟨O.put _ _,λx H J=>?_,λx u H hu=>?_⟩
 ·by_cases e:x=i
  ·subst e;rw[KW]at J;cases J
  ·rw[JQ _ _ e]at J;rw[Maps.has_put_other (I e)];exact h1 x H J
 ·by_cases e:x=i
  ·subst e;rw[KW]at hu;injection hu with hu;subst hu
   exact⟨Maps.has_put_same O (AF5 H) _,λQ=>Maps.atKey_put_same O (AF5 H) _ _⟩
  ·rw[JQ _ _ e]at hu;rw[Maps.has_put_other (I e)];exact⟨(U x u H hu).1,λQ=>by rw[Maps.atKey_put_other (I e)];exact(U x u H hu).2 Q⟩
def Lv(w:World)(b n:Nat)(f:Int->Option Value):Prop:=∃D:DataW Value,w.ownsMap AP 3 XY b n D/\Fn D f
theorem Lv.lt{w b n f}(h:Lv w b n f):b<w:=by obtain⟨D,h,_⟩:=h;exact h.lt
theorem Lv.same{w w' b n f}(h:Lv w b n f)(hb:w'.heap[b]?=w.heap[b]?):Lv w' b n f:=by
 obtain⟨D,⟨es,clock,H,e⟩,k⟩:=h;exact⟨D,⟨es,clock,hb.trans H,e⟩,k⟩
theorem Lv.made(w:World):Lv (w.alloc (.map #[] 0)) w 0 nothing:=⟨_,World.ownsMap_made w AP 3 XY,Fn.empty⟩
theorem Lv.EG{w b n g f t cs}(h:Lv w b n f)(H:Row w g t cs):g≠b:=by
 obtain⟨D,⟨es,clock,I,_⟩,_⟩:=h;intro e;subst e;unfold Row at H;rw[I]at H;cases H
def Words(w:World)(G:Nat->Prop)(v:Value)(l:List Nat):Prop:=
 ∃g c cs,v=AJ (AE ⟨g,0,AD⟩) l.length c/\Row w g 120 cs/\G g/\l.length<=c/\c<=maxLen/\0<l.length/\(∀x∈l,(Cd .u64 (x:Nat)).wf=true)/\cs.take l.length=l.map λx:Nat=>Bg .u64 x
theorem Words.GS{w w' G G' v l}(h:Words w G v l)(J:∀k cs,Row w k 120 cs->G k->w'.heap[k]?=w.heap[k]?)(H:∀k cs,Row w k 120 cs->G k->G' k):Words w' G' v l:=by
 obtain⟨g,c,cs,rfl,e,I,O⟩:=h;exact⟨g,c,cs,rfl,(J g cs e I).trans e,H g cs e I,O⟩
theorem Words.reads{w G v l}(h:Words w G v l):∃A c,v=AJ A l.length c/\A≠AD/\Reads .u64 w w A l.length l:=by
 obtain⟨g,c,cs,rfl,e,J,_,_,hp,hw,H⟩:=h;refine⟨_,c,rfl,a8,e.reads rfl hw (λi hi=>?_) e.lt⟩;have I:(cs.take l.length)[i]?=cs[i]?:=by rw[At,if_pos hi]
 rw[<-I,H,Bd,AU hi,AT,AU hi];rfl
def Rel(w:World)(G:Nat->Prop):Option Value->Option (List Nat)->Prop
 |none,AD=>True
 |some v,AE l=>Words w G v l
 | _,_=>False
theorem Rel.GS{w w' G G' v l}(h:Rel w G v l)(H:∀k cs,Row w k 120 cs->G k->w'.heap[k]?=w.heap[k]?)(e:∀k cs,Row w k 120 cs->G k->G' k):Rel w' G' v l:=by
 match v,l,h with
 |none,AD,_=>trivial
 |some v,AE l,h=>exact Words.GS h H e
def K8(w:World)(G:Nat->Prop)(b n:Nat)(fl:Int->Option (List Nat)):Prop:=∃f,Lv w b n f/\∀x,Rel w G (f x) (fl x)
def NW:List (Int×Value)->List Value
 |[]=>[]
 |e::l=>AA AB e.1::e.2::NW l
theorem Oy:∀l m,NW (l++m)=NW l++NW m
 |[],_=>rfl
 |e::l,m=>by show _:: _::NW (l++m)= _;rw[Oy l m];rfl
def KJ(w:World)(G:Nat->Prop)(v:Value)(l:List (Int×List Nat)):Prop:=
 ∃rs:List (Int×Value),w.ownsRow 0 166 2 v l.length (NW rs)/\rs.length=l.length/\(∀(i:Nat) (r:Int×Value) (e:Int×List Nat),rs[i]?=AE r->l[i]?=AE e->r.1=e.1/\Words w G r.2 e.2)/\∀k,v.ownBlock=AE k->G k
def cellsOf(s:St)(bl bf:Nat)(v:Value):List Value:=
 [s.size,s.blocks,.map (AE bl),.map (AE bf),v,.bool s.fb,s.fn,.bool s.tb,s.tn,.bool s.down,s.Dg]
structure Fits (s:St) (n:Nat):Prop where
 size:8<=s.size/\s.size<=256
 blocks:0<=s.blocks/\s.blocks<=1000000
 fn:0<=s.fn/\s.fn<=1000000
 tn:0<=s.tn/\s.tn<=1000000
 Dg:0<=s.Dg/\s.Dg<=n
 small:n<=1000000
 Dk:∀e∈s.Dk,Fg e.1/\e.2.length=s.size
 fl:∀x l,s.fl x=AE l->l.length=s.size
def pn(w:World)(G:Nat->Prop)(p:Nat)(s:St)(n m:Nat):Prop:=
 Fits s n/\∃bl bf v nl,Row w p 94 (cellsOf s bl bf v)/\K8 w G bl nl s.fl/\K8 w G bf s.Dk.length (lay nothing s.Dk)/\KJ w G v s.Dk/\bl≠bf/\G p/\G bl/\G bf/\(∀k,G k->k<w)/\nl+s.Dk.length<=m
def LC(w:World)(G:Nat->Prop)(p:Nat)(s:St)(n:Nat):Prop:=pn w G p s n n
section
variable{w w':World}{G G':Nat->Prop}
theorem K8.GS{b n fl}(h:K8 w G b n fl)(hb:w'.heap[b]?=w.heap[b]?)(H:∀k cs,Row w k 120 cs->G k->w'.heap[k]?=w.heap[k]?)(e:∀k cs,Row w k 120 cs->G k->G' k):K8 w' G' b n fl:=by
 obtain⟨f,J,I⟩:=h;exact⟨f,J.same hb,λx=>(I x).GS H e⟩
theorem K8.lt{b n fl}(h:K8 w G b n fl):b<w:=by obtain⟨f,e,_⟩:=h;exact e.lt
theorem K8.EG{b n g fl t cs}(h:K8 w G b n fl)(e:Row w g t cs):g≠b:=by obtain⟨f,H,_⟩:=h;exact H.EG e
theorem KJ.GS{v l}(h:KJ w G v l)(J:∀k,v.ownBlock=AE k->G k->w'.heap[k]?=w.heap[k]?/\G' k)(Q:∀k cs,Row w k 120 cs->G k->w'.heap[k]?=w.heap[k]?)(I:∀k cs,Row w k 120 cs->G k->G' k):KJ w' G' v l:=by
 obtain⟨rs,h1,U,h3,h4⟩:=h;exact⟨rs,Fq h1 λk H=>(J k H (h4 k H)).1,U,λi r e O he=>⟨(h3 i r e O he).1,(h3 i r e O he).2.GS Q I⟩,λk H=>(J k H (h4 k H)).2⟩
theorem KJ.nil(w:World)(G:Nat->Prop):KJ w G (AJ AD 0 0) []:=⟨[],World.ownsRow_nil _ _ _ _,rfl,λi r e h=>by simp at h,λk h=>by simp[Bp]at h⟩
theorem KJ.EG{v l}(h:KJ w G v l){g}{t}{cs}(H:Row w g t cs)(I:t≠166):v.ownBlock≠AE g:=by
 obtain⟨rs,⟨_,J⟩,_⟩:=h;rcases J with⟨rfl,_⟩|⟨g',cap,cur,rfl,_,hh,_⟩
 ·simp[Bp]
 ·simp only[Bp];intro e;injection e with e;subst e
  unfold Row at H;rw[hh]at H;injection H with H;injection H with _ H;exact I H.symm
theorem KJ.VQ{v l}(h:KJ w G v l){b n}{fl}(I:K8 w G b n fl):v.ownBlock≠AE b:=by
 obtain⟨rs,⟨_,H⟩,_⟩:=h;rcases H with⟨rfl,_⟩|⟨g',cap,cur,rfl,_,hh,_⟩
 ·simp[Bp]
 ·simp only[Bp];intro e;injection e with e;subst e
  obtain⟨f,⟨D,⟨es,clock,H,_⟩,_⟩,_⟩:=I;rw[H]at hh;cases hh
theorem KJ.form{v l}(h:KJ w G v l):∃A c,v=AJ A l.length c:=by
 obtain⟨rs,⟨_,e⟩,_⟩:=h;rcases e with⟨rfl,h0⟩|⟨g,cap,cur,rfl,_⟩
 ·exact⟨AD,0,by rw[h0]⟩
 ·exact⟨_,_,rfl⟩
theorem LC.GS{p s n}(h:LC w G p s n)(H:∀k,G k->w'.heap[k]?=w.heap[k]?)(Q:w.heap.size<=w'.heap.size):LC w' G p s n:=by
 obtain⟨h0,bl,bf,v,nl,h1,h2,h3,h4,h5,O,J,I,U,OJ⟩:=h;exact⟨h0,bl,bf,v,nl,(H p O).trans h1,h2.GS (H bl J) (λk _ _ e=>H k e) (λk _ _ e=>e),h3.GS (H bf I) (λk _ _ e=>H k e) (λk _ _ e=>e),h4.GS (λk _ e=>⟨H k e,e⟩) (λk _ _ e=>H k e) (λk _ _ e=>e),h5,O,J,I,λk e=>BH (U k e) Q,OJ⟩
theorem LC.below{p s n}(h:LC w G p s n)(hb:Below w w w'):LC w' G p s n:=
 h.GS (λk e=>hb.block k (by obtain⟨_,_,_,_,_,_,_,_,_,_,_,_,_,H,_⟩:=h;exact H k e)) hb.size
theorem LC.lt{p s n}(h:LC w G p s n){k}(e:G k):k<w:=by obtain⟨_,_,_,_,_,_,_,_,_,_,_,_,_,H,_⟩:=h;exact H k e
theorem LC.Ey{F p s n}(h:LC w G p s n)(hb:DG F w w')(hF:∀k,G k->¬F k):LC w' G p s n:=
 h.GS (λk e=>hb.block k (h.lt e) (hF k e)) hb.size
theorem LC.fits{p s n}(h:LC w G p s n):Fits s n:=h.1
theorem LC.Of{p s n}(h:LC w G p s n):G p:=by obtain⟨_,_,_,_,_,_,_,_,_,_,e,_⟩:=h;exact e
theorem Fits.mono{s n n'}(h:Fits s n)(H:n<=n')(e:n'<=1000000):Fits s n':=⟨h.size,h.blocks,h.fn,h.tn,⟨h.Dg.1,by have:=h.Dg.2;omega⟩,e,h.Dk,h.fl⟩
theorem LC.mono{p s n n'}(h:LC w G p s n)(H:n<=n')(Q:n'<=1000000):LC w G p s n':=by
 obtain⟨h0,bl,bf,v,nl,h1,U,h3,h4,h5,e,O,J,I,OJ⟩:=h;exact⟨h0.mono H Q,bl,bf,v,nl,h1,U,h3,h4,h5,e,O,J,I,a5⟩
theorem pn.up{p s n m}(h:pn w G p s n m)(hm:m<=n):LC w G p s n:=by
 obtain⟨U,bl,bf,v,nl,Q,O,h3,h4,h5,e,J,I,H,OJ⟩:=h;exact⟨U,bl,bf,v,nl,Q,O,h3,h4,h5,e,J,I,H,a5⟩
theorem LC.begin{p:Nat}{s:St}{n:Nat}(h:LC w G p s n){b:Bool}{bl bf:Nat}{v:Value}(J:Row w p 94 (cellsOf s bl bf v))(h2:Row w' p 94 (cellsOf (begin s b).2 bl bf v))(hf:DG (λk=>k=p) w w')(ab:Fits (begin s b).2 (n+1)):pn w' G p (begin s b).2 (n+1) n:=by
 obtain⟨h0,O,Q,v',nl,I,U,k3,k4,k5,k6,k7,k8,k9,Zp⟩:=h;obtain⟨e1,e2,e3,e4⟩:=GX s b;have e0:cellsOf s bl bf v=cellsOf s O Q v':=by
  unfold Row at J I;rw[J]at I;injection I with I;injection I with I;simpa using I
 obtain⟨rfl,rfl,rfl⟩:bl=O/\bf=Q/\v=v':=by simpa [cellsOf]using e0
 have aa:∀k cs,Row w k 120 cs->k≠p:=by
  intro k cs H e;subst e;unfold Row at J H;rw[J]at H;injection H with H;injection H with _ H;exact absurd H a6
 have DV:bl≠p:=λe=>U.EG J e.symm;have DN:bf≠p:=λe=>k3.EG J e.symm;have MR:∀k cs,Row w k 120 cs->G k->w'.heap[k]?=w.heap[k]?:=λk cs H hg=>hf.block k H.lt (aa k cs H);refine⟨ab,bl,bf,v,nl,h2,?_,?_,?_,k5,k6,k7,k8,λk H=>BH (k9 k H) hf.size,by rw[e4];omega⟩
 ·rw[e3];exact U.GS (hf.block bl U.lt DV) MR (λk _ _ H=>H)
 ·rw[e4];exact k3.GS (hf.block bf k3.lt DN) MR (λk _ _ H=>H)
 ·rw[e4];exact k4.GS (λk H hg=>⟨hf.block k (k9 k hg) λe=>k4.EG J a6 (by rw[<-e];exact H),hg⟩) MR (λk _ _ H=>H)
end
theorem aj{s n}(h:Fits s n)(hn:n<1000000)(b:Bool):Fits (begin s b).2 (n+1):=by
 obtain⟨U,e2,e3,e4⟩:=GX s b;have I:=an s b;have hf:(0<=(begin s b).2.fn/\(begin s b).2.fn<=1000000)/\(0<=(begin s b).2.tn/\(begin s b).2.tn<=1000000):=by
  have O:=h.fn;have J:=h.tn;unfold begin;by_cases hd:s.down=true
  ·rw[if_pos hd];exact⟨O,J⟩
  rw[if_neg hd];by_cases hb:b=false
  ·rw[if_pos hb];exact⟨O,J⟩
  rw[if_neg hb];by_cases Q:s.fb=true/\s.fn=0
  ·rw[if_pos Q];exact⟨O,J⟩
  rw[if_neg Q];have H:0<=(if s.fb=true then s.fn-1 else s.fn)/\(if s.fb=true then s.fn-1 else s.fn)<=1000000:=by
   split
   ·rename_i hB;have:s.fn≠0:=λe=>Q ⟨hB,e⟩;omega
   ·exact O
  by_cases hC:s.tb=true/\s.tn=0
  ·dsimp only;rw[if_pos hC];exact⟨H,by dsimp only;omega⟩
  ·dsimp only;rw[if_neg hC];refine⟨H,?_⟩;show 0<=(if s.tb=true then s.tn-1 else s.tn)/\(if s.tb=true then s.tn-1 else s.tn)<=1000000
   split
   ·rename_i hB;have:s.tn≠0:=λe=>hC ⟨hB,e⟩;omega
   ·exact J
 refine⟨by rw[U];exact h.size,by rw[e2];exact h.blocks,hf.1,hf.2,?_,a5,by rw[e4,U];exact h.Dk,by rw[e3,U];exact h.fl⟩;have:=h.Dg;rcases I with I|I<;>rw[I]<;>omega
end Go.Proofs.YthfnbpjegjbbiaaGreat
