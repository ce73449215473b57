/- What the laws stand on. -/
import Derived.Test.YteldegofbbfaeaaGreatTwoB
namespace Go.Proofs.YteldegofbbfaeaaGreat
set_option linter.unusedVariables false
set_option maxRecDepth 100000
set_option maxHeartbeats 8000000
open Go.ChangeShapes Go.WideShapes Go.ChangeAt Go.RowKit
open Go.Joins Go.Deep
open Go.ChangeShapes Go.WideShapes Go.ChangeAt Go.RowKit Go.Maps
open Go.ChangeMaps (setBlock heap_setBlock_same heap_setBlock_other)
def swp{α:Type}(d:α)(l:List α)(i j:Nat):List α:=(l.set i (l.getD j d)).set j (l.getD i d)
section
variable {α : Type} {d : α} {l : List α} {i j k : Nat}
theorem CG:(swp d l i j).length=l.length:=by unfold swp;rw[List.length_set,List.length_set]
theorem B0(hi:i<l.length)(hj:j<l.length):(swp d l i j).getD k d=if k=j then l.getD i d else if k=i then l.getD j d else l.getD k d:=by
 unfold swp
 rw[List.getD_eq_getElem?_getD,List.getElem?_set,List.getElem?_set,List.length_set]
 by_cases h1:j=k
 ·rw[if_pos h1,if_pos hj,if_pos h1.symm];rfl
 ·rw[if_neg h1,if_neg (show ¬k=j from fun e=>h1 e.symm)]
  by_cases h2:i=k
  ·rw[if_pos h2,if_pos hi,if_pos h2.symm];rfl
  ·rw[if_neg h2,if_neg (fun e=>h2 e.symm),←List.getD_eq_getElem?_getD]
theorem SF(hi:i<l.length)(hj:j<l.length):swp d l i j=swp d l j i:=by
 refine List.ext_getElem (by rw[CG,CG]) fun n h1 h2=>?_
 have e1:(swp d l i j).getD n d=(swp d l i j)[n]:=by rw[List.getD_eq_getElem?_getD,List.getElem?_eq_getElem h1];rfl
 have e2:(swp d l j i).getD n d=(swp d l j i)[n]:=by rw[List.getD_eq_getElem?_getD,List.getElem?_eq_getElem h2];rfl
 rw[←e1,←e2,B0 hi hj,B0 hj hi]
 by_cases a1:n=j
 ·by_cases a2:n=i
  ·rw[if_pos a1,if_pos a2,←a1,←a2]
  ·rw[if_pos a1,if_neg a2,if_pos a1]
 ·by_cases a2:n=i
  ·rw[if_neg a1,if_pos a2,if_pos a2]
  ·rw[if_neg a1,if_neg a2,if_neg a2,if_neg a1]
theorem fK(P M Q:List α)(x y:α):swp d (P++x::M++y::Q) P.length (P.length+1+M.length)=P++y::M++x::Q:=by
 have e1:(P++x::M++y::Q).getD P.length d=x:=by simp[List.getD_eq_getElem?_getD]
 have e2:(P++x::M++y::Q).getD (P.length+1+M.length) d=y:=by
  rw[List.getD_eq_getElem?_getD,List.getElem?_append_right (by simp;omega)]
  simp[show P.length+1+M.length-(P.length+(M.length+1))=0 by omega]
 unfold swp
 rw[e1,e2,List.append_assoc,List.set_append_right _ _ (by omega),Nat.sub_self,List.cons_append,List.set_cons_zero,List.set_append_right _ _ (by omega),show P.length+1+M.length-P.length=M.length+1 by omega,List.set_cons_succ,List.set_append_right _ _ (by omega),Nat.sub_self,List.set_cons_zero]
 simp
end
structure Ch (o:AB) (a b:Nat) (l l':List AB):Prop where
 len:l'.length=l.length
 out:∀i,i<a∨b≤i→l'.getD i AD=l.getD i AD
 cl:Cl o l l'
section
variable {o : AB} {l l' l'' : List AB} {a b m i j k : Nat}
theorem Ch.refl(o:AB)(a b:Nat)(l:List AB):Ch o a b l l:=⟨rfl,fun _ _=>rfl,Cl.refl _ _⟩
theorem Ch.mono{a' b':Nat}(h:Ch o a b l l')(ha:a'≤a)(hb:b≤b'):Ch o a' b' l l':=⟨h.len,fun i hi=>h.out i (by omega),h.cl⟩
theorem Ch.trans(h:Ch o a b l l')(k:Ch o a b l' l''):Ch o a b l l'':=⟨k.len.trans h.len,fun i hi=>(k.out i hi).trans (h.out i hi),h.cl.trans k.cl⟩
theorem ext_get{l m:List AB}(hl:l.length=m.length)(h:∀i,i<l.length→l.getD i AD=m.getD i AD):l=m:=by
 refine List.ext_getElem hl fun i h1 h2=>?_
 rw[←CJ h1,←CJ h2];exact h i h1
theorem Dj{l:List AB}{n i:Nat}(h:i<n):(l.take n).getD i AD=l.getD i AD:=by
 rw[List.getD_eq_getElem?_getD,List.getD_eq_getElem?_getD,List.getElem?_take,if_pos h]
theorem Dk{l:List AB}{n i:Nat}:(l.drop n).getD i AD=l.getD (n+i) AD:=by
 rw[List.getD_eq_getElem?_getD,List.getD_eq_getElem?_getD,List.getElem?_drop]
theorem Ch.pe(h:Ch o a b l l')(ZE:a≤b)(hb:b≤l.length){i:Nat}(h1:a≤i)(h2:i<b):∃j,a≤j∧j<b∧l.getD j AD=l'.getD i AD:=by
 have hl:=h.len
 have e1:l'.take a=l.take a:=ext_get (by rw[List.length_take,List.length_take];omega) fun i hi=>by
  rw[List.length_take]at hi
  rw[Dj (by omega),Dj (by omega)];exact h.out i (by omega)
 have e2:l'.drop b=l.drop b:=ext_get (by rw[List.length_drop,List.length_drop];omega) fun i hi=>by
  rw[Dk,Dk];exact h.out _ (by omega)
 have d1:∀l:List AB,l=l.take a++((l.drop a).take (b-a)++l.drop b):=fun l=>by
  conv=>lhs;rw[←List.take_append_drop a l]
  congr 1
  conv=>lhs;rw[←List.take_append_drop (b-a) (l.drop a)]
  rw[List.drop_drop,show a+(b-a)=b by omega]
 have hc:=h.cl
 rw[d1 l,d1 l',e1,e2]at hc
 have Lr:=hc.left.right
 have hm:l'.getD i AD∈(l'.drop a).take (b-a):=by
  have:((l'.drop a).take (b-a)).getD (i-a) AD=l'.getD i AD:=by rw[Dj (by omega),Dk,show a+(i-a)=i by omega]
  rw[←this,CJ (by rw[List.length_take,List.length_drop];omega)]
  exact List.getElem_mem _
 obtain⟨j,hj,e⟩:=List.getElem_of_mem (Lr.symm.mem hm)
 rw[List.length_take,List.length_drop]at hj
 refine⟨a+j,by omega,by omega,?_⟩
 rw[←e,←CJ,Dj (by omega),Dk]
theorem VO(hi:i+1<l.length)(h:AO o (l.getD (i+1) AD) (l.getD i AD)<0):Ch o i (i+2) l (swp AD l i (i+1)):=by
 refine⟨CG,fun k hk=>?_,?_⟩
 ·rw[B0 (by omega) hi,if_neg (by omega),if_neg (by omega)]
 ·have d1:l=l.take i++l.getD i AD::[]++l.getD (i+1) AD::l.drop (i+2):=by
   conv=>lhs;rw[←List.take_append_drop i l,List.drop_eq_getElem_cons (show i<l.length by omega),List.drop_eq_getElem_cons hi]
   rw[CJ hi,CJ (show i<l.length by omega)];simp
  have hl:(l.take i).length=i:=by rw[List.length_take];omega
  have e:swp AD l i (i+1)=l.take i++l.getD (i+1) AD::[]++l.getD i AD::l.drop (i+2):=by
   have:=fK (d:=AD) (l.take i) [] (l.drop (i+2)) (l.getD i AD) (l.getD (i+1) AD)
   rw[hl,←d1]at this
   exact this
  rw[e]
  conv=>arg 2;rw[d1]
  have:=(Cl.refl o (l.take i)).append ((Cl.swap (o:=o) (a:=[l.getD i AD]) (b:=[l.getD (i+1) AD]) fun u hu v hv=>by simp only[List.mem_singleton]at hu hv;subst hu hv;omega).append (Cl.refl o (l.drop (i+2))))
  simpa using this
def uF(o:AB)(l:List AB)(a i j:Nat):Prop:=∀p q,a≤p→p<q→q≤i→q≠j→AO o (l.getD p AD) (l.getD q AD)≤0
theorem YC(h:Bo o l a i):uF o l a i i:=fun p q h1 h2 h3 h4=>h.le h1 (Nat.le_of_lt h2) (by omega)
theorem ak(h:uF o l a i j)(hj:a<j)(yf:j≤i)(hi:i<l.length)(hlt:AO o (l.getD j AD) (l.getD (j-1) AD)<0):uF o (swp AD l j (j-1)) a i (j-1)∧Ch o a (i+1) l (swp AD l j (j-1)):=by
 have e:=SF (d:=AD) (l:=l) (i:=j) (j:=j-1) (by omega) (by omega)
 have hc:=VO (o:=o) (l:=l) (i:=j-1) (by omega) (by rw[show j-1+1=j by omega];exact hlt)
 rw[show j-1+1=j by omega,←e]at hc
 refine⟨fun p q h1 h2 h3 h4=>?_,hc.mono (by omega) (by omega)⟩
 rw[B0 (by omega) (by omega),B0 (by omega) (by omega),if_neg h4]
 by_cases hq:q=j
 ·rw[if_pos hq]
  by_cases hp:p=j-1
  ·rw[if_pos hp];omega
  ·rw[if_neg hp,if_neg (by omega)];exact h p (j-1) h1 (by omega) (by omega) (by omega)
 ·rw[if_neg hq]
  by_cases hp:p=j-1
  ·rw[if_pos hp];exact h j q (by omega) (by omega) h3 hq
  ·rw[if_neg hp]
   by_cases yK:p=j
   ·rw[if_pos yK];exact h (j-1) q (by omega) (by omega) h3 hq
   ·rw[if_neg yK];exact h p q h1 h2 h3 hq
theorem aj(h:uF o l a i j)(AG4:j≤i)(hs:j=a∨¬AO o (l.getD j AD) (l.getD (j-1) AD)<0):Bo o l a (i+1):=by
 intro p h1 h2
 by_cases hp:p+1=j
 ·rcases hs with hs|hs
  ·omega
  ·rw[hp,Ah,show p=j-1 by omega];omega
 ·exact h p (p+1) h1 (by omega) (by omega) hp
def uD(l l':List AB)(a k:Nat):Prop:=∀p,l'.getD p AD=if p<a then l.getD p AD else if p<k then l.getD (p+1) AD else if p=k then l.getD a AD else l.getD p AD
theorem Xx(l:List AB)(a:Nat):uD l l a a:=fun p=>by
 by_cases h1:p<a
 ·rw[if_pos h1]
 ·rw[if_neg h1,if_neg h1]
  split
  ·rename_i h;rw[h]
  ·rfl
theorem aU(h:uD l l' a k)(hak:a≤k)(hk:k+1<l.length)(hl:l'.length=l.length)(hlt:AO o (l.getD (k+1) AD) (l.getD a AD)<0):uD l (swp AD l' k (k+1)) a (k+1)∧Ch o k (k+2) l' (swp AD l' k (k+1)):=by
 have e1:l'.getD k AD=l.getD a AD:=by rw[h k,if_neg (by omega),if_neg (by omega),if_pos rfl]
 have e2:l'.getD (k+1) AD=l.getD (k+1) AD:=by rw[h (k+1),if_neg (by omega),if_neg (by omega),if_neg (by omega)]
 refine⟨fun p=>?_,VO (by omega) (by rw[e1,e2];exact hlt)⟩
 rw[B0 (by omega) (by omega),e1,e2,h p]
 by_cases h1:p=k+1
 ·rw[if_pos h1,if_neg (by omega),if_neg (by omega),if_pos h1]
 ·rw[if_neg h1]
  by_cases h2:p=k
  ·rw[if_pos h2,if_neg (by omega),if_pos (by omega),h2]
  ·rw[if_neg h2]
   by_cases h3:p<a
   ·rw[if_pos h3,if_pos h3]
   ·rw[if_neg h3,if_neg h3]
    by_cases h4:p<k
    ·rw[if_pos h4,if_pos (by omega)]
    ·rw[if_neg h4,if_neg h2,if_neg (by omega),if_neg h1]
theorem gC(h:uD l l' a (i-1))(hai:a<i)(hib:i≤b)(hs:Bo o l (a+1) b)(hlo:∀p,a+1≤p→p<i→AO o (l.getD p AD) (l.getD a AD)<0)(Mf:∀p,i≤p→p<b→0≤AO o (l.getD p AD) (l.getD a AD)):Bo o l' a b:=by
 intro p h1 h2
 rw[h p,h (p+1),if_neg (show ¬p<a by omega),if_neg (show ¬p+1<a by omega)]
 by_cases h3:p<i-1
 ·rw[if_pos h3]
  by_cases h4:p+1<i-1
  ·rw[if_pos h4];exact hs (p+1) (by omega) (by omega)
  ·rw[if_neg h4,if_pos (by omega)]
   have:=hlo (p+1) (by omega) (by omega);omega
 ·rw[if_neg h3]
  by_cases h4:p=i-1
  ·rw[if_pos h4,if_neg (by omega),if_neg (by omega)]
   have:=Mf (p+1) (by omega) (by omega)
   rw[Ah];omega
  ·rw[if_neg h4,if_neg (by omega),if_neg (by omega)]
   exact hs p (by omega) h2
def uE(l l':List AB)(m k:Nat):Prop:=∀p,l'.getD p AD=if m<p then l.getD p AD else if k<p then l.getD (p-1) AD else if p=k then l.getD m AD else l.getD p AD
theorem X0(l:List AB)(m:Nat):uE l l m m:=fun p=>by
 by_cases h1:m<p
 ·rw[if_pos h1]
 ·rw[if_neg h1,if_neg h1]
  split
  ·rename_i h;rw[h]
  ·rfl
theorem aX(h:uE l l' m k)(PF:0<k)(hkm:k≤m)(hm:m<l.length)(hl:l'.length=l.length)(hlt:AO o (l.getD m AD) (l.getD (k-1) AD)<0):uE l (swp AD l' k (k-1)) m (k-1)∧Ch o (k-1) (k+1) l' (swp AD l' k (k-1)):=by
 have e1:l'.getD k AD=l.getD m AD:=by rw[h k,if_neg (by omega),if_neg (by omega),if_pos rfl]
 have e2:l'.getD (k-1) AD=l.getD (k-1) AD:=by rw[h (k-1),if_neg (by omega),if_neg (by omega),if_neg (by omega)]
 have e:=SF (d:=AD) (l:=l') (i:=k) (j:=k-1) (by omega) (by omega)
 have hc:=VO (o:=o) (l:=l') (i:=k-1) (by omega) (by rw[show k-1+1=k by omega,e1,e2];exact hlt)
 rw[show k-1+1=k by omega,←e,show k-1+2=k+1 by omega]at hc
 refine⟨fun p=>?_,hc⟩
 rw[B0 (by omega) (by omega),e1,e2,h p]
 by_cases h1:p=k-1
 ·rw[if_pos h1,if_neg (by omega),if_neg (by omega),if_pos h1]
 ·rw[if_neg h1]
  by_cases h2:p=k
  ·rw[if_pos h2,if_neg (by omega),if_pos (by omega),h2]
  ·rw[if_neg h2]
   by_cases h3:m<p
   ·rw[if_pos h3,if_pos h3]
   ·rw[if_neg h3,if_neg h3]
    by_cases h4:k<p
    ·rw[if_pos h4,if_pos (by omega)]
    ·rw[if_neg h4,if_neg h2,if_neg (by omega),if_neg h1]
theorem gD(h:uE l l' m i)(U5:i≤m)(hai:a≤i)(hs:Bo o l a m)(hlo:∀p,a≤p→p<i→0≤AO o (l.getD m AD) (l.getD p AD))(Mf:∀p,i≤p→p<m→AO o (l.getD m AD) (l.getD p AD)<0):Bo o l' a (m+1):=by
 intro p h1 h2
 rw[h p,h (p+1),if_neg (show ¬m<p by omega),if_neg (show ¬m<p+1 by omega)]
 by_cases h3:i<p
 ·rw[if_pos h3,if_pos (by omega),Nat.add_sub_cancel]
  have:=hs (p-1) (by omega) (by omega)
  rwa [show p-1+1=p by omega]at this
 ·rw[if_neg h3]
  by_cases h4:p=i
  ·rw[if_pos h4,if_pos (by omega),Nat.add_sub_cancel]
   have:=Mf p (by omega) (by omega);omega
  ·rw[if_neg h4,if_neg (by omega)]
   by_cases h5:p+1=i
   ·rw[if_pos h5]
    have:=hlo p (by omega) (by omega)
    rw[Ah];omega
   ·rw[if_neg h5];exact hs p h1 (by omega)
end
section
variable {α : Type} {lt : α → α → Bool} {f g : Nat → α} {n x i j : Nat}
structure eR (lt:α→α→Bool):Prop where
 asym:∀a b,lt a b=true→lt b a=false
 trans:∀a b c,lt b a=false→lt c b=false→lt c a=false
def par(j:Nat):Nat:=(j-1)/2
def Hp(lt:α→α→Bool)(f:Nat→α)(n:Nat):Prop:=∀j,0<j→j<n→lt (f j) (f (par j))=false
def Yw(lt:α→α→Bool)(f:Nat→α)(n x:Nat):Prop:=(∀j,0<j→j<n→par j≠x→lt (f j) (f (par j))=false)∧(0<x→∀j,0<j→j<n→par j=x→lt (f j) (f (par x))=false)
def iX(lt:α→α→Bool)(f:Nat→α)(n x:Nat):Prop:=(∀j,0<j→j<n→j≠x→lt (f j) (f (par j))=false)∧(0<x→∀j,0<j→j<n→par j=x→lt (f j) (f (par x))=false)
def Chg(f g:Nat→α)(i j:Nat):Prop:=∀p,g p=if p=i then f j else if p=j then f i else f p
theorem Ii(h:0<j):par j<j:=by unfold par;omega
theorem Hp.ko(h:∀j,0<j→j<n→par j≠0→lt (f j) (f (par j))=false):Yw lt f n 0:=⟨h,fun h=>by omega⟩
theorem Yw.leaf(h:Yw lt f n x)(hn:n≤2*x+1):Hp lt f n:=fun j h0 h1=>h.1 j h0 h1 (by unfold par;omega)
theorem Yw.stop(ho:eR lt)(h:Yw lt f n x){c:Nat}(hle:lt (f c) (f x)=false)(Ir:∀j,0<j→j<n→par j=x→lt (f j) (f c)=false):Hp lt f n:=fun j h0 h1=>by
 by_cases hx:par j=x
 ·rw[hx];exact ho.trans _ _ _ hle (Ir j h0 h1 hx)
 ·exact h.1 j h0 h1 hx
theorem Yw.step(ho:eR lt)(h:Yw lt f n x){c:Nat}(hc:c=2*x+1∨c=2*x+2)(RS:c<n)(hlt:lt (f c) (f x)=true)(Ir:∀j,0<j→j<n→par j=x→lt (f j) (f c)=false)(hg:Chg f g x c):Yw lt g n c:=by
 have p8:par c=x:=by unfold par;omega
 have hxc:x≠c:=by omega
 have gx:g x=f c:=by rw[hg x,if_pos rfl]
 have gc:g c=f x:=by rw[hg c,if_neg (fun e=>hxc e.symm),if_pos rfl]
 have gp:∀p,p≠x→p≠c→g p=f p:=fun p h1 h2=>by rw[hg p,if_neg h1,if_neg h2]
 refine⟨fun j h0 h1 hj=>?_,fun _ j h0 h1 hj=>?_⟩
 ·by_cases TO:par j=x
  ·rw[TO,gx]
   by_cases vt:j=c
   ·rw[vt,gc];exact ho.asym _ _ hlt
   ·have:j≠x:=by unfold par at TO;omega
    rw[gp j this vt];exact Ir j h0 h1 TO
  ·rw[gp (par j) TO hj]
   by_cases sW:j=x
   ·rw[sW,gx]
    exact h.2 (by omega) c (by omega) RS p8
   ·have:j≠c:=fun e=>TO (by rw[e];exact p8)
    rw[gp j sW this];exact h.1 j h0 h1 TO
 ·have TO:j≠x:=by unfold par at hj;omega
  have vt:j≠c:=by unfold par at hj;omega
  rw[gp j TO vt,p8,gx,←hj]
  exact h.1 j h0 h1 (by rw[hj];exact fun e=>hxc e.symm)
theorem iX.root(h:iX lt f n 0):Hp lt f n:=fun j h0 h1=>h.1 j h0 h1 (by omega)
theorem iX.stop(h:iX lt f n x)(hle:lt (f x) (f (par x))=false):Hp lt f n:=fun j h0 h1=>by
 by_cases hx:j=x
 ·rw[hx];exact hle
 ·exact h.1 j h0 h1 hx
theorem iX.step(ho:eR lt)(h:iX lt f n x)(hx:0<x)(hxn:x<n)(hlt:lt (f x) (f (par x))=true)(hg:Chg f g (par x) x):iX lt g n (par x):=by
 have Bm:=Ii hx
 have gp:g (par x)=f x:=by rw[hg,if_pos rfl]
 have gx:g x=f (par x):=by rw[hg,if_neg (by omega),if_pos rfl]
 have go:∀p,p≠par x→p≠x→g p=f p:=fun p h1 h2=>by rw[hg p,if_neg h1,if_neg h2]
 refine⟨fun j h0 h1 hj=>?_,fun hp j h0 h1 hj=>?_⟩
 ·by_cases TO:j=x
  ·rw[TO,gx,gp];exact ho.asym _ _ hlt
  ·rw[go j hj TO]
   by_cases h2:par j=x
   ·rw[h2,gx];exact h.2 hx j h0 h1 h2
   ·by_cases h3:par j=par x
    ·rw[h3,gp]
     exact ho.trans _ _ _ (ho.asym _ _ hlt) (h3▸h.1 j h0 h1 TO)
    ·rw[go _ h3 h2];exact h.1 j h0 h1 TO
 ·have h4:=Ii hp
  have N4:lt (f (par x)) (f (par (par x)))=false:=h.1 (par x) hp (by omega) (by omega)
  rw[go (par (par x)) (by omega) (by omega)]
  by_cases TO:j=x
  ·rw[TO,gx];exact N4
  ·have hjp:j≠par x:=fun e=>by rw[e]at hj;omega
   rw[go j hjp TO]
   exact ho.trans _ _ _ N4 (hj▸h.1 j h0 h1 TO)
theorem Hp.least(ho:eR lt)(h:Hp lt f n)(hr:∀a,lt a a=false):∀j,j<n→lt (f j) (f 0)=false:=fun j=>by
 induction j using Nat.strongRecOn with
 |ind j ih=>
  intro hj
  rcases Nat.eq_zero_or_pos j with rfl|h0
  ·exact hr _
  ·have h1:=Ii h0
   exact ho.trans _ _ _ (ih (par j) h1 (by omega)) (h j h0 hj)
end
theorem Ge{α:Type}[DecidableEq α]{d:α}{l:List α}{i j:Nat}(hi:i<l.length)(hj:j<l.length):(swp d l i j).Perm l:=by
 refine List.perm_iff_count.2 fun a=>?_
 have ei:l.getD i d=l[i]:=by rw[List.getD_eq_getElem?_getD,List.getElem?_eq_getElem hi];rfl
 have ej:l.getD j d=l[j]:=by rw[List.getD_eq_getElem?_getD,List.getElem?_eq_getElem hj];rfl
 unfold swp
 rw[List.count_set (by rw[List.length_set];exact hj),List.count_set hi,List.getElem_set,ei,ej]
 have h1:(l[i]==a)=true→0<l.count a:=fun h=>List.count_pos_iff.2 (by rw[←eq_of_beq h];exact List.getElem_mem hi)
 have h2:(l[j]==a)=true→0<l.count a:=fun h=>List.count_pos_iff.2 (by rw[←eq_of_beq h];exact List.getElem_mem hj)
 by_cases Fq:i=j
 ·subst Fq
  rw[if_pos rfl]
  split
  ·next h=>have:=h1 h;omega
  ·omega
 ·rw[if_neg Fq]
  by_cases g1:(l[i]==a)=true
  ·have:=h1 g1
   by_cases g2:(l[j]==a)=true
   ·simp only[g1,g2,if_true];omega
   ·simp only[g1,Bool.eq_false_iff.2 g2,if_true,Bool.false_eq_true,if_false];omega
  ·by_cases g2:(l[j]==a)=true
   ·have:=h2 g2
    simp only[Bool.eq_false_iff.2 g1,g2,if_true,Bool.false_eq_true,if_false];omega
   ·simp only[Bool.eq_false_iff.2 g1,Bool.eq_false_iff.2 g2,Bool.false_eq_true,if_false];omega
def takeN(S:Sp)(m:Nat):Sp×Nat×Nat×Nat:=
 if m=0 then (S,0,0,0)else if (Cr S m).2.2=0 then ((Cr S m).1,(Cr S m).2.1,m,0)else ((Cr S m).1,0,0,(Cr S m).2.2)
def Ay(S:Sp)(f m:Nat):Sp:=if m=0 then S else (CY S f m).1
theorem AR.own{w w1 w2 w3:World}{G:Nat→Prop}{p:Wp}{F:Fs}{n g:Nat}(h:AR w1 G p F n w2)(hb:Below w.heap.size w w1)(Em:w.heap.size≤g)(CP:g<w1.heap.size)(hG:∀k,G k→k<w.heap.size)(hst:∀q∈F.A.st,q.1≠g)(hf:AL (fun k=>k=g) w2 w3):AR w G p F n w3:=by
 obtain⟨G',h1,h2,h3⟩:=h
 refine⟨G',h1.Cc hf (fun k hk e=>?_) hst,((AL.AJ hb G).trans h2 fun b hb'=>.inl hb').trans hf fun b e=>.inr (by rw[e];exact Em),fun k hk=>(h3 k hk).imp id fun h=>Nat.le_trans hb.size h⟩
 subst e
 rcases h3 k hk with h4|h4
 ·have:=hG k h4;omega
 ·omega
theorem AL.one{w:World}(g i:Nat)(v:Value):AL (fun k=>k=g) w (w.setCell ⟨g,i,none⟩ v):=(AL.refl (fun k=>k=g) w).set (p:=⟨g,i,none⟩) (.inl rfl) v
theorem AL.two(w:World)(g i j:Nat)(u v:Value):AL (fun k=>k=g) w ((w.setCell ⟨g,i,none⟩ u).setCell ⟨g,j,none⟩ v):=(AL.one g i u).set (p:=⟨g,j,none⟩) (.inl rfl) v
theorem Lu{w:World}{G:Nat→Prop}{p:Wp}{F:Fs}{n:Nat}(h:Sys w G p F n)(m:Nat)(hm:m≤100000000):
  Calls Tryz.prog 61 #[.pointer (some ⟨p.w,0,none⟩),.int .i64 m] w fun e w'=>e=.returned (.tuple #[.agg #[.int .i64 (takeN F.S m).2.1,.int .i64 (takeN F.S m).2.2.1],.int .i64 (takeN F.S m).2.2.2])∧AR w G p {F with S:=(takeN F.S m).1} n w':=by
 have Am:=(Below.refl w.heap.size w).alloc (Nat.le_refl _) (.cells #[.int .i64 0,.int .i64 0] 80)
 have hrow:Row (w.alloc (.cells #[.int .i64 0,.int .i64 0] 80)) w.heap.size 80 [.int .i64 0,.int .i64 0]:=heap_alloc_new _ _
 have h1:=h.below Am
 by_cases hm0:m=0
 ·subst hm0
  have e0:takeN F.S 0=(F.S,0,0,0):=rfl
  rw[e0]
  have HX:Hid (AR w G p F n (w.alloc (.cells #[.int .i64 0,.int .i64 0] 80))):=AR.AJ h Am
  have r0:=hrow.cell 0
  have r1:=hrow.cell 1
  clear h h1 Am hrow e0
  go_enter Tryz.func61,Tryz.ntmps61
  go_wp2
  refine bodyPost_ret (v:=.tuple #[.agg #[.int .i64 0,.int .i64 0],.int .i64 0]) (by simp[results,Tryz.results61,go_sem,r0,r1]) rfl ⟨rfl,HX.out⟩
 ·have g0:((m:Int)==0)=false:=by simpa using hm0
  have c2:(w.alloc (.cells #[.int .i64 0,.int .i64 0] 80)).cell? ⟨p.w,2,none⟩=some (.pointer (some ⟨p.s,0,none⟩)):=h1.row.cell 2
  have hlt:=fun k hk=>h.lt (k:=k) hk
  have N7:∀q∈F.A.st,q.1≠w.heap.size:=fun q hq e=>by have:=(h.buf hq).1.lt;omega
  obtain⟨Gs,hs,IN⟩:=h1.pX
  have ht:=Zc p.s F.S Gs m _ hs (Fv.of (by omega) (by omega))
  have hz:(w.alloc (.cells #[.int .i64 0,.int .i64 0] 80)).heap.size=w.heap.size+1:=by simp
  have HE:Hid (takeN F.S m=if (Cr F.S m).2.2=0 then ((Cr F.S m).1,(Cr F.S m).2.1,m,0)else ((Cr F.S m).1,0,0,(Cr F.S m).2.2)):=by unfold Hid takeN;rw[if_neg hm0]
  have HT:=Lib.hid ht
  have Vn:=Lib.hid IN
  have Dr:=Lib.hid hrow
  have HB:=Lib.hid Am
  have IP:=Lib.hid hlt
  have pT:=Lib.hid N7
  have HZ:=Lib.hid hz
  rw[HE.out]
  clear ht IN hrow Am hlt N7 h h1 hs HE hz
  generalize Cr F.S m=q at*
  obtain⟨S',a,er⟩:=q
  simp only at HT⊢
  by_cases he:er=0
  ·subst he
   rw[if_pos rfl]
   go_enter Tryz.func61,Tryz.ntmps61
   go_wp2_with fail
   refine HT.out.mono ?_;rintro e w2 ⟨rfl,hn⟩
   have Uu:=Vn.out _ _ hn
   have CP:Row w2 w.heap.size 80 [.int .i64 0,.int .i64 0]:=by
    obtain⟨G',k1,k2,k3⟩:=Uu
    exact k2.row Dr.out fun hg=>by have:=IP.out _ hg;omega
   have KK:Hid (∀w3,AL (fun k=>k=w.heap.size) w2 w3→AR w G p {F with S:=S'} n w3):=fun w3 hf=>Uu.own HB.out (Nat.le_refl _) (by rw[HZ.out];omega) IP.out pT.out hf
   have b0:w2.cell? ⟨w.heap.size,0,none⟩=some (.int .i64 0):=CP.cell 0
   have b1:w2.cell? ⟨w.heap.size,1,none⟩=some (.int .i64 0):=CP.cell 1
   have f0:=CP.free 0
   have f1:=CP.free 1
   have ZI:=Lib.hid CP
   clear Uu hn CP Vn HT
   go_wp2
   have D7:Row ((w2.setCell ⟨w.heap.size,0,none⟩ (.int .i64 (a:Int))).setCell ⟨w.heap.size,1,none⟩ (.int .i64 (m:Int))) w.heap.size 80 [.int .i64 (a:Int),.int .i64 (m:Int)]:=(ZI.out.set 0 _).set 1 _
   have r0:=D7.cell 0
   have r1:=D7.cell 1
   refine bodyPost_ret (v:=.tuple #[.agg #[.int .i64 (a:Int),.int .i64 (m:Int)],.int .i64 0]) (by simp[results,Tryz.results61,go_sem,r0,r1]) rfl ⟨rfl,KK.out _ (AL.two _ _ _ _ _ _)⟩
  ·rw[if_neg he]
   have g1:((er:Int) !=0)=true:=by simpa using he
   go_enter Tryz.func61,Tryz.ntmps61
   go_wp2_with fail
   refine HT.out.mono ?_;rintro e w2 ⟨rfl,hn⟩
   have Uu:=Vn.out _ _ hn
   have CP:Row w2 w.heap.size 80 [.int .i64 0,.int .i64 0]:=by
    obtain⟨G',k1,k2,k3⟩:=Uu
    exact k2.row Dr.out fun hg=>by have:=IP.out _ hg;omega
   have KK:Hid (∀w3,AL (fun k=>k=w.heap.size) w2 w3→AR w G p {F with S:=S'} n w3):=fun w3 hf=>Uu.own HB.out (Nat.le_refl _) (by rw[HZ.out];omega) IP.out pT.out hf
   have b0:w2.cell? ⟨w.heap.size,0,none⟩=some (.int .i64 0):=CP.cell 0
   have b1:w2.cell? ⟨w.heap.size,1,none⟩=some (.int .i64 0):=CP.cell 1
   have f0:=CP.free 0
   have f1:=CP.free 1
   have ZI:=Lib.hid CP
   clear Uu hn CP Vn HT
   go_wp2
   have D7:Row ((w2.setCell ⟨w.heap.size,0,none⟩ (.int .i64 0)).setCell ⟨w.heap.size,1,none⟩ (.int .i64 0)) w.heap.size 80 [.int .i64 0,.int .i64 0]:=(ZI.out.set 0 _).set 1 _
   have r0:=D7.cell 0
   have r1:=D7.cell 1
   refine bodyPost_ret (v:=.tuple #[.agg #[.int .i64 0,.int .i64 0],.int .i64 (er:Int)]) (by simp[results,Tryz.results61,go_sem,r0,r1]) rfl ⟨rfl,KK.out _ (AL.two _ _ _ _ _ _)⟩
theorem AR.cell{w w1:World}{G:Nat→Prop}{p:Wp}{F:Fs}{n:Nat}(h:AR w G p F n w1):w1.cell? ⟨p.w,0,none⟩=some (.pointer (some ⟨p.d,0,none⟩))∧w1.cell? ⟨p.w,1,none⟩=some (.pointer (some ⟨p.a,0,none⟩))∧w1.cell? ⟨p.w,2,none⟩=some (.pointer (some ⟨p.s,0,none⟩)):=by
 obtain⟨G',h1,_⟩:=h
 exact⟨h1.row.cell 0,h1.row.cell 1,h1.row.cell 2⟩
theorem AR.row{w w1:World}{G:Nat→Prop}{p:Wp}{F:Fs}{n g:Nat}{t:TypeId}{cs:List Value}(h:AR w G p F n w1)(hr:Row w g t cs)(hg:¬G g):Row w1 g t cs:=by
 obtain⟨G',h1,h2,_⟩:=h
 exact h2.row hr hg
theorem AR.trans{w w1 w':World}{G:Nat→Prop}{p:Wp}{F F':Fs}{n n':Nat}(h:AR w G p F n w1)(h2:∀G',Sys w1 G' p F n→(∀k,G' k→G k∨w.heap.size≤k)→AR w1 G' p F' n' w'):AR w G p F' n' w':=by
 obtain⟨G',h1,h3,h4⟩:=h
 obtain⟨DE,k1,k2,k3⟩:=h2 G' h1 h4
 exact⟨DE,k1,h3.trans k2 h4,fun k hk=>(k3 k hk).elim (fun h=>h4 k h) fun h=>.inr (Nat.le_trans h3.size h)⟩
theorem QL{w:World}{G:Nat→Prop}{p:Wp}{F:Fs}{n:Nat}(h:Sys w G p F n)(f m:Nat)(hf:f≤100000000)(hm:m≤100000000):
  Calls Tryz.prog 64 #[.pointer (some ⟨p.w,0,none⟩),.agg #[.int .i64 f,.int .i64 m]] w fun e w'=>e=.returned (.tuple #[])∧AR w G p {F with S:=Ay F.S f m} n w':=by
 have Am:=(Below.refl w.heap.size w).alloc (Nat.le_refl _) (.cells #[.int .i64 f,.int .i64 m] 80)
 have hrow:Row (w.alloc (.cells #[.int .i64 f,.int .i64 m] 80)) w.heap.size 80 [.int .i64 f,.int .i64 m]:=heap_alloc_new _ _
 have WN:¬G w.heap.size:=fun hg=>by have:=h.lt hg;omega
 by_cases hm0:m=0
 ·subst hm0
  have e0:Ay F.S f 0=F.S:=rfl
  rw[e0]
  have HX:Hid (AR w G p F n (w.alloc (.cells #[.int .i64 f,.int .i64 0] 80))):=AR.AJ h Am
  clear h Am hrow e0
  go_enter Tryz.func64,Tryz.ntmps64
  go_wp2
  go_end0
  exact⟨rfl,HX.out⟩
 ·have g0:decide ((m:Int)>0)=true:=by simp;omega
  have e0:Ay F.S f m=(CY F.S f m).1:=by unfold Ay;rw[if_neg hm0]
  have h1:=h.below Am
  have lN:Hid (∀q,Calls Tryz.prog 78 #[.pointer (some ⟨p.s,0,none⟩),.int .i64 f,.int .i64 m] ((w.alloc (.cells #[.int .i64 f,.int .i64 m] 80)).drewN q) fun e w'=>e=.returned (.int .i64 ((CY F.S f m).2:Nat))∧AR ((w.alloc (.cells #[.int .i64 f,.int .i64 m] 80)).drewN q) G p {F with S:=(CY F.S f m).1} n w'):=fun q=>by
   obtain⟨Gs,hs,IN⟩:=(h1.below (AF (Below.refl _ _) q)).pX
   exact(TV p.s F.S Gs f m _ hs (Fv.of (by omega) (by omega)) (Fv.of (by omega) (by omega))).mono fun e w' ⟨he,hn⟩=>⟨he,IN _ _ hn⟩
  have c2:(w.alloc (.cells #[.int .i64 f,.int .i64 m] 80)).cell? ⟨p.w,2,none⟩=some (.pointer (some ⟨p.s,0,none⟩)):=h1.row.cell 2
  have b0:(w.alloc (.cells #[.int .i64 f,.int .i64 m] 80)).cell? ⟨w.heap.size,0,none⟩=some (.int .i64 f):=hrow.cell 0
  have b1:(w.alloc (.cells #[.int .i64 f,.int .i64 m] 80)).cell? ⟨w.heap.size,1,none⟩=some (.int .i64 m):=hrow.cell 1
  have HB:=Lib.hid Am
  have Dr:=Lib.hid hrow
  rw[e0]
  clear h1 h Am hrow e0
  generalize CY F.S f m=q at*
  go_enter Tryz.func64,Tryz.ntmps64
  go_wp2
  generalize w.alloc (.cells #[.int .i64 f,.int .i64 m] 80)=w1 at*
  have e0:w1.drew.cell? ⟨p.w,2,none⟩=some (.pointer (some ⟨p.s,0,none⟩)):=c2
  have e1:w1.drew.cell? ⟨w.heap.size,0,none⟩=some (.int .i64 (f:Int)):=b0
  have e2:w1.drew.cell? ⟨w.heap.size,1,none⟩=some (.int .i64 (m:Int)):=b1
  go_region_held3 (fun w'=>w'.cell? ⟨p.w,2,none⟩=some (.pointer (some ⟨p.s,0,none⟩))∧w'.cell? ⟨w.heap.size,0,none⟩=some (.int .i64 (f:Int))∧w'.cell? ⟨w.heap.size,1,none⟩=some (.int .i64 (m:Int))) (first|with_reducible exact⟨e0,e1,e2⟩|with_reducible exact⟨d0,d1,d2⟩)
   (first
    |(go_at_call 78;refine(lN.out 1).mono ?_;rintro e w5 ⟨rfl,h5⟩;have d0:=h5.cell.2.2;have d1:w5.cell? ⟨w.heap.size,0,none⟩=some (.int .i64 (f:Int)):=(h5.row (Dr.out.drewN 1) WN).cell 0;have d2:w5.cell? ⟨w.heap.size,1,none⟩=some (.int .i64 (m:Int)):=(h5.row (Dr.out.drewN 1) WN).cell 1))
  go_wp2
  go_end0
  exact⟨rfl,h5.behind (AF HB.out 1)⟩
structure Wt where
 k:Nat
 h:Nat
 bound:Nat
 first:Nat
 blocks:Nat
 b:Nat
 g:Nat
 l:List AB
def R7(p:Wp)(t:Wt):List Value:=[.int .i64 t.k,.int .i64 t.h,.pointer (some ⟨p.w,0,none⟩),.int .i64 t.bound,.int .i64 (t.l.length:Nat),.int .i64 t.first,.int .i64 t.blocks,.pointer (some ⟨t.b,0,none⟩)]
structure Ca (t:Wt) (sz:Nat):Prop where
 k:0<t.k∧t.k≤5
 h:0<t.h∧t.h*t.k≤sz-2∧t.h≤254
 sz:8≤sz∧sz≤256
 bound:t.bound≤100000000∧t.l.length≤t.bound
 blocks:t.blocks=AA t.h t.bound∧t.blocks≤2000000
 first:t.first≤2000000
def Br(w:World)(G:Nat→Prop)(b:Nat)(p:Wp)(F:Fs)(n:Nat)(w':World):Prop:=
 ∃G',Sys w' G' p F n∧AL (fun k=>G k∨k=b) w w'∧(∀k,G' k→G k∨w.heap.size≤k)∧Row w' b 126 [.slice none 0 0]
theorem Br.behind{w w1 w':World}{G:Nat→Prop}{b n:Nat}{p:Wp}{F:Fs}(hb:Below w.heap.size w w1)(h:Br w1 G b p F n w'):Br w G b p F n w':=by
 obtain⟨G',h1,h2,h3,h4⟩:=h
 exact⟨G',h1,(AL.AJ hb (fun k=>G k∨k=b)).trans h2 fun b hb'=>.inl hb',fun k hk=>(h3 k hk).imp id fun h=>Nat.le_trans hb.size h,h4⟩
theorem Br.cell{w w1:World}{G:Nat→Prop}{b n:Nat}{p:Wp}{F:Fs}(h:Br w G b p F n w1):w1.cell? ⟨p.w,0,none⟩=some (.pointer (some ⟨p.d,0,none⟩))∧w1.cell? ⟨p.w,1,none⟩=some (.pointer (some ⟨p.a,0,none⟩))∧w1.cell? ⟨p.w,2,none⟩=some (.pointer (some ⟨p.s,0,none⟩)):=by
 obtain⟨G',h1,_⟩:=h
 exact⟨h1.row.cell 0,h1.row.cell 1,h1.row.cell 2⟩
theorem Br.row{w w1:World}{G:Nat→Prop}{b n g:Nat}{p:Wp}{F:Fs}{t:TypeId}{cs:List Value}(h:Br w G b p F n w1)(hr:Row w g t cs)(hg:¬G g)(hb:g≠b):Row w1 g t cs:=by
 obtain⟨G',h1,h2,_⟩:=h
 exact h2.row hr fun h=>h.elim hg hb
theorem Br.ahead{w w1 w':World}{G:Nat→Prop}{b n:Nat}{p:Wp}{F F':Fs}{n':Nat}(h:AR w G p F n w1)(hb:b<w.heap.size)(hG:¬G b)(h2:∀G',Sys w1 G' p F n→(∀k,G' k→G k∨w.heap.size≤k)→¬G' b→Br w1 G' b p F' n' w'):Br w G b p F' n' w':=by
 obtain⟨G',h1,h3,h4,h5⟩:=h.apart
 obtain⟨DE,k1,k2,k3,k4⟩:=h2 G' h1 h4 (h5 b hb hG)
 refine⟨DE,k1,(h3.mono fun k hk=>.inl hk).trans k2 fun k hk=>hk.elim (fun h=>(h4 k h).imp_left .inl) fun h=>.inl (.inr h),fun k hk=>(k3 k hk).elim (fun h=>h4 k h) fun h=>.inr (Nat.le_trans h3.size h),k4⟩
theorem Br.from{w w1 w':World}{G G':Nat→Prop}{b n:Nat}{p:Wp}{F:Fs}(h1:AL G w w1)(h2:∀k,G' k→G k∨w.heap.size≤k)(h:Br w1 G' b p F n w'):Br w G b p F n w':=by
 obtain⟨DE,k1,k2,k3,k4⟩:=h
 exact⟨DE,k1,(h1.mono fun k hk=>.inl hk).trans k2 fun k hk=>hk.elim (fun h=>(h2 k h).imp_left .inl) fun h=>.inl (.inr h),fun k hk=>(k3 k hk).elim (fun h=>h2 k h) fun h=>.inr (Nat.le_trans h1.size h),k4⟩
theorem Ib{w:World}{G:Nat→Prop}{p:Wp}{F:Fs}{n:Nat}(h:Sys w G p F n){b m:Nat}(hb:wordsAt F.A.st b=some m):
  Calls Tryz.prog 80 #[.pointer (some ⟨p.a,0,none⟩),.pointer (some ⟨b,0,none⟩)] w fun e w'=>e=.returned (.bool true)∧Br w G b p {F with A:=release F.A b m} n w':=by
 obtain⟨N7,RT⟩:=h.buf (EU _ _ _ hb)
 obtain⟨Ga,ha,_,hrel⟩:=h.uA
 refine(SZ p.a F.A Ga b m w ha N7 hb).mono ?_
 rintro e w' ⟨he,h1,h2,h3⟩
 obtain⟨k1,k2⟩:=hrel w' b m h1 h3 RT
 exact⟨he,G,k1,k2,fun k hk=>.inl hk,h2⟩
section
variable {w : World} {x : Nat} {p : Wp} {t : Wt}
theorem Df{A:Option Addr}{m c:Nat}(hr:Row w x 122 (R7 p t))(hb:Row w t.b 126 [.slice A m c]):Calls Tryz.prog 65 #[.pointer (some ⟨x,0,none⟩)] w fun e w'=>e=.returned (.bool (!decide (0<m)))∧w'=w:=by
 have c7:w.cell? ⟨x,7,none⟩=some (.pointer (some ⟨t.b,0,none⟩)):=hr.cell 7
 have HS:=Lib.hid (SG hb)
 clear hb hr
 go_enter Tryz.func65,Tryz.ntmps65
 go_wp2_with fail
 refine HS.out.mono ?_;rintro e w1 ⟨rfl,rfl⟩
 go_wp2
 go_ret
 exact⟨Du (by simp),rfl⟩
end
def EA(F:Fs)(t:Wt)(kept:Nat):Fs:={F with S:=Ay F.S (t.first+kept) (t.blocks-kept),A:=release F.A t.b F.D.size}
theorem NK{w:World}{G:Nat→Prop}{p:Wp}{F:Fs}{n x:Nat}{t:Wt}(h:Sys w G p F n)(hr:Row w x 122 (R7 p t))(hx:¬G x)(hst:wordsAt F.A.st t.b=some F.D.size)(Kk:x≠t.b)(hf:t.first≤2000000)(IZ:t.blocks≤2000000)(kept:Nat)(hk:kept≤t.blocks):
  Calls Tryz.prog 66 #[.pointer (some ⟨x,0,none⟩),.int .i64 kept] w fun e w'=>e=.returned (.tuple #[])∧Br w G t.b p (EA F t kept) n w':=by
 obtain⟨_,RT⟩:=h.buf (EU _ _ _ hst)
 have zK:t.b<w.heap.size:=(h.buf (EU _ _ _ hst)).1.lt
 have Lk:=Row.lt hr
 have lN:Hid (Calls Tryz.prog 64 #[.pointer (some ⟨p.w,0,none⟩),.agg #[.int .i64 (t.first+kept:Nat),.int .i64 (t.blocks-kept:Nat)]] w.drew fun e w'=>e=.returned (.tuple #[])∧AR w G p {F with S:=Ay F.S (t.first+kept) (t.blocks-kept)} n w'):=
  (QL (h.below (AG (Below.refl _ w))) _ _ (by omega) (by omega)).mono fun e w' ⟨he,h1⟩=>⟨he,h1.behind (AG (Below.refl _ w))⟩
 have qW:Hid (∀w1,AR w G p {F with S:=Ay F.S (t.first+kept) (t.blocks-kept)} n w1→Calls Tryz.prog 80 #[.pointer (some ⟨p.a,0,none⟩),.pointer (some ⟨t.b,0,none⟩)] w1.drew fun e w'=>e=.returned (.bool true)∧Br w G t.b p (EA F t kept) n w'∧Row w' x 122 (R7 p t)):=fun w1 h1=>by
  have Bl:=h1.row hr hx
  obtain⟨G',k1,k2,k3,k4⟩:=h1.apart
  refine(Ib (k1.below (AG (Below.refl _ w1))) (show wordsAt F.A.st t.b=some F.D.size from hst)).mono fun e w' ⟨he,h2⟩=>⟨he,?_⟩
  obtain⟨DE,m1,m2,m3,m4⟩:=h2
  have m2':AL (fun k=>G' k∨k=t.b) w1 w':=⟨m2.os,m2.tape,m2.output,m2.size,m2.block⟩
  refine⟨⟨DE,m1,(k2.mono fun k hk=>.inl hk).trans m2' fun k hk=>hk.elim (fun h=>(k3 k h).imp_left .inl) fun h=>.inl (.inr h),fun k hk=>(m3 k hk).elim (fun h=>k3 k h) fun h=>.inr (Nat.le_trans k2.size h),m4⟩,m2'.row Bl ?_⟩
  rintro(h5|h5)
  ·exact k4 x Lk hx h5
  ·exact Kk h5
 have Dr:Hid (∀w1,AR w G p {F with S:=Ay F.S (t.first+kept) (t.blocks-kept)} n w1→Row w1 x 122 (R7 p t)):=fun w1 h1=>h1.row hr hx
 generalize EA F t kept=F2 at*
 obtain⟨tk,th,bound,first,blocks,b,g,l⟩:=t
 simp only[R7]at*
 generalize l.length=cnt at*
 generalize({F with S:=Ay F.S (first+kept) (blocks-kept)}:Fs)=F1 at*
 obtain⟨u,hu⟩:∃u,first+kept=u:=⟨_,rfl⟩
 obtain⟨v,hv⟩:∃v,blocks-kept=v:=⟨_,rfl⟩
 rw[hu,hv]at lN
 have Ls:(first:Int)+(kept:Int)=(u:Int):=by omega
 have Fc:(blocks:Int)-(kept:Int)=(v:Int):=by omega
 have Ew:u≤4000000:=by omega
 have ay:v≤2000000:=by omega
 have c2:w.drew.cell? ⟨x,2,none⟩=some (.pointer (some ⟨p.w,0,none⟩)):=hr.cell 2
 have c5:w.drew.cell? ⟨x,5,none⟩=some (.int .i64 first):=hr.cell 5
 have c6:w.drew.cell? ⟨x,6,none⟩=some (.int .i64 blocks):=hr.cell 6
 have b2:w.cell? ⟨x,2,none⟩=some (.pointer (some ⟨p.w,0,none⟩)):=hr.cell 2
 have b5:w.cell? ⟨x,5,none⟩=some (.int .i64 first):=hr.cell 5
 have b6:w.cell? ⟨x,6,none⟩=some (.int .i64 blocks):=hr.cell 6
 clear hu hv hr h hst hk IZ hf hx Kk zK RT Lk
 have hwu:IntKind.i64.wrap (u:Int)=(u:Int):=IntWalk.i64_in _ (by omega)
 have hwv:IntKind.i64.wrap (v:Int)=(v:Int):=IntWalk.i64_in _ ⟨by clear hwu;omega,by clear hwu;omega⟩
 go_enter Tryz.func66,Tryz.ntmps66
 go_wp2
 go_region_held3 (fun w'=>w'.cell? ⟨x,2,none⟩=some (.pointer (some ⟨p.w,0,none⟩))∧w'.cell? ⟨x,5,none⟩=some (.int .i64 (first:Int))∧w'.cell? ⟨x,6,none⟩=some (.int .i64 (blocks:Int))) (first|with_reducible exact⟨c2,c5,c6⟩|with_reducible exact⟨d2,d5,d6⟩)
  (first
   |(go_at_call 64;refine lN.out.mono ?_;rintro e w1 ⟨rfl,h1⟩;have Bl:=Dr.out _ h1;have d2:w1.cell? ⟨x,2,none⟩=some (.pointer (some ⟨p.w,0,none⟩)):=Bl.cell 2;have d5:w1.cell? ⟨x,5,none⟩=some (.int .i64 (first:Int)):=Bl.cell 5;have d6:w1.cell? ⟨x,6,none⟩=some (.int .i64 (blocks:Int)):=Bl.cell 6))
 have e2:w1.drew.cell? ⟨x,2,none⟩=some (.pointer (some ⟨p.w,0,none⟩)):=d2
 have d7:w1.cell? ⟨x,7,none⟩=some (.pointer (some ⟨b,0,none⟩)):=Bl.cell 7
 have e7:w1.drew.cell? ⟨x,7,none⟩=some (.pointer (some ⟨b,0,none⟩)):=Bl.cell 7
 have d1:=h1.cell.2.1
 have e1:w1.drew.cell? ⟨p.w,1,none⟩=some (.pointer (some ⟨p.a,0,none⟩)):=d1
 have HRM:=Lib.hid (qW.out w1 h1)
 clear h1 Bl lN Dr qW c2 c5 c6 b2 b5 b6 d5 d6
 go_wp2
 go_region_held3 (fun w'=>w'.cell? ⟨x,2,none⟩=some (.pointer (some ⟨p.w,0,none⟩))∧w'.cell? ⟨x,7,none⟩=some (.pointer (some ⟨b,0,none⟩))∧w'.cell? ⟨p.w,1,none⟩=some (.pointer (some ⟨p.a,0,none⟩))) (first|with_reducible exact⟨e2,e7,e1⟩|with_reducible exact⟨f2,f7,f1⟩)
  (first
   |(go_at_call 80;refine HRM.out.mono ?_;rintro e w2 ⟨rfl,h2,Av⟩;have f2:w2.cell? ⟨x,2,none⟩=some (.pointer (some ⟨p.w,0,none⟩)):=Av.cell 2;have f7:w2.cell? ⟨x,7,none⟩=some (.pointer (some ⟨b,0,none⟩)):=Av.cell 7;have f1:=h2.cell.2.1))
 go_wp2
 go_end0
 exact⟨rfl,h2⟩
theorem XG{w:World}{G:Nat→Prop}{p:Wp}{F:Fs}{n x:Nat}{t:Wt}{A:Option Addr}{m c:Nat}(h:Sys w G p F n)(hr:Row w x 122 (R7 p t))(hb:Row w t.b 126 [.slice A m c])(hm:0<m)(hx:¬G x)(hst:wordsAt F.A.st t.b=some F.D.size)(Kk:x≠t.b)(hf:t.first≤2000000)(IZ:t.blocks≤2000000):
  Calls Tryz.prog 38 #[.pointer (some ⟨x,0,none⟩)] w fun e w'=>(e=.returned (.tuple #[])∧Br w G t.b p (EA F t 0) n w'):=by
 have hc:=Df hr hb
 rw[decide_eq_true hm]at hc
 have HC:=Lib.hid hc
 have HW:Hid (Calls Tryz.prog 66 #[.pointer (some ⟨x,0,none⟩),.int .i64 0] w fun e w'=>e=.returned (.tuple #[])∧Br w G t.b p (EA F t 0) n w'):=NK h hr hx hst Kk hf IZ 0 (Nat.zero_le _)
 clear hc h hr hb hm hx hst Kk hf IZ
 go_enter Tryz.func38,Tryz.ntmps38
 go_wp2_with fail
 refine HC.out.mono ?_;rintro e w1 ⟨rfl,rfl⟩
 go_wp2_with fail
 refine HW.out.mono ?_;rintro e w2 ⟨rfl,h2⟩
 have H2:=Lib.hid h2
 clear h2
 go_wp2
 go_end0
 exact⟨rfl,H2.out⟩
theorem PW(u:FrameMode){w:World}{G:Nat→Prop}{p:Wp}{F:Fs}{n x:Nat}{t:Wt}{A:Option Addr}{m c:Nat}(h:Sys w G p F n)(hr:Row w x 122 (R7 p t))(hb:Row w t.b 126 [.slice A m c])(hm:0<m)(hx:¬G x)(hst:wordsAt F.A.st t.b=some F.D.size)(Kk:x≠t.b)(hf:t.first≤2000000)(IZ:t.blocks≤2000000):
  CallsD Tryz.prog 38 #[.pointer (some ⟨x,0,none⟩)] u w fun e u' w'=>u'=u∧(e=.returned (.tuple #[])∧Br w G t.b p (EA F t 0) n w'):=by
 have hc:=Df hr hb
 rw[decide_eq_true hm]at hc
 have HC:=Lib.hid hc
 have HW:Hid (Calls Tryz.prog 66 #[.pointer (some ⟨x,0,none⟩),.int .i64 0] w fun e w'=>e=.returned (.tuple #[])∧Br w G t.b p (EA F t 0) n w'):=NK h hr hx hst Kk hf IZ 0 (Nat.zero_le _)
 clear hc h hr hb hm hx hst Kk hf IZ
 go_enter_d Tryz.func38,Tryz.ntmps38
 go_wp2_with fail
 refine HC.out.mono ?_;rintro e w1 ⟨rfl,rfl⟩
 go_wp2_with fail
 refine HW.out.mono ?_;rintro e w2 ⟨rfl,h2⟩
 have H2:=Lib.hid h2
 clear h2
 go_wp2
 go_end0
 exact⟨rfl,H2.out⟩
theorem FW(u:FrameMode){w:World}{p:Wp}{x:Nat}{t:Wt}{A:Option Addr}{c:Nat}(hr:Row w x 122 (R7 p t))(hb:Row w t.b 126 [.slice A 0 c]):
  CallsD Tryz.prog 38 #[.pointer (some ⟨x,0,none⟩)] u w fun e u' w'=>u'=u∧(e=.returned (.tuple #[])∧w'=w):=by
 have hc:=Df hr hb
 rw[decide_eq_false (Nat.lt_irrefl 0)]at hc
 have HC:=Lib.hid hc
 clear hc hr hb
 go_enter_d Tryz.func38,Tryz.ntmps38
 go_wp2_with fail
 refine HC.out.mono ?_;rintro e w1 ⟨rfl,rfl⟩
 go_wp2
 go_end0
 exact⟨rfl,rfl⟩
structure G3 (w:World) (x:Nat) (p:Wp) (t:Wt) (sz:Nat) (ws:List Nat):Prop where
 row:Row w x 122 (R7 p t)
 buf:Row w t.b 126 [.slice (some ⟨t.g,0,none⟩) sz sz]
 words:Row w t.g 127 (ws.map vw)
 len:ws.length=sz
 u64:JR ws
structure PM (G:Nat→Prop) (x:Nat) (t:Wt):Prop where
 x:¬G x
 b:¬G t.b
 g:¬G t.g
theorem G3.Cc{w w':World}{x:Nat}{p:Wp}{t:Wt}{sz:Nat}{ws:List Nat}{R:Nat→Prop}(h:G3 w x p t sz ws)(hf:AL R w w')(h1:¬R x)(h2:¬R t.b)(h3:¬R t.g):G3 w' x p t sz ws:=⟨hf.row h.row h1,hf.row h.buf h2,hf.row h.words h3,h.len,h.u64⟩
theorem G3.below{w w':World}{x:Nat}{p:Wp}{t:Wt}{sz:Nat}{ws:List Nat}(h:G3 w x p t sz ws)(hb:Below w.heap.size w w'):G3 w' x p t sz ws:=h.Cc (AL.AJ hb fun _=>False) (fun h=>h) (fun h=>h) (fun h=>h)
theorem G3.lt{w:World}{x:Nat}{p:Wp}{t:Wt}{sz:Nat}{ws:List Nat}(h:G3 w x p t sz ws):x<w.heap.size∧t.b<w.heap.size∧t.g<w.heap.size:=⟨h.row.lt,h.buf.lt,h.words.lt⟩
theorem G3.apart{w:World}{x:Nat}{p:Wp}{t:Wt}{sz:Nat}{ws:List Nat}(h:G3 w x p t sz ws):x≠t.b∧x≠t.g∧t.b≠t.g:=
 ⟨fun e=>absurd (h.row.typed (e▸h.buf)) (by decide),fun e=>absurd (h.row.typed (e▸h.words)) (by decide),fun e=>absurd (h.buf.typed (e▸h.words)) (by decide)⟩
theorem ET(s:St)(i:Int)(l:List Nat):(write s i l).2.size=s.size∧(write s i l).2.blocks=s.blocks:=by
 obtain⟨e1,e2,e3,e4⟩:=DC s (right s i&&decide (l.length=s.size))
 unfold write
 dsimp only
 split
 ·exact⟨e1,e2⟩
 ·exact⟨e1,e2⟩
theorem XN{w:World}{G:Nat→Prop}{p:Wp}{F:Fs}{n:Nat}(h:Sys w G p F n)(hn:n<1000000)(i:Int)(hi:Fv i)(A:Option Addr)(m c:Nat)(l:List Nat){B:Nat}(hl:Reads .u64 w B A m l)(hB:B≤w.heap.size):
  Calls Tryz.prog 88 #[.pointer (some ⟨p.d,0,none⟩),.int .i64 i,.slice A m c] w fun e w'=>e=.returned (.int .i64 (write F.D i l).1)∧AR w G p {F with D:=(write F.D i l).2} (n+1) w':=by
 obtain⟨Gd,hd,IN⟩:=h.dev
 exact(XE p.d F.D n Gd i A m c l w hd hn hi hl hB).mono fun e w' ⟨he,h1⟩=>⟨he,IN _ _ _ h1⟩
def AV(t:Wt):Nat:=t.first+(AA t.h t.l.length-1)
def AU(sz:Nat)(t:Wt):List Nat:=DK sz (AV t) t.k (BC t.k (Cv t.h t.l))
def Rl(w:World)(G:Nat→Prop)(p:Wp)(F:Fs)(n:Nat)(t:Wt)(e:Ending)(w':World):Prop:=
  e=.returned (.int .i64 (write F.D (AV t:Nat) (AU F.D.size t)).1)∧
  (((write F.D (AV t:Nat) (AU F.D.size t)).1=0∧AR w G p {F with D:=(write F.D (AV t:Nat) (AU F.D.size t)).2} (n+1) w')∨
   ((write F.D (AV t:Nat) (AU F.D.size t)).1≠0∧Br w G t.b p (EA {F with D:=(write F.D (AV t:Nat) (AU F.D.size t)).2} t 0) (n+1) w'))
theorem PV{w:World}{G:Nat→Prop}{p:Wp}{F:Fs}{n x:Nat}{t:Wt}{ws:List Nat}(h:Sys w G p F n)(hn:n<1000000)(hok:Ca t F.D.size)(hm:G3 w x p t F.D.size ws)(ho:PM G x t)(hst:wordsAt F.A.st t.b=some F.D.size)(hl:0<t.l.length)
  (jy:ws.take ((Cv t.h t.l).length*t.k)=BC t.k (Cv t.h t.l)):Calls Tryz.prog 69 #[.pointer (some ⟨x,0,none⟩)] w (Rl w G p F n t):=by
 obtain⟨i0,hi,By,B3,EX⟩:=info_parts MD
 obtain⟨hx,En,Iv⟩:=hm.lt
 obtain⟨Kk,T0,Ry⟩:=hm.apart
 have hsz:=hok.sz
 have hk:=hok.k
 have hh:=hok.h
 have hbd:=hok.bound
 have IZ:=hok.blocks
 have g7:=hok.first
 obtain⟨l1,l2,l3⟩:=JH hh.1 hl
 have eK:=Bj hh.1 hl
 have zJ:=BL t.h t.l.length
 obtain⟨j,hj⟩:∃j,j=AA t.h t.l.length-1:=⟨_,rfl⟩
 have nQ:((AA t.h t.l.length:Nat):Int)-1=(j:Int):=by omega
 obtain⟨ad,had⟩:∃ad,ad=t.first+j:=⟨_,rfl⟩
 have Ls:(t.first:Int)+(j:Int)=(ad:Int):=by omega
 have nP:j≤2000000:=by
  have h1:=Aq (h:=t.h) hh.1 hbd.2
  have:=IZ.1;have:=IZ.2;omega
 have AG1:ad≤4000000:=by omega
 obtain⟨m,hmm⟩:∃m,m=(Cv t.h t.l).length*t.k:=⟨_,rfl⟩
 have qA:min t.h (t.l.length-j*t.h)*t.k=m:=by rw[hmm,l3,←hj];congr 1;rw[l3,←hj]at l1;omega
 have TN:m≤F.D.size-2:=by
  rw[hmm];exact Nat.le_trans (Nat.mul_le_mul_right _ l1) hh.2.1
 have eJ:j*t.h≤t.l.length:=by have:=(Eb hh.1 hl).1;rw[←hj]at this;omega
 have Mo:Hid (∀W,Calls Tryz.prog 62 #[.agg #[.int .i64 t.k,.int .i64 t.h],.int .i64 (t.l.length:Nat)] W fun e w'=>e=.returned (.int .i64 (AA t.h t.l.length:Nat))∧Below W.heap.size W w'):=fun W=>Fk t.k t.h t.l.length W hh.1 hh.2.2 (by omega)
 have HWO:Hid (∀W,Calls Tryz.prog 87 #[.agg #[.int .i64 t.k,.int .i64 t.h],.int .i64 j,.int .i64 (t.l.length:Nat)] W fun e w'=>e=.returned (.int .i64 (m:Nat))∧Below W.heap.size W w'):=fun W=>by
  have:=NF t.k t.h j t.l.length W hk.2 hh.2.2 (by omega) eJ
  rwa [qA]at this
 have JS:Hid (∀W,Below w.heap.size w W→Calls Tryz.prog 44 #[.pointer (some ⟨p.d,0,none⟩)] W fun e w'=>e=.returned (.int .i64 (F.D.size:Int))∧w'=W):=fun W hb=>(h.below hb).Dm
 have hku:∀y∈BC t.k (Cv t.h t.l),(Lit.int .u64 (y:Nat)).wf=true:=fun y hy=>LS (Lw _ _ y hy)
 have Tp:Hid (∀W,Below w.heap.size w W→Calls Tryz.prog 86 #[.int .i64 (F.D.size:Int),.int .i64 ad,.int .u64 t.k,.slice (some ⟨t.g,0,none⟩) m F.D.size] W fun e w'=>e=.returned (.tuple #[.slice (some ⟨W.heap.size,0,none⟩) F.D.size F.D.size,.int .i64 0])∧Row w' W.heap.size 127 ((AU F.D.size t).map vw)∧Below W.heap.size W w'):=fun W hb=>by
  have hrd:=((hm.words.below hb Iv).words (n:=m) (by rw[hm.len];omega) (fun y hy=>LS (hm.u64 y hy)))
  rw[hmm,jy]at hrd
  rw[←hmm]at hrd
  have:=mM F.D.size ad t.k (some ⟨t.g,0,none⟩) m F.D.size _ W hrd (Nat.le_refl _) hsz.1 hsz.2 (by omega) (by omega) TN
  unfold AU AV;rw[←hj,←had];exact this
 have Cg:Hid ((AU F.D.size t).length=F.D.size∧∀y∈AU F.D.size t,(Lit.int .u64 (y:Nat)).wf=true):=by
  have EM:(BC t.k (Cv t.h t.l)).length≤F.D.size-2:=by rw[Gr hk.2,←hmm];exact TN
  exact⟨Ic EM (by omega),fun y hy=>LS (Zv (Lw _ _) (by omega) (by omega) y hy)⟩
 have lC:Hid (∀W g8,Below w.heap.size w W→Row W g8 127 ((AU F.D.size t).map vw)→Calls Tryz.prog 88 #[.pointer (some ⟨p.d,0,none⟩),.int .i64 ad,.slice (some ⟨g8,0,none⟩) F.D.size F.D.size] W fun e w'=>e=.returned (.int .i64 (write F.D (ad:Nat) (AU F.D.size t)).1)∧AR w G p {F with D:=(write F.D (ad:Nat) (AU F.D.size t)).2} (n+1) w'):=fun W g8 hb Ey=>by
  have hrd:=Ey.words (n:=F.D.size) (by rw[Cg.out.1];exact Nat.le_refl _) Cg.out.2
  rw[List.take_of_length_le (by rw[Cg.out.1];exact Nat.le_refl _)]at hrd
  exact(XN (h.below hb) hn (ad:Int) (Fv.of (by omega) (by omega)) _ _ _ _ hrd (Nat.le_refl _)).mono fun e w' ⟨he,h1⟩=>⟨he,h1.behind hb⟩
 have qn:Hid (∀W D',D'.size=F.D.size→AR w G p {F with D:=D'} (n+1) W→Calls Tryz.prog 38 #[.pointer (some ⟨x,0,none⟩)] W fun e w'=>e=.returned (.tuple #[])∧Br w G t.b p (EA {F with D:=D'} t 0) (n+1) w'):=fun W D' hD h1=>by
  have Bl:=h1.row hm.row ho.x
  have Am:=h1.row hm.buf ho.b
  obtain⟨G',k1,k2,k3,k4⟩:=h1.apart
  refine(XG k1 Bl Am (by omega) (k4 x hx ho.x) (show wordsAt F.A.st t.b=some D'.size by rw[hD];exact hst) Kk g7 (by omega)).mono ?_
  rintro e w' ⟨he,h2⟩
  exact⟨he,Br.from k2 k3 h2⟩
 have HSE:Hid ((write F.D (ad:Nat) (AU F.D.size t)).2.size=F.D.size):=(ET _ _ _).1
 have wu:Hid (AV t=ad):=by unfold Hid AV;rw[←hj,←had]
 have Dr:=Lib.hid hm.row
 have pT:=Lib.hid hm.buf
 have HC:Hid (∀W,Below w.heap.size w W→W.cell? ⟨x,0,none⟩=some (.int .i64 t.k)∧W.cell? ⟨x,1,none⟩=some (.int .i64 t.h)∧W.cell? ⟨x,4,none⟩=some (.int .i64 (t.l.length:Nat))∧W.cell? ⟨x,7,none⟩=some (.pointer (some ⟨t.b,0,none⟩))∧W.cell? ⟨t.b,0,none⟩=some (.slice (some ⟨t.g,0,none⟩) F.D.size F.D.size)):=fun W hb=>
  have r:=hm.row.below hb hx
  have rb:=hm.buf.below hb En
  ⟨r.cell 0,r.cell 1,r.cell 4,r.cell 7,rb.cell 0⟩
 have c2:∀W,Below w.heap.size w W→W.cell? ⟨x,2,none⟩=some (.pointer (some ⟨p.w,0,none⟩))∧W.cell? ⟨x,5,none⟩=some (.int .i64 t.first)∧W.cell? ⟨p.w,0,none⟩=some (.pointer (some ⟨p.d,0,none⟩)):=fun W hb=>
  have r:=hm.row.below hb hx
  have rw_:=(h.below hb).row
  ⟨r.cell 2,r.cell 5,rw_.cell 0⟩
 have GY:=Lib.hid c2
 obtain⟨er,YT⟩:∃er,er=(write F.D (ad:Nat) (AU F.D.size t)).1:=⟨_,rfl⟩
 obtain⟨F1,T4⟩:∃F1:Fs,F1={F with D:=(write F.D (ad:Nat) (AU F.D.size t)).2}:=⟨_,rfl⟩
 have pQ:Hid (∀W,AR w G p F1 (n+1) W→Calls Tryz.prog 38 #[.pointer (some ⟨x,0,none⟩)] W fun e w'=>e=.returned (.tuple #[])∧Br w G t.b p (EA F1 t 0) (n+1) w'):=fun W h1=>by
  subst T4;exact qn.out W _ HSE.out h1
 have IP:Hid (∀w',((er=0∧AR w G p F1 (n+1) w')∨(er≠0∧Br w G t.b p (EA F1 t 0) (n+1) w'))→Rl w G p F n t (.returned (.int .i64 er)) w'):=fun w' h1=>by
  subst YT;subst T4
  unfold Rl;rw[wu.out];exact⟨rfl,h1⟩
 rw[←YT,←T4]at lC
 have hcut:=fun W=>CK (P:=Tryz.prog) W 123 127 i0 Tryz.underlying123 hi (some ⟨t.g,0,none⟩) F.D.size F.D.size m (by omega) .i64 (m:Int) rfl
 generalize Rl w G p F n t=FK at*
 generalize AU F.D.size t=bk at*
 generalize EA F1 t 0=FE at*
 clear YT T4 qn HSE wu jy hst hok hm ho h l1 l2 l3 eK zJ hj qA hmm hi By B3 EX hl had eJ hku Cg c2
 obtain⟨k,E5,bound,first,blocks,b,g,l⟩:=t
 simp only at*
 generalize AA E5 l.length=nb at*
 generalize l.length=cnt at*
 generalize F.D.size=size at*
 have hwj:IntKind.i64.wrap (j:Int)=(j:Int):=IntWalk.i64_in _ (by omega)
 have hwk:IntKind.u64.wrap (k:Int)=(k:Int):=IntWalk.u64_in _ ⟨by clear hwj;omega,by clear hwj;omega⟩
 clear IZ hbd hx En Iv Kk T0 Ry g7
 have d1:=HC.out w (Below.refl _ _)
 have e1:=HC.out w.drew (AG (Below.refl _ _))
 go_enter Tryz.func69,Tryz.ntmps69
 go_wp2
 go_region_held3 (fun w'=>Below w.heap.size w w'∧w'.cell? ⟨x,0,none⟩=some (.int .i64 k)∧w'.cell? ⟨x,1,none⟩=some (.int .i64 E5)∧w'.cell? ⟨x,4,none⟩=some (.int .i64 cnt)) (first|with_reducible exact⟨AG (Below.refl _ _),e1.1,e1.2.1,e1.2.2.1⟩|with_reducible exact⟨Am,f1.1,f1.2.1,f1.2.2.1⟩)
  (first
   |(go_at_call 62;refine(Mo.out _).mono ?_;rintro e w1 ⟨rfl,Am⟩;replace Am:=(AG (Below.refl w.heap.size w)).trans Am;have f1:=HC.out w1 Am))
 obtain⟨g2,g5,gd⟩:=GY.out w1 Am
 have hbd:=AG Am
 have q0:=HC.out w1 Am
 have q1:=HC.out w1.drew hbd
 clear e1 f1 d1 Mo GY
 go_wp2
 clear g2 g5 gd
 go_region_held3 (fun w'=>Below w.heap.size w w'∧w'.cell? ⟨x,0,none⟩=some (.int .i64 k)∧w'.cell? ⟨x,1,none⟩=some (.int .i64 E5)∧w'.cell? ⟨x,4,none⟩=some (.int .i64 cnt)∧w'.cell? ⟨x,7,none⟩=some (.pointer (some ⟨b,0,none⟩))∧w'.cell? ⟨b,0,none⟩=some (.slice (some ⟨g,0,none⟩) size size))
  (first|with_reducible exact⟨hbd,q1⟩|with_reducible exact⟨AZ,q2⟩|with_reducible exact⟨A8,q3⟩)
  (first
   |(go_at_call 44;(with_reducible refine(JS.out _ (by first|exact hbd|exact AZ)).mono ?_);rintro e w8 ⟨rfl,rfl⟩)
   |(go_at_call 87;(with_reducible refine(HWO.out _).mono ?_);rintro e w2 ⟨rfl,AZ⟩;replace AZ:=hbd.trans (AZ.mono hbd.size);have q2:=HC.out w2 AZ)
   |(go_at_call 86;(with_reducible refine(Tp.out _ AZ).mono ?_);rintro e w3 ⟨rfl,Cn,A8⟩;replace A8:=AZ.trans (A8.mono AZ.size);have q3:=HC.out w3 A8;have IK:=Lib.hid Cn;clear Cn))
 clear q0 q1 q2 q3 AZ Tp HWO JS HC hcut
 by_cases he:er=0
 ·subst he
  go_wp2_with fail
  refine(lC.out w3 _ A8 IK.out).mono ?_;rintro e w4 ⟨rfl,h4⟩
  have H4:=Lib.hid (IP.out w4 (.inl ⟨by trivial,h4⟩))
  clear h4 IP pQ lC
  go_wp2
  exact H4.out
 ·have g9:(er !=0)=true:=by simpa using he
  go_wp2_with fail
  refine(lC.out w3 _ A8 IK.out).mono ?_;rintro e w4 ⟨rfl,h4⟩
  have H4:=Lib.hid h4
  clear h4 lC
  go_wp2_with fail
  refine(pQ.out w4 H4.out).mono ?_;rintro e w5 ⟨rfl,h5⟩
  have H5:=Lib.hid (IP.out w5 (.inr ⟨he,h5⟩))
  clear h5 IP pQ
  go_wp2
  exact H5.out
def Jf(w:World)(x:Nat)(p:Wp)(t:Wt)(sz:Nat):Prop:=∃ws,G3 w x p t sz ws∧Oc t.k t.h t.l ws
def Je(w:World)(x:Nat)(p:Wp)(t:Wt):Prop:=Row w x 122 (R7 p t)∧Row w t.b 126 [.slice none 0 0]
def Wt.snoc(t:Wt)(tu:AB):Wt:={t with l:=t.l++[tu]}
def lA(w:World)(G:Nat→Prop)(x:Nat)(p:Wp)(F:Fs)(n:Nat)(t:Wt)(w':World):Prop:=
 ∃G',Sys w' G' p F n∧Jf w' x p t F.D.size∧AL (fun k=>G k∨k=x∨k=t.g) w w'∧∀k,G' k→G k∨w.heap.size≤k
def IJ(w:World)(G:Nat→Prop)(x:Nat)(p:Wp)(F:Fs)(n:Nat)(t:Wt)(w':World):Prop:=
 ∃G',Sys w' G' p F n∧Je w' x p t∧AL (fun k=>G k∨k=x∨k=t.g∨k=t.b) w w'∧∀k,G' k→G k∨w.heap.size≤k
def Qf(w:World)(G:Nat→Prop)(x:Nat)(p:Wp)(F:Fs)(n:Nat)(t:Wt)(tu:AB)(e:Ending)(w':World):Prop:=
  (Af t.k tu=false∧e=.returned (.int .i64 1)∧Below w.heap.size w w')∨
  (Af t.k tu=true∧t.l.length=t.bound∧e=.returned (.int .i64 5)∧Below w.heap.size w w')∨
  (Af t.k tu=true∧t.l.length<t.bound∧
    (((t.l.length+1)%t.h≠0∧e=.returned (.int .i64 0)∧lA w G x p F n (t.snoc tu) w')∨
     ((t.l.length+1)%t.h=0∧(write F.D (AV (t.snoc tu):Nat) (AU F.D.size (t.snoc tu))).1=0∧e=.returned (.int .i64 0)∧lA w G x p {F with D:=(write F.D (AV (t.snoc tu):Nat) (AU F.D.size (t.snoc tu))).2} (n+1) (t.snoc tu) w')∨
     ((t.l.length+1)%t.h=0∧(write F.D (AV (t.snoc tu):Nat) (AU F.D.size (t.snoc tu))).1≠0∧e=.returned (.int .i64 (write F.D (AV (t.snoc tu):Nat) (AU F.D.size (t.snoc tu))).1)∧IJ w G x p (EA {F with D:=(write F.D (AV (t.snoc tu):Nat) (AU F.D.size (t.snoc tu))).2} (t.snoc tu) 0) (n+1) (t.snoc tu) w')))
theorem UE{w:World}{G:Nat→Prop}{p:Wp}{F:Fs}{n x:Nat}{t:Wt}{ws:List Nat}(h:Sys w G p F n)(hok:Ca t F.D.size)(hm:G3 w x p t F.D.size ws)(tu:AB)(hfit:Af t.k tu=false):Calls Tryz.prog 39 #[.pointer (some ⟨x,0,none⟩),.agg #[.int .i64 tu.a,.int .i64 tu.b,.int .i64 tu.c,.int .i64 tu.d,.int .i64 tu.e]] w fun e w'=>e=.returned (.int .i64 1)∧Below w.heap.size w w':=by
 obtain⟨hx,En,Iv⟩:=hm.lt
 have hk:=hok.k
 have hh:=hok.h
 have hbd:=hok.bound
 obtain⟨za,zb,zc,zd,ze⟩:=tu
 have Ox:=(Below.refl w.heap.size w).alloc (Nat.le_refl _) (.cells #[.int .i64 za,.int .i64 zb,.int .i64 zc,.int .i64 zd,.int .i64 ze] 63)
 have EL:Row (w.alloc (.cells #[.int .i64 za,.int .i64 zb,.int .i64 zc,.int .i64 zd,.int .i64 ze] 63)) w.heap.size 63 [.int .i64 za,.int .i64 zb,.int .i64 zc,.int .i64 zd,.int .i64 ze]:=heap_alloc_new _ _
 have Ny:=hok.sz
 have Gp:=fun d os=>below_regrown (w.alloc (.cells #[.int .i64 za,.int .i64 zb,.int .i64 zc,.int .i64 zd,.int .i64 ze] 63)) d os
 have mh:=Ox.size
 have Q1:Hid (∀d' os,Calls Tryz.prog 65 #[.pointer (some ⟨x,0,none⟩)] (Sort.grow (redrawn (w.alloc (.cells #[.int .i64 za,.int .i64 zb,.int .i64 zc,.int .i64 zd,.int .i64 ze] 63)) d') os) fun e Cq=>e=.returned (.bool false)∧∃p:Regrown,Cq=Sort.grow (redrawn (w.alloc (.cells #[.int .i64 za,.int .i64 zb,.int .i64 zc,.int .i64 zd,.int .i64 ze] 63)) p.d) p.os):=fun d' os=>Calls.regrown_of ((Df (((hm.row.below Ox hx).below (Gp d' os) (Nat.lt_of_lt_of_le hx mh))) (((hm.buf.below Ox En).below (Gp d' os) (Nat.lt_of_lt_of_le En mh)))).mono fun e' w' ⟨he,hw⟩=>⟨by rw[he,decide_eq_true (by omega)];rfl,by subst hw;exact Below.refl _ _⟩)
 have Q2:Hid (∀d' os,Calls Tryz.prog 67 #[.agg #[.int .i64 za,.int .i64 zb,.int .i64 zc,.int .i64 zd,.int .i64 ze],.int .i64 t.k] (Sort.grow (redrawn (w.alloc (.cells #[.int .i64 za,.int .i64 zb,.int .i64 zc,.int .i64 zd,.int .i64 ze] 63)) d') os) fun e Cq=>e=.returned (.bool false)∧∃p:Regrown,Cq=Sort.grow (redrawn (w.alloc (.cells #[.int .i64 za,.int .i64 zb,.int .i64 zc,.int .i64 zd,.int .i64 ze] 63)) p.d) p.os):=fun d' os=>Calls.regrown_of ((NJ ⟨za,zb,zc,zd,ze⟩ t.k _ hk.1 hk.2).mono fun e' w' ⟨he,hw⟩=>⟨by rw[he,hfit],hw⟩)
 have k0:∀d' os,(Sort.grow (redrawn (w.alloc (.cells #[.int .i64 za,.int .i64 zb,.int .i64 zc,.int .i64 zd,.int .i64 ze] 63)) d') os).cell? ⟨x,0,none⟩=some (.int .i64 t.k):=cell_regrown ((hm.row.below Ox hx).cell 0)
 have k1:∀d' os,(Sort.grow (redrawn (w.alloc (.cells #[.int .i64 za,.int .i64 zb,.int .i64 zc,.int .i64 zd,.int .i64 ze] 63)) d') os).cell? ⟨w.heap.size,0,none⟩=some (.int .i64 za):=cell_regrown (EL.cell 0)
 have k2:∀d' os,(Sort.grow (redrawn (w.alloc (.cells #[.int .i64 za,.int .i64 zb,.int .i64 zc,.int .i64 zd,.int .i64 ze] 63)) d') os).cell? ⟨w.heap.size,1,none⟩=some (.int .i64 zb):=cell_regrown (EL.cell 1)
 have k3:∀d' os,(Sort.grow (redrawn (w.alloc (.cells #[.int .i64 za,.int .i64 zb,.int .i64 zc,.int .i64 zd,.int .i64 ze] 63)) d') os).cell? ⟨w.heap.size,2,none⟩=some (.int .i64 zc):=cell_regrown (EL.cell 2)
 have k4:∀d' os,(Sort.grow (redrawn (w.alloc (.cells #[.int .i64 za,.int .i64 zb,.int .i64 zc,.int .i64 zd,.int .i64 ze] 63)) d') os).cell? ⟨w.heap.size,3,none⟩=some (.int .i64 zd):=cell_regrown (EL.cell 3)
 have k5:∀d' os,(Sort.grow (redrawn (w.alloc (.cells #[.int .i64 za,.int .i64 zb,.int .i64 zc,.int .i64 zd,.int .i64 ze] 63)) d') os).cell? ⟨w.heap.size,4,none⟩=some (.int .i64 ze):=cell_regrown (EL.cell 4)
 have vI:=Lib.hid Ox
 have Dq:=Lib.hid EL
 have HM:=Lib.hid hm
 have Rq:=Lib.hid h
 have DY:=Lib.hid hok
 have Tr:=Lib.hid hfit
 have PT:Hid (x<w.heap.size∧t.b<w.heap.size∧t.g<w.heap.size):=⟨hx,En,Iv⟩
 clear Ox EL hm h hok hx En Iv Gp mh Ny hfit
 go_enter Tryz.func39,Tryz.ntmps39
 go_wp2
 refine wp_region_quiet_below (by kernel_rfl) (by kernel_rfl) ?_
 repeat(any_goals(first|go_big_quiet_step (with_reducible first|exact Q1.out _ _|exact Q2.out _ _)|quiet_step (with_reducible first|exact Q1.out _ _|exact Q2.out _ _)))
 refine wpQuiet_nil ?_
 intro w5 EJ
 obtain⟨⟨dq,osq⟩,EJ⟩:=EJ
 have Bu:=below_regrown (w.alloc (.cells #[.int .i64 za,.int .i64 zb,.int .i64 zc,.int .i64 zd,.int .i64 ze] 63)) dq osq
 rw[←EJ]at Bu
 clear EJ
 have BQ:=Lib.hid (vI.out.trans (Bu.mono (by simp)))
 have DV:=Lib.hid (Dq.out.below Bu (by simp))
 clear Bu Q1 Q2 k0 k1 k2 k3 k4 k5 vI Dq
 go_wp2
 go_ret
 exact⟨rfl,BQ.out⟩
theorem Sys.Pa{w w':World}{G:Nat→Prop}{p:Wp}{F:Fs}{n:Nat}(h:Sys w G p F n){R:Nat→Prop}(hf:AL R w w')(hR:∀k,R k→¬G k∧∀v,¬Row w k 126 [v]):Sys w' G p F n:=
 h.Cc hf (fun k hk hr=>(hR k hr).1 hk) fun q hq hr=>by
  obtain⟨⟨v,hb⟩,_⟩:=h.buf hq
  exact(hR _ hr).2 v hb
theorem NX{α:Type}(L wl:List α)(off i:Nat)(u:α)(hi:wl[i]?=some u)(hl:off+wl.length≤L.length):(splice L off (wl.take i)).set (off+i) u=splice L off (wl.take (i+1)):=by
 have hil:i<wl.length:=(List.getElem?_eq_some_iff.1 hi).1
 apply List.ext_getElem?
 intro k
 have l1:(splice L off (wl.take i)).length=L.length:=AS L off _ (by rw[List.length_take];omega)
 rw[List.getElem?_set]
 by_cases hk:off+i=k
 ·subst hk
  rw[if_pos rfl,if_pos (by rw[l1];omega)]
  unfold splice
  rw[List.getElem?_append_right (by rw[List.length_take];omega),List.getElem?_append_left (by simp;omega),List.length_take,show off+i-min off L.length=i by omega,List.getElem?_take,if_pos (by omega),hi]
 ·rw[if_neg hk]
  by_cases h1:k<off∨off+(i+1)≤k
  ·rw[BP L off _ (by rw[List.length_take];omega) (by rw[List.length_take];omega),BP L off _ (by rw[List.length_take];omega) (by rw[List.length_take];omega)]
  ·unfold splice
   rw[List.getElem?_append_right (by rw[List.length_take];omega),List.getElem?_append_left (by simp;omega),List.getElem?_append_right (by rw[List.length_take];omega),List.getElem?_append_left (by simp;omega),List.getElem?_take,List.getElem?_take,if_pos (by simp;omega),if_pos (by simp;omega)]
theorem fk{w W:World}{G:Nat→Prop}{p:Wp}{F:Fs}{n x:Nat}{t:Wt}{ws:List Nat}(h:Sys w G p F n)(hok:Ca t F.D.size)(hm:G3 w x p t F.D.size ws)(ho:PM G x t)(It:Oc t.k t.h t.l ws)(tu:AB)(GH:t.l.length<t.bound)
  (hf:AL (fun k=>k=x∨k=t.g) w W) (hr:Row W x 122 (R7 p (t.snoc tu))) (hg:Row W t.g 127 ((splice ws (t.l.length%t.h*t.k) (Aa t.k tu)).map vw)):
  Sys W G p F n∧Ca (t.snoc tu) F.D.size∧G3 W x p (t.snoc tu) F.D.size (splice ws (t.l.length%t.h*t.k) (Aa t.k tu))∧
   (splice ws (t.l.length%t.h*t.k) (Aa t.k tu)).take ((Cv t.h (t.snoc tu).l).length*t.k)=BC t.k (Cv t.h (t.snoc tu).l):=by
 obtain⟨Kk,T0,Ry⟩:=hm.apart
 have Pv:=CR hok.k.2 tu
 have hmod:=Nat.mod_lt t.l.length hok.h.1
 have hof:t.l.length%t.h*t.k+t.k≤t.h*t.k:=by
  have:=Nat.mul_le_mul_right t.k (show t.l.length%t.h+1≤t.h by omega)
  rw[Nat.add_mul,Nat.one_mul]at this;exact this
 have hfit:t.l.length%t.h*t.k+(Aa t.k tu).length≤ws.length:=by rw[Pv,hm.len];have:=hok.h.2.1;omega
 refine⟨h.Pa hf ?_,⟨hok.k,hok.h,hok.sz,⟨hok.bound.1,by show (t.l++[tu]).length≤t.bound;simp;omega⟩,hok.blocks,hok.first⟩,⟨hr,hf.row hm.buf (by rintro(e|e);exact Kk e.symm;exact Ry e),hg,by rw[AS _ _ _ hfit];exact hm.len,?_⟩,?_⟩
 ·rintro k (rfl|rfl)
  ·exact⟨ho.x,fun v hv=>absurd (hm.row.typed hv) (by decide)⟩
  ·exact⟨ho.g,fun v hv=>absurd (hm.words.typed hv) (by decide)⟩
 ·intro y hy
  unfold splice at hy
  rcases List.mem_append.1 hy with hy|hy
  ·exact hm.u64 y (List.mem_of_mem_take hy)
  ·rcases List.mem_append.1 hy with hy|hy
   ·exact Lw t.k [tu] y (by rw[QK];exact hy)
   ·exact hm.u64 y (List.mem_of_mem_drop hy)
 ·exact bw hok.k.2 hok.h.1 It (by rw[hm.len];have:=hok.h.2.1;omega) tu
theorem fo{w W:World}{G:Nat→Prop}{p:Wp}{F:Fs}{n x:Nat}{t:Wt}{ws:List Nat}(h:Sys w G p F n)(hn:n<1000000)(hok:Ca t F.D.size)(hm:G3 w x p t F.D.size ws)(ho:PM G x t)(hst:wordsAt F.A.st t.b=some F.D.size)(It:Oc t.k t.h t.l ws)(tu:AB)(hfit:Af t.k tu=true)(GH:t.l.length<t.bound)
  (hf:AL (fun k=>k=x∨k=t.g) w W) (hr:Row W x 122 (R7 p (t.snoc tu))) (hg:Row W t.g 127 ((splice ws (t.l.length%t.h*t.k) (Aa t.k tu)).map vw)):
  (0<(t.l.length+1)%t.h→Qf w G x p F n t tu (.returned (.int .i64 0)) W)∧(¬0<(t.l.length+1)%t.h→Calls Tryz.prog 69 #[.pointer (some ⟨x,0,none⟩)] W fun e w'=>∃er,e=.returned (.int .i64 er)∧Qf w G x p F n t tu (.returned (.int .i64 er)) w'):=by
 obtain⟨h1,h2,h3,h4⟩:=fk h hok hm ho It tu GH hf hr hg
 obtain⟨Kk,T0,Ry⟩:=hm.apart
 obtain⟨hx,En,Iv⟩:=hm.lt
 have My:(t.snoc tu).l.length=t.l.length+1:=by show (t.l++[tu]).length= _;simp
 have Di:AL (fun k=>G k∨k=x∨k=t.g) w W:=hf.mono fun k hk=>.inr hk
 refine⟨fun h0=>.inr (.inr ⟨hfit,GH,.inl ⟨by omega,rfl,G,h1,⟨_,h3,?_⟩,Di,fun k hk=>.inl hk⟩⟩),fun h0=>?_⟩
 ·exact(P4 (k:=t.k) (l:=(t.snoc tu).l) hok.h.1 (by rw[My];show (t.l.length+1)%t.h≠0;omega)).2 h4
 ·refine(PV h1 hn h2 h3 ⟨ho.x,ho.b,ho.g⟩ hst (by rw[My];omega) h4).mono ?_
  rintro e w' ⟨he,h5⟩
  refine⟨_,he,.inr (.inr ⟨hfit,GH,?_⟩)⟩
  rcases h5 with⟨h6,h7⟩|⟨h6,h7⟩
  ·refine .inr (.inl ⟨by omega,h6,by rw[h6],?_⟩)
   obtain⟨G',k1,k2,k3⟩:=h7
   have vm:=(ET F.D (AV (t.snoc tu):Nat) (AU F.D.size (t.snoc tu))).1
   refine⟨G',k1,⟨_,by show G3 w' x p (t.snoc tu) (write F.D (AV (t.snoc tu):Nat) (AU F.D.size (t.snoc tu))).2.size _;rw[vm];exact h3.Cc k2 ho.x ho.b ho.g,?_⟩,Di.trans k2 fun k hk=>.inl (.inl hk),fun k hk=>(k3 k hk).imp id fun h=>Nat.le_trans hf.size h⟩
   exact YU _ (by rw[My];show (t.l.length+1)%t.h=0;omega)
  ·refine .inr (.inr ⟨by omega,h6,rfl,?_⟩)
   obtain⟨G',k1,k2,k3,k4⟩:=h7
   refine⟨G',k1,⟨k2.row hr ?_,k4⟩,(Di.mono (F':=fun k=>G k∨k=x∨k=t.g∨k=t.b) fun k hk=>hk.imp_right fun h=>h.imp_right .inl).trans k2 fun k hk=>.inl (hk.elim .inl fun h=>.inr (.inr (.inr h))),fun k hk=>(k3 k hk).imp id fun h=>Nat.le_trans hf.size h⟩
   rintro(h8|h8)
   ·exact ho.x h8
   ·exact Kk h8
theorem Vo{w:World}{G:Nat→Prop}{p:Wp}{F:Fs}{n x:Nat}{t:Wt}{ws:List Nat}(h:Sys w G p F n)(hok:Ca t F.D.size)(hm:G3 w x p t F.D.size ws)(hn:n<1000000)(ho:PM G x t)(hst:wordsAt F.A.st t.b=some F.D.size)(It:Oc t.k t.h t.l ws)(tu:AB)(hfit:Af t.k tu=true)(GH:t.l.length<t.bound):Calls Tryz.prog 39 #[.pointer (some ⟨x,0,none⟩),.agg #[.int .i64 tu.a,.int .i64 tu.b,.int .i64 tu.c,.int .i64 tu.d,.int .i64 tu.e]] w (Qf w G x p F n t tu):=by
 obtain⟨hx,En,Iv⟩:=hm.lt
 have hk:=hok.k
 have hh:=hok.h
 have hbd:=hok.bound
 obtain⟨za,zb,zc,zd,ze⟩:=tu
 have Ox:=(Below.refl w.heap.size w).alloc (Nat.le_refl _) (.cells #[.int .i64 za,.int .i64 zb,.int .i64 zc,.int .i64 zd,.int .i64 ze] 63)
 have EL:Row (w.alloc (.cells #[.int .i64 za,.int .i64 zb,.int .i64 zc,.int .i64 zd,.int .i64 ze] 63)) w.heap.size 63 [.int .i64 za,.int .i64 zb,.int .i64 zc,.int .i64 zd,.int .i64 ze]:=heap_alloc_new _ _
 have Ny:=hok.sz
 have Gp:=fun d os=>below_regrown (w.alloc (.cells #[.int .i64 za,.int .i64 zb,.int .i64 zc,.int .i64 zd,.int .i64 ze] 63)) d os
 have mh:=Ox.size
 have Q1:Hid (∀d' os,Calls Tryz.prog 65 #[.pointer (some ⟨x,0,none⟩)] (Sort.grow (redrawn (w.alloc (.cells #[.int .i64 za,.int .i64 zb,.int .i64 zc,.int .i64 zd,.int .i64 ze] 63)) d') os) fun e Cq=>e=.returned (.bool false)∧∃p:Regrown,Cq=Sort.grow (redrawn (w.alloc (.cells #[.int .i64 za,.int .i64 zb,.int .i64 zc,.int .i64 zd,.int .i64 ze] 63)) p.d) p.os):=fun d' os=>Calls.regrown_of ((Df (((hm.row.below Ox hx).below (Gp d' os) (Nat.lt_of_lt_of_le hx mh))) (((hm.buf.below Ox En).below (Gp d' os) (Nat.lt_of_lt_of_le En mh)))).mono fun e' w' ⟨he,hw⟩=>⟨by rw[he,decide_eq_true (by omega)];rfl,by subst hw;exact Below.refl _ _⟩)
 have Q2:Hid (∀d' os,Calls Tryz.prog 67 #[.agg #[.int .i64 za,.int .i64 zb,.int .i64 zc,.int .i64 zd,.int .i64 ze],.int .i64 t.k] (Sort.grow (redrawn (w.alloc (.cells #[.int .i64 za,.int .i64 zb,.int .i64 zc,.int .i64 zd,.int .i64 ze] 63)) d') os) fun e Cq=>e=.returned (.bool true)∧∃p:Regrown,Cq=Sort.grow (redrawn (w.alloc (.cells #[.int .i64 za,.int .i64 zb,.int .i64 zc,.int .i64 zd,.int .i64 ze] 63)) p.d) p.os):=fun d' os=>Calls.regrown_of ((NJ ⟨za,zb,zc,zd,ze⟩ t.k _ hk.1 hk.2).mono fun e' w' ⟨he,hw⟩=>⟨by rw[he,hfit],hw⟩)
 have k0:∀d' os,(Sort.grow (redrawn (w.alloc (.cells #[.int .i64 za,.int .i64 zb,.int .i64 zc,.int .i64 zd,.int .i64 ze] 63)) d') os).cell? ⟨x,0,none⟩=some (.int .i64 t.k):=cell_regrown ((hm.row.below Ox hx).cell 0)
 have k1:∀d' os,(Sort.grow (redrawn (w.alloc (.cells #[.int .i64 za,.int .i64 zb,.int .i64 zc,.int .i64 zd,.int .i64 ze] 63)) d') os).cell? ⟨w.heap.size,0,none⟩=some (.int .i64 za):=cell_regrown (EL.cell 0)
 have k2:∀d' os,(Sort.grow (redrawn (w.alloc (.cells #[.int .i64 za,.int .i64 zb,.int .i64 zc,.int .i64 zd,.int .i64 ze] 63)) d') os).cell? ⟨w.heap.size,1,none⟩=some (.int .i64 zb):=cell_regrown (EL.cell 1)
 have k3:∀d' os,(Sort.grow (redrawn (w.alloc (.cells #[.int .i64 za,.int .i64 zb,.int .i64 zc,.int .i64 zd,.int .i64 ze] 63)) d') os).cell? ⟨w.heap.size,2,none⟩=some (.int .i64 zc):=cell_regrown (EL.cell 2)
 have k4:∀d' os,(Sort.grow (redrawn (w.alloc (.cells #[.int .i64 za,.int .i64 zb,.int .i64 zc,.int .i64 zd,.int .i64 ze] 63)) d') os).cell? ⟨w.heap.size,3,none⟩=some (.int .i64 zd):=cell_regrown (EL.cell 3)
 have k5:∀d' os,(Sort.grow (redrawn (w.alloc (.cells #[.int .i64 za,.int .i64 zb,.int .i64 zc,.int .i64 zd,.int .i64 ze] 63)) d') os).cell? ⟨w.heap.size,4,none⟩=some (.int .i64 ze):=cell_regrown (EL.cell 4)
 have vI:=Lib.hid Ox
 have Dq:=Lib.hid EL
 have HM:=Lib.hid hm
 have Rq:=Lib.hid h
 have DY:=Lib.hid hok
 have Tr:=Lib.hid hfit
 have PT:Hid (x<w.heap.size∧t.b<w.heap.size∧t.g<w.heap.size):=⟨hx,En,Iv⟩
 clear Ox EL hm h hok hx En Iv Gp mh Ny hfit
 have g0:(((t.l.length:Nat):Int)==(t.bound:Int))=false:=by simp;omega
 obtain⟨Kk,T0,Ry⟩:=HM.out.apart
 have My:(t.snoc ⟨za,zb,zc,zd,ze⟩).l.length=t.l.length+1:=by show (t.l++[_]).length= _;simp
 have Pv:=CR hk.2 ⟨za,zb,zc,zd,ze⟩
 obtain⟨off,hoff⟩:∃off,off=t.l.length%t.h*t.k:=⟨_,rfl⟩
 have hof:off+t.k≤F.D.size-2:=by
  have h1:=Nat.mul_le_mul_right t.k (show t.l.length%t.h+1≤t.h by have:=Nat.mod_lt t.l.length hh.1;omega)
  rw[Nat.add_mul,Nat.one_mul]at h1
  have:=hh.2.1;omega
 have hsz:=DY.out.sz
 have D9:t.l.length<t.bound:=GH
 obtain⟨cnt,Ks⟩:∃cnt,cnt=t.l.length:=⟨_,rfl⟩
 have Aw:Hid (∀W,AL (fun k=>k=x∨k=t.g) w W→Row W x 122 [.int .i64 t.k,.int .i64 t.h,.pointer (some ⟨p.w,0,none⟩),.int .i64 t.bound,.int .i64 (cnt+1:Nat),.int .i64 t.first,.int .i64 t.blocks,.pointer (some ⟨t.b,0,none⟩)]→Row W t.g 127 ((splice ws off (Aa t.k ⟨za,zb,zc,zd,ze⟩)).map vw)→
   (0<(cnt+1)%t.h→Qf w G x p F n t ⟨za,zb,zc,zd,ze⟩ (.returned (.int .i64 0)) W)∧(¬0<(cnt+1)%t.h→Calls Tryz.prog 69 #[.pointer (some ⟨x,0,none⟩)] W fun e w'=>∃er,e=.returned (.int .i64 er)∧Qf w G x p F n t ⟨za,zb,zc,zd,ze⟩ (.returned (.int .i64 er)) w')):=fun W h1 h2 h3=>by
  rw[Ks];rw[Ks,←My]at h2;rw[hoff]at h3
  exact fo Rq.out hn DY.out HM.out ho hst It _ Tr.out GH h1 h2 h3
 have Q3:Hid (∀W,Below w.heap.size w W→∀d' os,Calls Tryz.prog 68 #[.agg #[.int .i64 t.k,.int .i64 t.h],.slice (some ⟨t.g,0,none⟩) F.D.size F.D.size,.int .i64 cnt] (Sort.grow (redrawn W d') os) fun e Cq=>e=.returned (.slice (some ⟨t.g,off,none⟩) t.k (F.D.size-off))∧∃p:Regrown,Cq=Sort.grow (redrawn W p.d) p.os):=fun W hb d' os=>Calls.regrown_of (by
  rw[hoff,Ks]
  exact RC t.k t.h t.l.length t.g F.D.size _ hk.1 hk.2 hh.1 hh.2.2 (by omega) (by rw[←hoff];omega) (by omega))
 have jP:Hid (∀i,i<t.k→∃z,[za,zb,zc,zd,ze][i]?=some z∧(Aa t.k ⟨za,zb,zc,zd,ze⟩)[i]?=some (uw z)):=fun i hi=>by
  have qB:i<[za,zb,zc,zd,ze].length:=by simp;omega
  refine⟨_,List.getElem?_eq_getElem qB,?_⟩
  unfold Aa
  rw[List.getElem?_map,List.getElem?_take,if_pos hi]
  show (([za,zb,zc,zd,ze]:List Int)[i]?).map uw= _
  rw[List.getElem?_eq_getElem qB];rfl
 have gS:=HM.out.len
 have iu:Hid (∀i z,i<t.k→(Aa t.k ⟨za,zb,zc,zd,ze⟩)[i]?=some (uw z)→((splice ws off ((Aa t.k ⟨za,zb,zc,zd,ze⟩).take i)).map vw).set (off+i) (.int .u64 (uw z:Nat))=(splice ws off ((Aa t.k ⟨za,zb,zc,zd,ze⟩).take (i+1))).map vw∧off+i<((splice ws off ((Aa t.k ⟨za,zb,zc,zd,ze⟩).take i)).map vw).length):=fun i z hi hz=>by
  refine⟨?_,?_⟩
  ·rw[←NX ws _ off i (uw z) hz (by rw[Pv,gS];omega),List.map_set];rfl
  ·rw[List.length_map,AS _ _ _ (by rw[List.length_take,Pv,gS];omega),gS];omega
 have oh:Hid (ws.map vw=(splice ws off ((Aa t.k ⟨za,zb,zc,zd,ze⟩).take 0)).map vw):=by unfold Hid splice;simp
 have qU:Hid ((Aa t.k ⟨za,zb,zc,zd,ze⟩).take t.k=Aa t.k ⟨za,zb,zc,zd,ze⟩):=List.take_of_length_le (by omega)
 have HX:=Lib.hid HM.out.row
 have HBF:=Lib.hid HM.out.buf
 have HG:=Lib.hid HM.out.words
 unfold R7 at HX
 rw[←Ks]at HX g0 D9
 clear My Pv hoff gS DY Rq Tr ho hst It hn Ks
 generalize Aa t.k ⟨za,zb,zc,zd,ze⟩=WL at*
 generalize Qf w G x p F n t ⟨za,zb,zc,zd,ze⟩=FK at*
 obtain⟨k,E5,bound,first,blocks,b,g,l⟩:=t
 simp only at*
 generalize F.D.size=size at*
 obtain⟨r,hr⟩:∃r,r=(cnt+1)%E5:=⟨_,rfl⟩
 obtain⟨c1,Hh⟩:∃c1,c1=cnt+1:=⟨_,rfl⟩
 have QA:(cnt:Int)+1=(c1:Int):=by omega
 have WW:c1≤100000000:=by have:=hbd.1;rw[Hh];omega
 have nA:Int.tmod (c1:Int) (E5:Int)=(r:Int):=by rw[Hh,hr];rfl
 have DQ:¬((E5:Int)=0):=by have:=hh.1;omega
 have hrb:r≤254:=by rw[hr];have:=Nat.mod_lt (cnt+1) hh.1;omega
 rw[←hr,←Hh]at Aw
 clear hr Hh HM hbd GH D9
 go_enter Tryz.func39,Tryz.ntmps39
 go_wp2
 refine wp_region_quiet_below (by kernel_rfl) (by kernel_rfl) ?_
 repeat(any_goals(first|go_big_quiet_step (with_reducible first|exact Q1.out _ _|exact Q2.out _ _)|quiet_step (with_reducible first|exact Q1.out _ _|exact Q2.out _ _)))
 refine wpQuiet_nil ?_
 intro w5 EJ
 obtain⟨⟨dq,osq⟩,EJ⟩:=EJ
 have Bu:=below_regrown (w.alloc (.cells #[.int .i64 za,.int .i64 zb,.int .i64 zc,.int .i64 zd,.int .i64 ze] 63)) dq osq
 rw[←EJ]at Bu
 clear EJ
 have BQ:=Lib.hid (vI.out.trans (Bu.mono (by simp)))
 have DV:=Lib.hid (Dq.out.below Bu (by simp))
 clear Bu Q1 Q2 k0 k1 k2 k3 k4 k5 vI Dq
 have c3:w5.cell? ⟨x,3,none⟩=some (.int .i64 bound):=(HX.out.below BQ.out PT.out.1).cell 3
 have c4:w5.cell? ⟨x,4,none⟩=some (.int .i64 cnt):=(HX.out.below BQ.out PT.out.1).cell 4
 go_wp2
 go_region
 clear c3 c4
 have Qj:=Lib.hid (AG BQ.out)
 have wO:=Lib.hid (DV.out.drewN 1)
 clear BQ DV
 have sn:w5.drewN 1=w5.drew:=rfl
 rw[sn]at wO
 clear sn
 generalize w5.drew=w6 at*
 have Q4:=Lib.hid (Q3.out w6 Qj.out)
 have k0:∀d' os,(Sort.grow (redrawn w6 d') os).cell? ⟨x,0,none⟩=some (.int .i64 k):=cell_regrown ((HX.out.below Qj.out PT.out.1).cell 0)
 have k1:∀d' os,(Sort.grow (redrawn w6 d') os).cell? ⟨x,1,none⟩=some (.int .i64 E5):=cell_regrown ((HX.out.below Qj.out PT.out.1).cell 1)
 have k4:∀d' os,(Sort.grow (redrawn w6 d') os).cell? ⟨x,4,none⟩=some (.int .i64 cnt):=cell_regrown ((HX.out.below Qj.out PT.out.1).cell 4)
 have k7:∀d' os,(Sort.grow (redrawn w6 d') os).cell? ⟨x,7,none⟩=some (.pointer (some ⟨b,0,none⟩)):=cell_regrown ((HX.out.below Qj.out PT.out.1).cell 7)
 have kb:∀d' os,(Sort.grow (redrawn w6 d') os).cell? ⟨b,0,none⟩=some (.slice (some ⟨g,0,none⟩) size size):=cell_regrown ((HBF.out.below Qj.out PT.out.2.1).cell 0)
 go_wp2
 refine wp_region_quiet_below (by kernel_rfl) (by kernel_rfl) ?_
 repeat(any_goals(first|go_big_quiet_step (with_reducible first|exact Q4.out _ _)|quiet_step (with_reducible first|exact Q4.out _ _)))
 refine wpQuiet_nil ?_
 intro w7 WI
 obtain⟨⟨dq,osq⟩,WI⟩:=WI
 have Kt:=below_regrown w6 dq osq
 rw[←WI]at Kt
 clear WI
 have XA:=Lib.hid (Qj.out.trans (Kt.mono Qj.out.size))
 have jB:=Lib.hid (wO.out.below Kt wO.out.lt)
 clear Kt Q4 Q3 k0 k1 k4 k7 kb wO Qj
 have Iv:=PT.out.2.2
 have HG7:Hid (Row w7 g 127 ((splice ws off (WL.take 0)).map vw)):=by unfold Hid;rw[←oh.out];exact HG.out.below XA.out Iv
 have yO:w.heap.size≠g:=by omega
 clear HG oh
 go_wp2
 go_loopw [48] (fun iv wr=>∃i:Nat,i≤k∧iv=.int .i64 (i:Int)∧Hid (AL (fun j=>j=g) w7 wr)∧Hid (Row wr g 127 ((splice ws off (WL.take i)).map vw))) (fun iv _=>k-(intOf iv).toNat)
 case atStart=>exact⟨0,Nat.zero_le _,rfl,AL.refl _ _,HG7.out⟩
 case round=>
  obtain⟨i,hi,rfl,HF,dU⟩:=hrel
  by_cases hlt:i<k
  ·obtain⟨z,hz,hwz⟩:=jP.out i hlt
   obtain⟨Km,hil⟩:=iu.out i z hlt hwz
   have ct:wr.cell? ⟨w.heap.size,i,none⟩=some (.int .i64 z):=by
    rw[(HF.out.row jB.out yO).cell i]
    match i,hlt,hz with
    |0,_,hz=>simpa using hz
    |1,_,hz=>simpa using hz
    |2,_,hz=>simpa using hz
    |3,_,hz=>simpa using hz
    |4,_,hz=>simpa using hz
    |i+5,hlt,_=>omega
   have cg:∃v,wr.cell? ⟨g,off+i,none⟩=some v:=⟨_,(dU.out.cell (off+i)).trans (List.getElem?_eq_getElem hil)⟩
   obtain⟨v0,cg⟩:=cg
   have fg:=dU.out.free (off+i)
   have ES:Hid (Row (wr.setCell ⟨g,off+i,none⟩ (.int .u64 (uw z:Nat))) g 127 ((splice ws off (WL.take (i+1))).map vw)):=by
    have h1:=dU.out.set (off+i) (.int .u64 (uw z:Nat))
    rw[Km]at h1;exact h1
   have KM:Hid (AL (fun j=>j=g) w7 (wr.setCell ⟨g,off+i,none⟩ (.int .u64 (uw z:Nat)))):=HF.out.set (p:=⟨g,off+i,none⟩) (.inl rfl) _
   have PG:(0:Int)≤(i:Int):=by omega
   have nQ:(i:Int)<(k:Int):=by omega
   have WT:(i:Int)<5:=by omega
   have AD3:IntKind.u64.wrap z=((uw z:Nat):Int):=Vt z
   clear Km hil hz hwz hi
   generalize uw z=u at*
   go_wp2
   go_roundw
   case rel=>exact⟨i+1,by omega,by go_num,KM.out,ES.out⟩
   case measure=>simp[intOf];omega
  ·obtain rfl:i=k:=by omega
   have Mx:Row wr x 122 [.int .i64 i,.int .i64 E5,.pointer (some ⟨p.w,0,none⟩),.int .i64 bound,.int .i64 cnt,.int .i64 first,.int .i64 blocks,.pointer (some ⟨b,0,none⟩)]:=HF.out.row (HX.out.below XA.out PT.out.1) T0
   have c4:wr.cell? ⟨x,4,none⟩=some (.int .i64 cnt):=Mx.cell 4
   have f4:=Mx.free 4
   have PC:Row (wr.setCell ⟨x,4,none⟩ (.int .i64 c1)) x 122 [.int .i64 i,.int .i64 E5,.pointer (some ⟨p.w,0,none⟩),.int .i64 bound,.int .i64 c1,.int .i64 first,.int .i64 blocks,.pointer (some ⟨b,0,none⟩)]:=Mx.set 4 _
   have sA:Row (wr.setCell ⟨x,4,none⟩ (.int .i64 c1)) g 127 ((splice ws off WL).map vw):=by
    have h1:=dU.out
    rw[qU.out]at h1
    exact h1.Cc (p:=⟨x,4,none⟩) (fun e=>T0 e.symm) _
   have kT:AL (fun k=>k=x∨k=g) w (wr.setCell ⟨x,4,none⟩ (.int .i64 c1)):=(((AL.AJ XA.out (fun k=>k=x∨k=g)).trans HF.out fun b hb=>.inl (.inr hb))).set (p:=⟨x,4,none⟩) (.inl (.inl rfl)) _
   have d4:(wr.setCell ⟨x,4,none⟩ (.int .i64 c1)).cell? ⟨x,4,none⟩=some (.int .i64 c1):=PC.cell 4
   have d1:(wr.setCell ⟨x,4,none⟩ (.int .i64 c1)).cell? ⟨x,1,none⟩=some (.int .i64 E5):=PC.cell 1
   have eS:=Lib.hid PC
   have uX:=Lib.hid sA
   have ZK:=Lib.hid kT
   clear Mx PC sA kT dU HF HX iu jP qU HG7 jB
   go_wp2
   generalize wr.setCell ⟨x,4,none⟩ (.int .i64 c1)=w8 at*
   have HE:=Lib.hid (Aw.out w8.drew (ZK.out.drew) (eS.out.drewN 1) (uX.out.drewN 1))
   clear Aw eS uX ZK
   by_cases DP:0<r
   ·have gr:decide ((r:Int)>0)=true:=by simp;omega
    have dm:=Lib.hid (HE.out.1 DP)
    clear HE
    go_region
    go_wp2
    exact dm.out
   ·have gr:decide ((r:Int)>0)=false:=by simp;omega
    have dm:=Lib.hid (HE.out.2 DP)
    clear HE
    go_region
    go_wp2_with fail
    refine dm.out.mono ?_;rintro e w9 ⟨er,rfl,h9⟩
    have H9:=Lib.hid h9
    clear h9 dm
    go_wp2
    exact H9.out
def DA(first blocks k c:Nat):Value:=.agg #[.int .i64 first,.int .i64 blocks,.int .i64 k,.int .i64 c]
def BS(t:Wt):Nat:=if t.l.length=0 then 0 else t.first
def LH(w:World)(G:Nat→Prop)(x:Nat)(p:Wp)(F:Fs)(n:Nat)(t:Wt)(e:Ending)(w':World):Prop:=
 (t.l.length%t.h=0∧e=.returned (.tuple #[DA (BS t) (AA t.h t.l.length) t.k t.l.length,.int .i64 0])∧IJ w G x p (EA F t (AA t.h t.l.length)) n t w')∨
 (t.l.length%t.h≠0∧(write F.D (AV t:Nat) (AU F.D.size t)).1=0∧e=.returned (.tuple #[DA (BS t) (AA t.h t.l.length) t.k t.l.length,.int .i64 0])∧
  IJ w G x p (EA {F with D:=(write F.D (AV t:Nat) (AU F.D.size t)).2} t (AA t.h t.l.length)) (n+1) t w')∨
 (t.l.length%t.h≠0∧(write F.D (AV t:Nat) (AU F.D.size t)).1≠0∧e=.returned (.tuple #[DA 0 0 0 0,.int .i64 (write F.D (AV t:Nat) (AU F.D.size t)).1])∧
  IJ w G x p (EA {F with D:=(write F.D (AV t:Nat) (AU F.D.size t)).2} t 0) (n+1) t w')
theorem AL.four(w:World)(g:Nat)(a b c d:Value):AL (fun k=>k=g) w ((((w.setCell ⟨g,0,none⟩ a).setCell ⟨g,1,none⟩ b).setCell ⟨g,2,none⟩ c).setCell ⟨g,3,none⟩ d):=
 ((AL.two w g 0 1 a b).set (p:=⟨g,2,none⟩) (.inl rfl) c).set (p:=⟨g,3,none⟩) (.inl rfl) d
theorem Yn{w w0 W6 W7:World}{G:Nat→Prop}{p:Wp}{F FE:Fs}{n n1 x:Nat}{t:Wt}{rb:Nat}(h:Sys w G p F n)(hst:∀q∈FE.A.st,q∈F.A.st)(hb0:Below w.heap.size w w0)(hr:Row w x 122 (R7 p t))(hx:¬G x)(Kk:x≠t.b)(En:t.b<w.heap.size)
  (h6:Br w0 G t.b p FE n1 W6) (hrb:w.heap.size≤rb) (AE1:rb<w0.heap.size) (T2:AL (fun k=>k=rb) W6 W7):IJ w G x p FE n1 t W7:=by
 have xe:=hr.lt
 obtain⟨G',k1,k2,k3,k4⟩:=h6
 have DP:=hr.below hb0 xe
 refine⟨G',k1.Cc T2 (fun k hk e=>?_) (fun q hq e=>?_),⟨T2.row (k2.row DP (by rintro(h5|h5);exact hx h5;exact Kk h5)) (by omega),T2.row k4 (by omega)⟩,?_,?_⟩
 ·subst e
  rcases k3 k hk with h5|h5
  ·have:=h.lt h5;omega
  ·omega
 ·have:=(h.buf (hst q hq)).1.lt;omega
 ·refine(((AL.AJ hb0 (fun k=>G k∨k=x∨k=t.g∨k=t.b)).trans k2 fun k hk=>.inl (hk.elim .inl fun h=>.inr (.inr (.inr h))))).trans T2 fun k hk=>.inr (by omega)
 ·intro k hk
  exact(k3 k hk).imp_right fun h=>Nat.le_trans hb0.size h
def JA(w w0:World)(G:Nat→Prop)(x:Nat)(p:Wp)(t:Wt)(F1:Fs)(n1:Nat)(W2:World):Prop:=AR w0 G p F1 n1 W2∧Row W2 x 122 (R7 p t)∧Row W2 w.heap.size 39 [.int .i64 0,.int .i64 0,.int .i64 0,.int .i64 0]
theorem NM{w:World}{G:Nat→Prop}{p:Wp}{F:Fs}{n x:Nat}{t:Wt}(h:Sys w G p F n)(hn:n<1000000)(hok:Ca t F.D.size)(hm:Jf w x p t F.D.size)(ho:PM G x t)(hst:wordsAt F.A.st t.b=some F.D.size):Calls Tryz.prog 40 #[.pointer (some ⟨x,0,none⟩)] w (LH w G x p F n t):=by
  obtain⟨ws,hm,It⟩:=hm
  obtain⟨hx,En,Iv⟩:=hm.lt
  obtain⟨Kk,T0,Ry⟩:=hm.apart
  have hk:=hok.k
  have hh:=hok.h
  have hsz:=hok.sz
  have hbd:=hok.bound
  have IZ:=hok.blocks
  have g7:=hok.first
  have hb0:=(Below.refl w.heap.size w).alloc (Nat.le_refl _) (.cells #[.int .i64 0,.int .i64 0,.int .i64 0,.int .i64 0] 39)
  have hrb:Row (w.alloc (.cells #[.int .i64 0,.int .i64 0,.int .i64 0,.int .i64 0] 39)) w.heap.size 39 [.int .i64 0,.int .i64 0,.int .i64 0,.int .i64 0]:=heap_alloc_new _ _
  have By:(w.alloc (.cells #[.int .i64 0,.int .i64 0,.int .i64 0,.int .i64 0] 39)).heap.size=w.heap.size+1:=by simp
  obtain⟨w0,DX⟩:∃w0,w0=w.alloc (.cells #[.int .i64 0,.int .i64 0,.int .i64 0,.int .i64 0] 39):=⟨_,rfl⟩
  rw[←DX]at hb0 hrb By
  have WN:¬G w.heap.size:=fun hg=>by have:=h.lt hg;omega
  have h0:=h.below hb0
  have hm0:=hm.below hb0
  have Ht:x<w0.heap.size:=by omega
  have HC:=Lib.hid (Df hm0.row hm0.buf)
  have hd:decide (0<F.D.size)=true:=by simp;omega
  rw[hd]at HC
  have Oy:=AG (Below.refl w0.heap.size w0)
  have dg:Hid (JA w w0 G x p t F n w0.drew):=⟨AR.AJ h0 Oy,hm0.row.below Oy Ht,hrb.below Oy hrb.lt⟩
  have MR:Hid (t.l.length%t.h≠0→Calls Tryz.prog 69 #[.pointer (some ⟨x,0,none⟩)] w0.drew fun e w'=>e=.returned (.int .i64 (write F.D (AV t:Nat) (AU F.D.size t)).1)∧
      (((write F.D (AV t:Nat) (AU F.D.size t)).1=0∧JA w w0 G x p t {F with D:=(write F.D (AV t:Nat) (AU F.D.size t)).2} (n+1) w')∨
       ((write F.D (AV t:Nat) (AU F.D.size t)).1≠0∧Br w0 G t.b p (EA {F with D:=(write F.D (AV t:Nat) (AU F.D.size t)).2} t 0) (n+1) w'∧Row w' w.heap.size 39 [.int .i64 0,.int .i64 0,.int .i64 0,.int .i64 0]))):=fun hne=>by
    have hl:0<t.l.length:=by
      rcases Nat.eq_zero_or_pos t.l.length with h1|h1
      · rw[h1]at hne;simp at hne
      · exact h1
    refine(PV (h0.below Oy) hn hok (hm0.below Oy) ho hst hl ((P4 hh.1 hne).1 It)).mono ?_
    rintro e w' ⟨he,h1⟩
    refine⟨he,?_⟩
    rcases h1 with⟨h2,h3⟩|⟨h2,h3⟩
    · exact .inl ⟨h2,h3.behind Oy,h3.row (hm0.row.below Oy Ht) ho.x,h3.row (hrb.below Oy hrb.lt) WN⟩
    · refine .inr ⟨h2,h3.behind Oy,h3.row (hrb.below Oy hrb.lt) WN (by omega)⟩
  obtain⟨nb,Hu⟩:∃nb,nb=AA t.h t.l.length:=⟨_,rfl⟩
  obtain⟨fst,Kp⟩:∃fst,fst=BS t:=⟨_,rfl⟩
  have nI:nb≤t.blocks:=by rw[Hu,IZ.1];exact Aq hh.1 hbd.2
  have Mo:Hid (∀W,Calls Tryz.prog 62 #[.agg #[.int .i64 t.k,.int .i64 t.h],.int .i64 (t.l.length:Nat)] W fun e w'=>e=.returned (.int .i64 nb)∧Below W.heap.size W w'):=fun W=>by
    rw[Hu];exact Fk t.k t.h t.l.length W hh.1 hh.2.2 (by omega)
  have Wv:Hid (∀(F1:Fs) (n1:Nat) (W2:World),JA w w0 G x p t F1 n1 W2→F1.A=F.A→F1.D.size=F.D.size→∀W5,Below W2.heap.size W2 W5→Calls Tryz.prog 66 #[.pointer (some ⟨x,0,none⟩),.int .i64 nb] W5 fun e w6=>e=.returned (.tuple #[])∧Br w0 G t.b p (EA F1 t nb) n1 w6∧Row w6 w.heap.size 39 [.int .i64 0,.int .i64 0,.int .i64 0,.int .i64 0]∧∀fb cs,Row W5 fb 39 cs→W2.heap.size≤fb→Row w6 fb 39 cs):=by
    intro F1 n1 W2 ⟨El,Av,Di⟩ hA hD W5 DD
    obtain⟨G',k1,k2,k3⟩:=El
    have jx:=Av.lt
    have AF9:t.b<W2.heap.size:=by have:=k2.size;omega
    have Lk:¬G' x:=fun hg=>(k3 x hg).elim ho.x fun h8=>by omega
    refine(NK (k1.below DD) (Av.below DD jx) Lk (by rw[hA,hD];exact hst) Kk g7 IZ.2 nb nI).mono ?_
    rintro e w6 ⟨he,h6⟩
    have hnw:¬G' w.heap.size:=fun hg=>(k3 _ hg).elim WN fun h8=>by omega
    have hf5:Row W5 w.heap.size 39 [.int .i64 0,.int .i64 0,.int .i64 0,.int .i64 0]:=Di.below DD Di.lt
    refine⟨he,(h6.behind DD).from k2 k3,h6.row hf5 hnw (by omega),fun fb cs Pz hl=>h6.row Pz (fun hg=>by have:=k1.lt hg;omega) (by omega)⟩
  have G9:Hid (∀(F1:Fs) (n1 kp:Nat) (W6 W7:World),F1.A=F.A→Br w0 G t.b p (EA F1 t kp) n1 W6→AL (fun k=>k=w.heap.size) W6 W7→IJ w G x p (EA F1 t kp) n1 t W7):=by
    intro F1 n1 kp W6 W7 hA h6 T2
    refine Yn h (fun q hq=>?_) hb0 hm.row ho.x Kk En h6 (Nat.le_refl _) (by omega) T2
    have bO:q∈CS F1.A.st t.b:=hq
    have:=De _ _ _ bO
    rwa [hA]at this
  have Oi:Hid (∀(F1:Fs) (n1:Nat) (W2:World),JA w w0 G x p t F1 n1 W2→∀W,Below W2.heap.size W2 W→W.cell? ⟨x,0,none⟩=some (.int .i64 t.k)∧W.cell? ⟨x,1,none⟩=some (.int .i64 t.h)∧W.cell? ⟨x,4,none⟩=some (.int .i64 (t.l.length:Nat))∧W.cell? ⟨x,5,none⟩=some (.int .i64 t.first)):=by
    intro F1 n1 W2 ⟨_,Av,_⟩ W hb
    have r:=Av.below hb Av.lt
    exact⟨r.cell 0,r.cell 1,r.cell 4,r.cell 5⟩
  have vm:=(ET F.D (AV t:Nat) (AU F.D.size t)).1
  have eV:Hid (t.l.length%t.h=0→∀W7,IJ w G x p (EA F t nb) n t W7→LH w G x p F n t (.returned (.tuple #[DA fst nb t.k t.l.length,.int .i64 0])) W7):=fun h1 W7 h2=>by
    rw[Hu]at h2⊢;rw[Kp];exact .inl ⟨h1,rfl,h2⟩
  have qb:Hid (t.l.length%t.h≠0→(write F.D (AV t:Nat) (AU F.D.size t)).1=0→∀W7,IJ w G x p (EA {F with D:=(write F.D (AV t:Nat) (AU F.D.size t)).2} t nb) (n+1) t W7→LH w G x p F n t (.returned (.tuple #[DA fst nb t.k t.l.length,.int .i64 0])) W7):=fun h1 h0 W7 h2=>by
    rw[Hu]at h2⊢;rw[Kp];exact .inr (.inl ⟨h1,h0,rfl,h2⟩)
  have qa:Hid (t.l.length%t.h≠0→(write F.D (AV t:Nat) (AU F.D.size t)).1≠0→∀W7,IJ w G x p (EA {F with D:=(write F.D (AV t:Nat) (AU F.D.size t)).2} t 0) (n+1) t W7→LH w G x p F n t (.returned (.tuple #[DA 0 0 0 0,.int .i64 (write F.D (AV t:Nat) (AU F.D.size t)).1])) W7):=fun h1 h0 W7 h2=>.inr (.inr ⟨h1,h0,rfl,h2⟩)
  have WO:Int.tmod ((t.l.length:Nat):Int) (t.h:Int)=((t.l.length%t.h:Nat):Int):=rfl
  have DQ:¬((t.h:Int)=0):=by omega
  have TN:t.l.length%t.h≤254:=by have:=Nat.mod_lt t.l.length hh.1;omega
  have HZ:Hid (t.l.length=0→nb=0∧fst=0):=fun h1=>⟨by rw[Hu,h1,A7],by rw[Kp];unfold BS;rw[if_pos h1]⟩
  have HNZ:Hid (t.l.length≠0→fst=t.first):=fun h1=>by rw[Kp];unfold BS;rw[if_neg h1]
  have yH:=hm0.row.cell 0
  have a1:w0.cell? ⟨x,1,none⟩=some (.int .i64 t.h):=hm0.row.cell 1
  have a4:w0.cell? ⟨x,4,none⟩=some (.int .i64 (t.l.length:Nat)):=hm0.row.cell 4
  have WW:t.l.length≤100000000:=by omega
  have oz:=Lib.hid hrb
  obtain⟨FB,zX⟩:∃FB:Fs,FB={F with D:=(write F.D (AV t:Nat) (AU F.D.size t)).2}:=⟨_,rfl⟩
  have jJ:Hid (FB.A=F.A∧FB.D.size=F.D.size):=by unfold Hid;rw[zX];exact⟨rfl,vm⟩
  have O7:Hid (F.A=F.A∧F.D.size=F.D.size):=⟨rfl,rfl⟩
  rw[←zX]at MR qb qa
  clear zX vm h h0 hm hm0 hok It hst hd Hu Kp nI IZ g7 hbd hrb hb0 yH By Oy hsz hk WN hx En Iv Kk T0 Ry Ht ho
  generalize LH w G x p F n t=FK at*
  generalize(write F.D (AV t:Nat) (AU F.D.size t)).1=er at*
  obtain⟨k,E5,bound,first,blocks,b,g,l⟩:=t
  simp only at*
  obtain⟨cnt,Ks⟩:∃cnt,cnt=l.length:=⟨_,rfl⟩
  rw[←Ks]at WO TN HZ HNZ a4 WW MR Mo Oi eV qb qa
  obtain⟨r,hr⟩:∃r,r=cnt%E5:=⟨_,rfl⟩
  rw[←hr]at WO TN MR eV qb qa
  have HW0:=Lib.hid DX
  clear hr Ks hh DX
  by_cases DP:r=0
  · have gr:¬0<r:=by omega
    have HP:=Lib.hid (eV.out DP)
    have Og:=dg
    have KM:=O7
    clear eV qb qa MR dg DP jJ O7
    go_enter Tryz.func40,Tryz.ntmps40
    go_wp2_with fail
    rw[←HW0.out]
    refine HC.out.mono ?_;rintro e w1 ⟨rfl,rfl⟩
    go_wp2
    go_region
    generalize w1.drew=W2 at*
    clear gr WO DQ TN a1 a4
    have DJ:=Lib.hid (Oi.out _ _ _ Og.out)
    obtain⟨e0,e1,e4,e5⟩:=DJ.out W2 (Below.refl _ _)
    have xg:x<W2.heap.size:=Og.out.2.1.lt
    have Ux:=Og.out.2.2
    have yV:w.heap.size<W2.heap.size:=Ux.lt
    have oq:=Lib.hid Ux
    clear Ux
    go_wp2
    go_region
    have bK:Row (W2.alloc (.cells #[.int .i64 0,.int .i64 0,.int .i64 k,.int .i64 cnt] 39)).drew W2.heap.size 39 [.int .i64 0,.int .i64 0,.int .i64 k,.int .i64 cnt]:=heap_alloc_new _ _
    have A8:=AG ((Below.refl W2.heap.size W2).alloc (Nat.le_refl _) (.cells #[.int .i64 0,.int .i64 0,.int .i64 k,.int .i64 cnt] 39))
    generalize(W2.alloc (.cells #[.int .i64 0,.int .i64 0,.int .i64 k,.int .i64 cnt] 39)).drew=W3 at*
    obtain⟨_,_,i4,_⟩:=DJ.out W3 A8
    have BM:=Lib.hid A8
    have Of:=Lib.hid bK
    clear e0 e1 e4 e5
    have Aw:Hid (∀W5,Below W2.heap.size W2 W5→Row W5 W2.heap.size 39 [.int .i64 fst,.int .i64 nb,.int .i64 k,.int .i64 cnt]→Calls Tryz.prog 66 #[.pointer (some ⟨x,0,none⟩),.int .i64 nb] W5 fun e w6=>e=.returned (.tuple #[])∧(Row w6 w.heap.size 39 [.int .i64 0,.int .i64 0,.int .i64 0,.int .i64 0]∧Row w6 W2.heap.size 39 [.int .i64 fst,.int .i64 nb,.int .i64 k,.int .i64 cnt])∧∀W7,AL (fun k=>k=w.heap.size) w6 W7→FK (.returned (.tuple #[DA fst nb k cnt,.int .i64 0])) W7):=fun W5 DD GS=>
      (Wv.out _ _ W2 Og.out (by first|exact KM.out.1|rfl) (by first|exact KM.out.2|rfl) W5 DD).mono fun e w6 ⟨he,h6,hz,hk⟩=>⟨he,⟨hz,hk _ _ GS (Nat.le_refl _)⟩,fun W7 T2=>HP.out W7 (G9.out _ _ nb w6 W7 (by first|exact KM.out.1|rfl) h6 T2)⟩
    clear Wv G9 HP bK A8 oq oz HC Og KM
    by_cases IM:cnt=0
    · obtain⟨yP,qF⟩:=HZ.out IM
      subst yP;subst qF
      have gc:¬0<cnt:=by omega
      have i5:W3.cell? ⟨W2.heap.size,1,none⟩=some (.int .i64 0):=Of.out.cell 1
      have HE:=Lib.hid (Aw.out W3 BM.out Of.out)
      clear Aw IM DJ
      go_wp2_with fail
      refine HE.out.mono ?_;rintro e W6 ⟨rfl,⟨GQ,KI⟩,h7⟩
      have H7:=Lib.hid h7
      have q0:W6.cell? ⟨w.heap.size,0,none⟩=some (.int .i64 0):=GQ.cell 0
      have q1:W6.cell? ⟨w.heap.size,1,none⟩=some (.int .i64 0):=GQ.cell 1
      have q2:W6.cell? ⟨w.heap.size,2,none⟩=some (.int .i64 0):=GQ.cell 2
      have q3:W6.cell? ⟨w.heap.size,3,none⟩=some (.int .i64 0):=GQ.cell 3
      have z0:=GQ.free 0
      have z1:=GQ.free 1
      have z2:=GQ.free 2
      have z3:=GQ.free 3
      have s0:W6.cell? ⟨W2.heap.size,0,none⟩=some (.int .i64 0):=KI.cell 0
      have s1:W6.cell? ⟨W2.heap.size,1,none⟩=some (.int .i64 0):=KI.cell 1
      have s2:W6.cell? ⟨W2.heap.size,2,none⟩=some (.int .i64 k):=KI.cell 2
      have s3:W6.cell? ⟨W2.heap.size,3,none⟩=some (.int .i64 cnt):=KI.cell 3
      have oV:=Lib.hid GQ
      clear GQ KI h7 HE
      go_wp2
      have HQ:=H7.out _ (AL.four W6 w.heap.size (.int .i64 0) (.int .i64 0) (.int .i64 k) (.int .i64 cnt))
      have Ey:=(((oV.out.set 0 (.int .i64 0)).set 1 (.int .i64 0)).set 2 (.int .i64 k)).set 3 (.int .i64 cnt)
      have r0:=Ey.cell 0
      have r1:=Ey.cell 1
      have r2:=Ey.cell 2
      have r3:=Ey.cell 3
      refine bodyPost_ret (v:=.tuple #[.agg #[.int .i64 0,.int .i64 0,.int .i64 k,.int .i64 cnt],.int .i64 0]) (by simp[results,Tryz.results40,go_sem,r0,r1,r2,r3]) rfl HQ
    · have gc:0<cnt:=by omega
      have hfe:=HNZ.out IM
      have RU:=AG BM.out
      have q1:=DJ.out W3.drew RU
      have i5:=DJ.out W3 BM.out
      rw[hfe]at Aw
      clear hfe i4
      have i4:=i5.2.2.1
      clear IM
      go_wp2
      go_region_held3 (fun w'=>w'.cell? ⟨x,0,none⟩=some (.int .i64 k)∧w'.cell? ⟨x,1,none⟩=some (.int .i64 E5)∧w'.cell? ⟨x,4,none⟩=some (.int .i64 cnt)∧w'.cell? ⟨x,5,none⟩=some (.int .i64 first))
        (first|with_reducible exact q1|with_reducible exact q2|with_reducible exact q3|with_reducible exact q4)
        (first
          | (go_at_call 62;(with_reducible refine(Mo.out _).mono ?_);rintro e w4 ⟨rfl,VA⟩;have Lj:=(Of.out.drewN 1).below VA (Of.out.drewN 1).lt;have Dp:=RU.trans (VA.mono RU.size);have q2:=DJ.out w4 Dp;have f0:w4.cell? ⟨W2.heap.size,0,none⟩=some (.int .i64 0):=Lj.cell 0;have f1:w4.cell? ⟨W2.heap.size,1,none⟩=some (.int .i64 0):=Lj.cell 1;have z0:=Lj.free 0;have z1:=Lj.free 1;have DD:=Dp.setCell (p:=⟨W2.heap.size,0,none⟩) (Nat.le_refl _) (.int .i64 first);have q3:=DJ.out _ DD;have P9:=DD.setCell (p:=⟨W2.heap.size,1,none⟩) (Nat.le_refl _) (.int .i64 nb);have q4:=DJ.out _ P9;have dV:=Lib.hid Lj;clear Lj VA))
      have GS:=(dV.out.set 0 (.int .i64 first)).set 1 (.int .i64 nb)
      have HE:=Lib.hid (Aw.out _ P9 GS)
      have i6:((w4.setCell ⟨W2.heap.size,0,none⟩ (.int .i64 first)).setCell ⟨W2.heap.size,1,none⟩ (.int .i64 nb)).cell? ⟨W2.heap.size,1,none⟩=some (.int .i64 nb):=GS.cell 1
      clear Aw DJ q1 q2 q3 q4 f0 f1 z0 z1 Dp DD P9 GS dV Of BM i4 i5 RU Mo
      generalize(w4.setCell ⟨W2.heap.size,0,none⟩ (.int .i64 first)).setCell ⟨W2.heap.size,1,none⟩ (.int .i64 nb)=W5 at*
      go_wp2_with fail
      refine HE.out.mono ?_;rintro e W6 ⟨rfl,⟨GQ,KI⟩,h7⟩
      have H7:=Lib.hid h7
      have q0:W6.cell? ⟨w.heap.size,0,none⟩=some (.int .i64 0):=GQ.cell 0
      have q1:W6.cell? ⟨w.heap.size,1,none⟩=some (.int .i64 0):=GQ.cell 1
      have q2:W6.cell? ⟨w.heap.size,2,none⟩=some (.int .i64 0):=GQ.cell 2
      have q3:W6.cell? ⟨w.heap.size,3,none⟩=some (.int .i64 0):=GQ.cell 3
      have z0:=GQ.free 0
      have z1:=GQ.free 1
      have z2:=GQ.free 2
      have z3:=GQ.free 3
      have s0:W6.cell? ⟨W2.heap.size,0,none⟩=some (.int .i64 first):=KI.cell 0
      have s1:W6.cell? ⟨W2.heap.size,1,none⟩=some (.int .i64 nb):=KI.cell 1
      have s2:W6.cell? ⟨W2.heap.size,2,none⟩=some (.int .i64 k):=KI.cell 2
      have s3:W6.cell? ⟨W2.heap.size,3,none⟩=some (.int .i64 cnt):=KI.cell 3
      have oV:=Lib.hid GQ
      clear GQ KI h7 HE
      go_wp2
      have HQ:=H7.out _ (AL.four W6 w.heap.size (.int .i64 first) (.int .i64 nb) (.int .i64 k) (.int .i64 cnt))
      have Ey:=(((oV.out.set 0 (.int .i64 first)).set 1 (.int .i64 nb)).set 2 (.int .i64 k)).set 3 (.int .i64 cnt)
      have r0:=Ey.cell 0
      have r1:=Ey.cell 1
      have r2:=Ey.cell 2
      have r3:=Ey.cell 3
      refine bodyPost_ret (v:=.tuple #[.agg #[.int .i64 first,.int .i64 nb,.int .i64 k,.int .i64 cnt],.int .i64 0]) (by simp[results,Tryz.results40,go_sem,r0,r1,r2,r3]) rfl HQ
  · have gr:0<r:=by omega
    have lJ:=Lib.hid (MR.out DP)
    have pE:=Lib.hid (qb.out DP)
    have o9:=Lib.hid (qa.out DP)
    clear eV qb qa MR dg DP O7
    by_cases vz:er=0
    · subst vz
      have HP:=Lib.hid (pE.out rfl)
      clear pE o9
      go_enter Tryz.func40,Tryz.ntmps40
      go_wp2_with fail
      rw[←HW0.out]
      refine HC.out.mono ?_;rintro e w1 ⟨rfl,rfl⟩
      go_wp2
      go_region
      go_wp2_with fail
      refine lJ.out.mono ?_;rintro e W2 ⟨rfl,h2⟩
      have Og:Hid (JA w w1 G x p ⟨k,E5,bound,first,blocks,b,g,l⟩ FB (n+1) W2):=by
        rcases h2 with⟨_,h3⟩|⟨h3,_⟩
        · exact h3
        · exact absurd rfl h3
      have KM:=jJ
      clear h2 lJ jJ
      clear gr WO DQ TN a1 a4
      have DJ:=Lib.hid (Oi.out _ _ _ Og.out)
      obtain⟨e0,e1,e4,e5⟩:=DJ.out W2 (Below.refl _ _)
      have xg:x<W2.heap.size:=Og.out.2.1.lt
      have Ux:=Og.out.2.2
      have yV:w.heap.size<W2.heap.size:=Ux.lt
      have oq:=Lib.hid Ux
      clear Ux
      go_wp2
      go_region
      have bK:Row (W2.alloc (.cells #[.int .i64 0,.int .i64 0,.int .i64 k,.int .i64 cnt] 39)).drew W2.heap.size 39 [.int .i64 0,.int .i64 0,.int .i64 k,.int .i64 cnt]:=heap_alloc_new _ _
      have A8:=AG ((Below.refl W2.heap.size W2).alloc (Nat.le_refl _) (.cells #[.int .i64 0,.int .i64 0,.int .i64 k,.int .i64 cnt] 39))
      generalize(W2.alloc (.cells #[.int .i64 0,.int .i64 0,.int .i64 k,.int .i64 cnt] 39)).drew=W3 at*
      obtain⟨_,_,i4,_⟩:=DJ.out W3 A8
      have BM:=Lib.hid A8
      have Of:=Lib.hid bK
      clear e0 e1 e4 e5
      have Aw:Hid (∀W5,Below W2.heap.size W2 W5→Row W5 W2.heap.size 39 [.int .i64 fst,.int .i64 nb,.int .i64 k,.int .i64 cnt]→Calls Tryz.prog 66 #[.pointer (some ⟨x,0,none⟩),.int .i64 nb] W5 fun e w6=>e=.returned (.tuple #[])∧(Row w6 w.heap.size 39 [.int .i64 0,.int .i64 0,.int .i64 0,.int .i64 0]∧Row w6 W2.heap.size 39 [.int .i64 fst,.int .i64 nb,.int .i64 k,.int .i64 cnt])∧∀W7,AL (fun k=>k=w.heap.size) w6 W7→FK (.returned (.tuple #[DA fst nb k cnt,.int .i64 0])) W7):=fun W5 DD GS=>
        (Wv.out _ _ W2 Og.out (by first|exact KM.out.1|rfl) (by first|exact KM.out.2|rfl) W5 DD).mono fun e w6 ⟨he,h6,hz,hk⟩=>⟨he,⟨hz,hk _ _ GS (Nat.le_refl _)⟩,fun W7 T2=>HP.out W7 (G9.out _ _ nb w6 W7 (by first|exact KM.out.1|rfl) h6 T2)⟩
      clear Wv G9 HP bK A8 oq oz HC Og KM
      by_cases IM:cnt=0
      · obtain⟨yP,qF⟩:=HZ.out IM
        subst yP;subst qF
        have gc:¬0<cnt:=by omega
        have i5:W3.cell? ⟨W2.heap.size,1,none⟩=some (.int .i64 0):=Of.out.cell 1
        have HE:=Lib.hid (Aw.out W3 BM.out Of.out)
        clear Aw IM DJ
        go_wp2_with fail
        refine HE.out.mono ?_;rintro e W6 ⟨rfl,⟨GQ,KI⟩,h7⟩
        have H7:=Lib.hid h7
        have q0:W6.cell? ⟨w.heap.size,0,none⟩=some (.int .i64 0):=GQ.cell 0
        have q1:W6.cell? ⟨w.heap.size,1,none⟩=some (.int .i64 0):=GQ.cell 1
        have q2:W6.cell? ⟨w.heap.size,2,none⟩=some (.int .i64 0):=GQ.cell 2
        have q3:W6.cell? ⟨w.heap.size,3,none⟩=some (.int .i64 0):=GQ.cell 3
        have z0:=GQ.free 0
        have z1:=GQ.free 1
        have z2:=GQ.free 2
        have z3:=GQ.free 3
        have s0:W6.cell? ⟨W2.heap.size,0,none⟩=some (.int .i64 0):=KI.cell 0
        have s1:W6.cell? ⟨W2.heap.size,1,none⟩=some (.int .i64 0):=KI.cell 1
        have s2:W6.cell? ⟨W2.heap.size,2,none⟩=some (.int .i64 k):=KI.cell 2
        have s3:W6.cell? ⟨W2.heap.size,3,none⟩=some (.int .i64 cnt):=KI.cell 3
        have oV:=Lib.hid GQ
        clear GQ KI h7 HE
        go_wp2
        have HQ:=H7.out _ (AL.four W6 w.heap.size (.int .i64 0) (.int .i64 0) (.int .i64 k) (.int .i64 cnt))
        have Ey:=(((oV.out.set 0 (.int .i64 0)).set 1 (.int .i64 0)).set 2 (.int .i64 k)).set 3 (.int .i64 cnt)
        have r0:=Ey.cell 0
        have r1:=Ey.cell 1
        have r2:=Ey.cell 2
        have r3:=Ey.cell 3
        refine bodyPost_ret (v:=.tuple #[.agg #[.int .i64 0,.int .i64 0,.int .i64 k,.int .i64 cnt],.int .i64 0]) (by simp[results,Tryz.results40,go_sem,r0,r1,r2,r3]) rfl HQ
      · have gc:0<cnt:=by omega
        have hfe:=HNZ.out IM
        have RU:=AG BM.out
        have q1:=DJ.out W3.drew RU
        have i5:=DJ.out W3 BM.out
        rw[hfe]at Aw
        clear hfe i4
        have i4:=i5.2.2.1
        clear IM
        go_wp2
        go_region_held3 (fun w'=>w'.cell? ⟨x,0,none⟩=some (.int .i64 k)∧w'.cell? ⟨x,1,none⟩=some (.int .i64 E5)∧w'.cell? ⟨x,4,none⟩=some (.int .i64 cnt)∧w'.cell? ⟨x,5,none⟩=some (.int .i64 first))
          (first|with_reducible exact q1|with_reducible exact q2|with_reducible exact q3|with_reducible exact q4)
          (first
            | (go_at_call 62;(with_reducible refine(Mo.out _).mono ?_);rintro e w4 ⟨rfl,VA⟩;have Lj:=(Of.out.drewN 1).below VA (Of.out.drewN 1).lt;have Dp:=RU.trans (VA.mono RU.size);have q2:=DJ.out w4 Dp;have f0:w4.cell? ⟨W2.heap.size,0,none⟩=some (.int .i64 0):=Lj.cell 0;have f1:w4.cell? ⟨W2.heap.size,1,none⟩=some (.int .i64 0):=Lj.cell 1;have z0:=Lj.free 0;have z1:=Lj.free 1;have DD:=Dp.setCell (p:=⟨W2.heap.size,0,none⟩) (Nat.le_refl _) (.int .i64 first);have q3:=DJ.out _ DD;have P9:=DD.setCell (p:=⟨W2.heap.size,1,none⟩) (Nat.le_refl _) (.int .i64 nb);have q4:=DJ.out _ P9;have dV:=Lib.hid Lj;clear Lj VA))
        have GS:=(dV.out.set 0 (.int .i64 first)).set 1 (.int .i64 nb)
        have HE:=Lib.hid (Aw.out _ P9 GS)
        have i6:((w4.setCell ⟨W2.heap.size,0,none⟩ (.int .i64 first)).setCell ⟨W2.heap.size,1,none⟩ (.int .i64 nb)).cell? ⟨W2.heap.size,1,none⟩=some (.int .i64 nb):=GS.cell 1
        clear Aw DJ q1 q2 q3 q4 f0 f1 z0 z1 Dp DD P9 GS dV Of BM i4 i5 RU Mo
        generalize(w4.setCell ⟨W2.heap.size,0,none⟩ (.int .i64 first)).setCell ⟨W2.heap.size,1,none⟩ (.int .i64 nb)=W5 at*
        go_wp2_with fail
        refine HE.out.mono ?_;rintro e W6 ⟨rfl,⟨GQ,KI⟩,h7⟩
        have H7:=Lib.hid h7
        have q0:W6.cell? ⟨w.heap.size,0,none⟩=some (.int .i64 0):=GQ.cell 0
        have q1:W6.cell? ⟨w.heap.size,1,none⟩=some (.int .i64 0):=GQ.cell 1
        have q2:W6.cell? ⟨w.heap.size,2,none⟩=some (.int .i64 0):=GQ.cell 2
        have q3:W6.cell? ⟨w.heap.size,3,none⟩=some (.int .i64 0):=GQ.cell 3
        have z0:=GQ.free 0
        have z1:=GQ.free 1
        have z2:=GQ.free 2
        have z3:=GQ.free 3
        have s0:W6.cell? ⟨W2.heap.size,0,none⟩=some (.int .i64 first):=KI.cell 0
        have s1:W6.cell? ⟨W2.heap.size,1,none⟩=some (.int .i64 nb):=KI.cell 1
        have s2:W6.cell? ⟨W2.heap.size,2,none⟩=some (.int .i64 k):=KI.cell 2
        have s3:W6.cell? ⟨W2.heap.size,3,none⟩=some (.int .i64 cnt):=KI.cell 3
        have oV:=Lib.hid GQ
        clear GQ KI h7 HE
        go_wp2
        have HQ:=H7.out _ (AL.four W6 w.heap.size (.int .i64 first) (.int .i64 nb) (.int .i64 k) (.int .i64 cnt))
        have Ey:=(((oV.out.set 0 (.int .i64 first)).set 1 (.int .i64 nb)).set 2 (.int .i64 k)).set 3 (.int .i64 cnt)
        have r0:=Ey.cell 0
        have r1:=Ey.cell 1
        have r2:=Ey.cell 2
        have r3:=Ey.cell 3
        refine bodyPost_ret (v:=.tuple #[.agg #[.int .i64 first,.int .i64 nb,.int .i64 k,.int .i64 cnt],.int .i64 0]) (by simp[results,Tryz.results40,go_sem,r0,r1,r2,r3]) rfl HQ
    · have g9:(er !=0)=true:=by simpa using vz
      have HP:=Lib.hid (o9.out vz)
      clear pE o9
      go_enter Tryz.func40,Tryz.ntmps40
      go_wp2_with fail
      rw[←HW0.out]
      refine HC.out.mono ?_;rintro e w1 ⟨rfl,rfl⟩
      go_wp2
      go_region
      go_wp2_with fail
      refine lJ.out.mono ?_;rintro e W2 ⟨rfl,h2⟩
      have h3:Br w1 G b p (EA FB ⟨k,E5,bound,first,blocks,b,g,l⟩ 0) (n+1) W2∧Row W2 w.heap.size 39 [.int .i64 0,.int .i64 0,.int .i64 0,.int .i64 0]:=by
        rcases h2 with⟨h3,_⟩|⟨_,h3⟩
        · exact absurd h3 vz
        · exact h3
      have q0:W2.cell? ⟨w.heap.size,0,none⟩=some (.int .i64 0):=h3.2.cell 0
      have q1:W2.cell? ⟨w.heap.size,1,none⟩=some (.int .i64 0):=h3.2.cell 1
      have q2:W2.cell? ⟨w.heap.size,2,none⟩=some (.int .i64 0):=h3.2.cell 2
      have q3:W2.cell? ⟨w.heap.size,3,none⟩=some (.int .i64 0):=h3.2.cell 3
      have z0:=h3.2.free 0
      have z1:=h3.2.free 1
      have z2:=h3.2.free 2
      have z3:=h3.2.free 3
      have H3:=Lib.hid h3
      clear h2 h3 lJ
      go_wp2
      have HQ:=HP.out _ (G9.out FB (n+1) 0 W2 _ jJ.out.1 H3.out.1 (AL.four W2 w.heap.size (.int .i64 0) (.int .i64 0) (.int .i64 0) (.int .i64 0)))
      have Ey:=(((H3.out.2.set 0 (.int .i64 0)).set 1 (.int .i64 0)).set 2 (.int .i64 0)).set 3 (.int .i64 0)
      have r0:=Ey.cell 0
      have r1:=Ey.cell 1
      have r2:=Ey.cell 2
      have r3:=Ey.cell 3
      refine bodyPost_ret (v:=.tuple #[.agg #[.int .i64 0,.int .i64 0,.int .i64 0,.int .i64 0],.int .i64 er]) (by simp[results,Tryz.results40,go_sem,r0,r1,r2,r3]) rfl HQ
def Fo(F:Fs)(width bound:Int):Prop:=AH F.D.size width≠0∧0≤bound∧bound≤100000000
def oQ(F:Fs)(width bound er:Int):Prop:=
 (er=1∧¬Fo F width bound)∨(er=7∧Fo F width bound∧F.A.room-F.A.used<F.D.size)∨
 (er=5∧Fo F width bound∧F.D.size≤F.A.room-F.A.used∧0<AA (AH F.D.size width) bound.toNat∧∀k,¬JY F.S k (AA (AH F.D.size width) bound.toNat))
def G7(S S':Sp)(a m:Nat):Prop:=(m=0∧a=0∧S'=S)∨(0<m∧Yv S S' a m∧∀k,JY S k m→a≤k)
theorem QE{S S':Sp}{a m:Nat}(hm:0<m)(h:S.ok)(ht:Yv S S' a m):(CY S' a m).1=S:=by
 have hr:=h.2.2
 have h1:=hr.has (ht.room a (Nat.le_refl _) (by omega))
 have h2:=hr.has (ht.room (a+m-1) (by omega) (by omega))
 rcases Hz ht.ok (a:Int) (m:Int)with⟨s',a',m',e1,e2,h3,e3,hg⟩|⟨e3,hno⟩
 ·have ea:a'=a:=by omega
  have em:m'=m:=by omega
  subst ea;subst em
  rw[e3]
  have hf:s'.first=S.first:=hg.first.trans ht.first
  have hb:s'.blocks=S.blocks:=hg.blocks.trans ht.blocks
  have TQ:s'.fr=S.fr:=by
   have hc:=hg.ok.2.2
   rw[hf,hb]at hc
   refine Canon.only hc hr fun b=>?_
   rw[hg.has,ht.has]
   constructor
   ·rintro(h4|h4)
    ·exact h4.1
    ·exact ht.room b h4.1 h4.2
   ·intro h4
    by_cases h5:a'≤b∧b<a'+m'
    ·exact .inr h5
    ·exact .inl ⟨h4,h5⟩
  obtain⟨f1,b1,l1⟩:=s'
  obtain⟨f2,b2,l2⟩:=S
  simp only at hf hb TQ
  subst hf;subst hb;subst TQ;rfl
 ·refine absurd ?_ (hno a m rfl rfl (by omega))
  rw[ht.first,ht.blocks]
  exact⟨h1.1,by omega,fun b Am AZ hh=>((ht.has b).1 hh).2 ⟨Am,AZ⟩⟩
theorem Vv{S S':Sp}{a m:Nat}(hm:0<m)(h:S.ok)(ht:Yv S S' a m):a+m≤S.first+S.blocks∧S.first≤a:=by
 have hr:=h.2.2
 have h1:=hr.has (ht.room a (Nat.le_refl _) (by omega))
 have h2:=hr.has (ht.room (a+m-1) (by omega) (by omega))
 omega
theorem UM{S:Sp}(h:S.ok)(m:Nat):(∃S' a,takeN S m=(S',a,m,0)∧G7 S S' a m∧Ay S' a m=S∧a+m≤2000000)∨(takeN S m=(S,0,0,5)∧0<m∧∀k,¬JY S k m):=by
 by_cases hm:m=0
 ·subst hm;exact .inl ⟨S,0,rfl,.inl ⟨rfl,rfl,rfl⟩,rfl,by omega⟩
 ·have hm':0<m:=by omega
  unfold takeN
  rw[if_neg hm]
  rcases UL h (n:=m) hm' with⟨S',a,e,ht,hl⟩|⟨e,hno⟩
  ·rw[e,if_pos rfl]
   refine .inl ⟨S',a,rfl,.inr ⟨hm',ht,hl⟩,?_,?_⟩
   ·unfold Ay;rw[if_neg hm];exact QE hm' h ht
   ·have:=Vv hm' h ht;have:=h.1;have:=h.2.1;omega
  ·rw[e,if_neg (show ¬((5:Nat)=0)by decide)]
   exact .inr ⟨rfl,hm',hno⟩
theorem Gn{size:Nat}{width:Int}(h:AH size width≠0):∃k:Nat,width=(k:Int)∧0<k∧k≤5∧AH size width*k≤size-2:=by
 unfold AH at h⊢
 by_cases hc:width<1∨5<width
 ·rw[if_pos hc]at h;exact absurd rfl h
 ·rw[if_neg hc]
  refine⟨width.toNat,by omega,by omega,by omega,?_⟩
  exact Nat.div_mul_le_self _ _
theorem VE{w:World}{G:Nat→Prop}{p:Wp}{F:Fs}{n:Nat}(h:Sys w G p F n)(width bound:Int)(hno:¬Fo F width bound):Calls Tryz.prog 37 #[.pointer (some ⟨p.w,0,none⟩),.int .i64 width,.int .i64 bound] w fun e w'=>e=.returned (.tuple #[.pointer none,.int .i64 1])∧Below w.heap.size w w':=by
 have HS:=Lib.hid (FR h width)
 by_cases h0:AH F.D.size width=0
 ·rw[h0]at HS
  clear h0 hno h
  go_enter Tryz.func37,Tryz.ntmps37
  go_wp2_with fail
  refine HS.out.mono ?_;rintro e w1 ⟨rfl,hb⟩
  have HB:=Lib.hid (hb.alloc hb.size (.cells #[.int .i64 width,.int .i64 0] 113))
  clear hb
  go_wp2
  go_ret2
  exact⟨rfl,HB.out⟩
 ·have g0:(((AH F.D.size width:Nat):Int)==0)=false:=by simpa using h0
  by_cases h1:bound<0
  ·have g1:decide (bound<0)=true:=by simpa using h1
   generalize AH F.D.size width=hh at*
   clear h0 hno h h1
   go_enter Tryz.func37,Tryz.ntmps37
   go_wp2_with fail
   refine HS.out.mono ?_;rintro e w1 ⟨rfl,hb⟩
   have HB:=Lib.hid (hb.alloc hb.size (.cells #[.int .i64 width,.int .i64 hh] 113))
   clear hb
   go_wp2
   go_ret2
   exact⟨rfl,HB.out⟩
  ·have g1:decide (bound<0)=false:=by simpa using h1
   have g2:decide (bound>100000000)=true:=by
    have:¬bound≤100000000:=fun h2=>hno ⟨h0,by omega,h2⟩
    simp;omega
   generalize AH F.D.size width=hh at*
   clear h0 hno h h1
   go_enter Tryz.func37,Tryz.ntmps37
   go_wp2_with fail
   refine HS.out.mono ?_;rintro e w1 ⟨rfl,hb⟩
   have HB:=Lib.hid (hb.alloc hb.size (.cells #[.int .i64 width,.int .i64 hh] 113))
   clear hb
   go_wp2
   go_ret2
   exact⟨rfl,HB.out⟩
theorem TX{w:World}{G:Nat→Prop}{p:Wp}{F:Fs}{n:Nat}(h:Sys w G p F n)(width bound:Int)(ha:Fo F width bound)(RN:takeN F.S (AA (AH F.D.size width) bound.toNat)=(F.S,0,0,5))(e7:Bool)(sj:e7=decide (F.A.room-F.A.used<F.D.size)):Calls Tryz.prog 37 #[.pointer (some ⟨p.w,0,none⟩),.int .i64 width,.int .i64 bound] w fun e w'=>e=.returned (.tuple #[.pointer none,.int .i64 (if e7 then 7 else 5)])∧AR w G p F n w':=by
 have hsz:=h.size
 have E4:AH F.D.size width≤254:=Nat.le_trans (EY _ _) (by omega)
 obtain⟨M3,Ya,nj⟩:=ha
 obtain⟨bn,rfl⟩:∃bn:Nat,bound=(bn:Int):=⟨bound.toNat,by omega⟩
 rw[Int.toNat_natCast]at RN
 obtain⟨k,rfl,PF,ZD,kM⟩:=Gn M3
 have P8:AA (AH F.D.size k) bn≤100000000:=Nat.le_trans (BL _ _) (by omega)
 have HS:=Lib.hid (FR h k)
 have Mo:Hid (∀W,Calls Tryz.prog 62 #[.agg #[.int .i64 k,.int .i64 (AH F.D.size k:Nat)],.int .i64 bn] W fun e w'=>e=.returned (.int .i64 (AA (AH F.D.size k) bn:Nat))∧Below W.heap.size W w'):=fun W=>Fk k (AH F.D.size k) bn W (by omega) E4 (by omega)
 have LL:Hid (∀W,Below w.heap.size w W→Calls Tryz.prog 61 #[.pointer (some ⟨p.w,0,none⟩),.int .i64 (AA (AH F.D.size k) bn:Nat)] W fun e w'=>e=.returned (.tuple #[.agg #[.int .i64 0,.int .i64 0],.int .i64 5])∧AR W G p F n w'∧∀g t cs,Row W g t cs→¬G g→Row w' g t cs):=fun W hb=>by
  have h1:=Lu (h.below hb) (AA (AH F.D.size k) bn) P8
  rw[RN]at h1
  exact h1.mono fun e w' ⟨he,h2⟩=>⟨he,h2,fun g t cs hr hg=>h2.row hr hg⟩
 have Wy:Hid (∀k,w.heap.size≤k→¬G k):=fun k hk hg=>by have:=h.lt hg;omega
 have uz:Hid (∀W G',Sys W G' p F n→∀q,Calls Tryz.prog 43 #[.pointer (some ⟨p.a,0,none⟩)] (W.drewN q) fun e Cq=>e=.returned (.int .i64 ((F.A.room-F.A.used:Nat):Int))∧∃k,Cq=W.drewN k):=fun W G' hs q=>Calls.quiet_of_same ((hs.below (AF (Below.refl _ _) q)).Sq.mono fun _ _ h=>h)
 have T6:Hid (∀W G',Sys W G' p F n→∀q,Calls Tryz.prog 44 #[.pointer (some ⟨p.d,0,none⟩)] (W.drewN q) fun e Cq=>e=.returned (.int .i64 (F.D.size:Int))∧∃k,Cq=W.drewN k):=fun W G' hs q=>Calls.quiet_of_same ((hs.below (AF (Below.refl _ _) q)).Dm.mono fun _ _ h=>h)
 obtain⟨left,MI⟩:∃left,left=F.A.room-F.A.used:=⟨_,rfl⟩
 rw[←MI]at uz sj
 have g0:(((AH F.D.size (k:Int):Nat):Int)==0)=false:=by simpa using M3
 have g1:decide ((bn:Int)<0)=false:=by simp
 have g2:decide ((bn:Int)>100000000)=false:=by simp;omega
 clear MI RN h M3 Ya kM E4
 generalize AA (AH F.D.size k) bn=nb at*
 generalize AH F.D.size k=hh at*
 cases e7
 ·have gl:¬left<F.D.size:=by simpa using sj
  clear sj
  go_enter Tryz.func37,Tryz.ntmps37
  go_wp2_with fail
  refine HS.out.mono ?_;rintro e w1 ⟨rfl,Am⟩
  have AZ:=Am.alloc Am.size (.cells #[.int .i64 k,.int .i64 hh] 113)
  have Av:Row (w1.alloc (.cells #[.int .i64 k,.int .i64 hh] 113)) w1.heap.size 113 [.int .i64 k,.int .i64 hh]:=heap_alloc_new _ _
  have RQ:=Am.size
  clear Am
  go_wp2_with fail
  refine(Mo.out _).mono ?_;rintro e w3 ⟨rfl,A8⟩
  have Cn:=Av.below A8 Av.lt
  have OB:=AZ.trans (A8.mono AZ.size)
  have IK:=Lib.hid Cn
  have BM:=Lib.hid OB
  have O6:=Lib.hid RQ
  clear AZ Av A8 Cn OB RQ
  go_wp2_with fail
  refine(LL.out _ BM.out).mono ?_;rintro e w4 ⟨rfl,h4,YP⟩
  have FH:=YP _ _ _ IK.out (Wy.out _ O6.out)
  obtain⟨G',k1,Ty,Nw⟩:=h4
  have Li:¬G' w1.heap.size:=fun hg=>(Nw _ hg).elim (Wy.out _ O6.out) fun h=>by have:=IK.out.lt;omega
  have k2:AL G w w4:=(AL.AJ BM.out G).trans Ty fun b hb=>.inl hb
  have k3:∀k,G' k→G k∨w.heap.size≤k:=fun k hk=>(Nw k hk).imp id fun h=>Nat.le_trans BM.out.size h
  clear Ty Nw
  have DD:=(Below.refl w4.heap.size w4).alloc (Nat.le_refl _) (.cells #[.int .i64 0,.int .i64 0] 80)
  have GS:=FH.below DD FH.lt
  have PD:Row (w4.alloc (.cells #[.int .i64 0,.int .i64 0] 80)) w4.heap.size 80 [.int .i64 0,.int .i64 0]:=heap_alloc_new _ _
  have k5:=k1.below DD
  have Us:=k2.size
  go_wp2
  generalize w4.alloc (.cells #[.int .i64 0,.int .i64 0] 80)=w5 at*
  have Q1:=Lib.hid (uz.out w5 G' k5)
  have Q2:=Lib.hid (T6.out w5 G' k5)
  have c0:w5.cell? ⟨p.w,0,none⟩=some (.pointer (some ⟨p.d,0,none⟩)):=k5.row.cell 0
  have c1:w5.cell? ⟨p.w,1,none⟩=some (.pointer (some ⟨p.a,0,none⟩)):=k5.row.cell 1
  have Aw:Hid (∀q,AR w G p F n (w5.drewN q)):=fun q=>AR.ahead (AR.ahead ⟨G',k1,k2,k3⟩ DD) (AF (Below.refl _ _) q)
  clear k1 k2 k3 k5 DD GS PD FH YP Mo LL HS uz T6 IK BM
  go_quiet ((with_reducible first|exact Q1.out _|exact Q2.out _))
  go_wp2
  go_ret2
  exact⟨rfl,Aw.out _⟩
 ·have gl:left<F.D.size:=by simpa using sj
  clear sj
  go_enter Tryz.func37,Tryz.ntmps37
  go_wp2_with fail
  refine HS.out.mono ?_;rintro e w1 ⟨rfl,Am⟩
  have AZ:=Am.alloc Am.size (.cells #[.int .i64 k,.int .i64 hh] 113)
  have Av:Row (w1.alloc (.cells #[.int .i64 k,.int .i64 hh] 113)) w1.heap.size 113 [.int .i64 k,.int .i64 hh]:=heap_alloc_new _ _
  have RQ:=Am.size
  clear Am
  go_wp2_with fail
  refine(Mo.out _).mono ?_;rintro e w3 ⟨rfl,A8⟩
  have Cn:=Av.below A8 Av.lt
  have OB:=AZ.trans (A8.mono AZ.size)
  have IK:=Lib.hid Cn
  have BM:=Lib.hid OB
  have O6:=Lib.hid RQ
  clear AZ Av A8 Cn OB RQ
  go_wp2_with fail
  refine(LL.out _ BM.out).mono ?_;rintro e w4 ⟨rfl,h4,YP⟩
  have FH:=YP _ _ _ IK.out (Wy.out _ O6.out)
  obtain⟨G',k1,Ty,Nw⟩:=h4
  have Li:¬G' w1.heap.size:=fun hg=>(Nw _ hg).elim (Wy.out _ O6.out) fun h=>by have:=IK.out.lt;omega
  have k2:AL G w w4:=(AL.AJ BM.out G).trans Ty fun b hb=>.inl hb
  have k3:∀k,G' k→G k∨w.heap.size≤k:=fun k hk=>(Nw k hk).imp id fun h=>Nat.le_trans BM.out.size h
  clear Ty Nw
  have DD:=(Below.refl w4.heap.size w4).alloc (Nat.le_refl _) (.cells #[.int .i64 0,.int .i64 0] 80)
  have GS:=FH.below DD FH.lt
  have PD:Row (w4.alloc (.cells #[.int .i64 0,.int .i64 0] 80)) w4.heap.size 80 [.int .i64 0,.int .i64 0]:=heap_alloc_new _ _
  have k5:=k1.below DD
  have Us:=k2.size
  go_wp2
  generalize w4.alloc (.cells #[.int .i64 0,.int .i64 0] 80)=w5 at*
  have Q1:=Lib.hid (uz.out w5 G' k5)
  have Q2:=Lib.hid (T6.out w5 G' k5)
  have c0:w5.cell? ⟨p.w,0,none⟩=some (.pointer (some ⟨p.d,0,none⟩)):=k5.row.cell 0
  have c1:w5.cell? ⟨p.w,1,none⟩=some (.pointer (some ⟨p.a,0,none⟩)):=k5.row.cell 1
  have Aw:Hid (∀q,AR w G p F n (w5.drewN q)):=fun q=>AR.ahead (AR.ahead ⟨G',k1,k2,k3⟩ DD) (AF (Below.refl _ _) q)
  clear k1 k2 k3 k5 DD GS PD FH YP Mo LL HS uz T6 IK BM
  go_quiet ((with_reducible first|exact Q1.out _|exact Q2.out _))
  go_wp2
  go_ret2
  exact⟨rfl,Aw.out _⟩
theorem KT{w:World}{G:Nat→Prop}{p:Wp}{F:Fs}{n:Nat}(h:Sys w G p F n)(m:Nat)(hm:F.A.room-F.A.used<m):Calls Tryz.prog 63 #[.pointer (some ⟨p.a,0,none⟩),.int .i64 m] w fun e w'=>e=.returned (.tuple #[.pointer none,.int .i64 7])∧w'=w:=by
 obtain⟨Ga,ha,_⟩:=h.uA
 have h1:=cJ p.a F.A Ga (m:Int) w ha (.inr (by omega))
 rw[if_neg (by omega)]at h1
 exact h1
theorem Pc{w:World}{G:Nat→Prop}{p:Wp}{F:Fs}{n:Nat}(h:Sys w G p F n)(m:Nat)(hm:m≤F.A.room-F.A.used)(h8:m≤256):Calls Tryz.prog 63 #[.pointer (some ⟨p.a,0,none⟩),.int .i64 m] w fun e w'=>∃b g,e=.returned (.tuple #[.pointer (some ⟨b,0,none⟩),.int .i64 0])∧
  (∃G',Sys w' G' p {F with A:=Bv F.A b m} n∧AL G w w'∧(∀k,G' k→G k∨w.heap.size≤k)∧¬G' b∧¬G' g)∧Row w' b 126 [.slice (some ⟨g,0,none⟩) m m]∧Row w' g 127 ((List.replicate m 0).map vw)∧w.heap.size≤b∧w.heap.size≤g:=by
 obtain⟨Ga,ha,hg,_⟩:=h.uA
 refine(QD p.a F.A Ga m w ha hm (by omega)).mono ?_
 rintro e w' ⟨b,g,Y3,he,h1,h2,h3,h4,h5,h6⟩
 refine⟨b,g,he,hg w' b g m ⟨Y3,h1,h2,h3,h4,h5,h6⟩,h2,?_,h4,h5⟩
 rw[List.map_replicate];exact h3
theorem TW{w:World}{G:Nat→Prop}{p:Wp}{F:Fs}{n:Nat}(h:Sys w G p F n)(width bound:Int)(ha:Fo F width bound)(S1:Sp)(a:Nat)(RN:takeN F.S (AA (AH F.D.size width) bound.toNat)=(S1,a,AA (AH F.D.size width) bound.toNat,0))(yz:Ay S1 a (AA (AH F.D.size width) bound.toNat)=F.S)(qJ:a≤2000000)(hroom:F.A.room-F.A.used<F.D.size):Calls Tryz.prog 37 #[.pointer (some ⟨p.w,0,none⟩),.int .i64 width,.int .i64 bound] w fun e w'=>e=.returned (.tuple #[.pointer none,.int .i64 7])∧AR w G p F n w':=by
 have hsz:=h.size
 have E4:AH F.D.size width≤254:=Nat.le_trans (EY _ _) (by omega)
 obtain⟨M3,Ya,nj⟩:=ha
 obtain⟨bn,rfl⟩:∃bn:Nat,bound=(bn:Int):=⟨bound.toNat,by omega⟩
 rw[Int.toNat_natCast]at RN
 obtain⟨k,rfl,PF,ZD,kM⟩:=Gn M3
 have P8:AA (AH F.D.size k) bn≤100000000:=Nat.le_trans (BL _ _) (by omega)
 have HS:=Lib.hid (FR h k)
 have Mo:Hid (∀W,Calls Tryz.prog 62 #[.agg #[.int .i64 k,.int .i64 (AH F.D.size k:Nat)],.int .i64 bn] W fun e w'=>e=.returned (.int .i64 (AA (AH F.D.size k) bn:Nat))∧Below W.heap.size W w'):=fun W=>Fk k (AH F.D.size k) bn W (by omega) E4 (by omega)
 have LL:Hid (∀W,Below w.heap.size w W→Calls Tryz.prog 61 #[.pointer (some ⟨p.w,0,none⟩),.int .i64 (AA (AH F.D.size k) bn:Nat)] W fun e w'=>e=.returned (.tuple #[.agg #[.int .i64 a,.int .i64 (AA (AH F.D.size k) bn:Nat)],.int .i64 0])∧AR W G p {F with S:=S1} n w'∧∀g t cs,Row W g t cs→¬G g→Row w' g t cs):=fun W hb=>by
  have h1:=Lu (h.below hb) (AA (AH F.D.size k) bn) P8
  rw[RN]at h1
  exact h1.mono fun e w' ⟨he,h2⟩=>⟨he,h2,fun g t cs hr hg=>h2.row hr hg⟩
 have Wy:Hid (∀k,w.heap.size≤k→¬G k):=fun k hk hg=>by have:=h.lt hg;omega
 rw[Int.toNat_natCast]at yz
 obtain⟨F1,T4⟩:∃F1:Fs,F1={F with S:=S1}:=⟨_,rfl⟩
 rw[←T4]at LL
 have u9:Hid (∀W G',Sys W G' p F1 n→∀q,Calls Tryz.prog 63 #[.pointer (some ⟨p.a,0,none⟩),.int .i64 F.D.size] (W.drewN q) fun e Cq=>e=.returned (.tuple #[.pointer none,.int .i64 7])∧∃k,Cq=W.drewN k):=fun W G' hs q=>Calls.quiet_of_same ((KT (hs.below (AF (Below.refl _ _) q)) F.D.size (by rw[T4];exact hroom)).mono fun _ _ h=>h)
 have T6:Hid (∀W G',Sys W G' p F1 n→∀q,Calls Tryz.prog 44 #[.pointer (some ⟨p.d,0,none⟩)] (W.drewN q) fun e Cq=>e=.returned (.int .i64 (F.D.size:Int))∧∃k,Cq=W.drewN k):=fun W G' hs q=>by
  have h1:=(hs.below (AF (Below.refl _ _) q)).Dm
  rw[T4]at h1
  exact Calls.quiet_of_same (h1.mono fun _ _ h=>h)
 have lN:Hid (∀W G',Sys W G' p F1 n→Calls Tryz.prog 64 #[.pointer (some ⟨p.w,0,none⟩),.agg #[.int .i64 a,.int .i64 (AA (AH F.D.size k) bn:Nat)]] W fun e w'=>e=.returned (.tuple #[])∧AR W G' p F n w'):=fun W G' hs=>by
  have h1:=QL hs a (AA (AH F.D.size k) bn) (by omega) P8
  rw[T4]at h1
  simp only[yz]at h1
  exact h1
 have g0:(((AH F.D.size (k:Int):Nat):Int)==0)=false:=by simpa using M3
 have g1:decide ((bn:Int)<0)=false:=by simp
 have g2:decide ((bn:Int)>100000000)=false:=by simp;omega
 clear T4 RN h M3 Ya kM E4 yz hroom
 generalize AA (AH F.D.size k) bn=nb at*
 generalize AH F.D.size k=hh at*
 go_enter Tryz.func37,Tryz.ntmps37
 go_wp2_with fail
 refine HS.out.mono ?_;rintro e w1 ⟨rfl,Am⟩
 have AZ:=Am.alloc Am.size (.cells #[.int .i64 k,.int .i64 hh] 113)
 have Av:Row (w1.alloc (.cells #[.int .i64 k,.int .i64 hh] 113)) w1.heap.size 113 [.int .i64 k,.int .i64 hh]:=heap_alloc_new _ _
 have RQ:=Am.size
 clear Am
 go_wp2_with fail
 refine(Mo.out _).mono ?_;rintro e w3 ⟨rfl,A8⟩
 have Cn:=Av.below A8 Av.lt
 have OB:=AZ.trans (A8.mono AZ.size)
 have IK:=Lib.hid Cn
 have BM:=Lib.hid OB
 have O6:=Lib.hid RQ
 clear AZ Av A8 Cn OB RQ
 go_wp2_with fail
 refine(LL.out _ BM.out).mono ?_;rintro e w4 ⟨rfl,h4,YP⟩
 have FH:=YP _ _ _ IK.out (Wy.out _ O6.out)
 obtain⟨G',k1,Ty,Nw⟩:=h4
 have Li:¬G' w1.heap.size:=fun hg=>(Nw _ hg).elim (Wy.out _ O6.out) fun h=>by have:=IK.out.lt;omega
 have k2:AL G w w4:=(AL.AJ BM.out G).trans Ty fun b hb=>.inl hb
 have k3:∀k,G' k→G k∨w.heap.size≤k:=fun k hk=>(Nw k hk).imp id fun h=>Nat.le_trans BM.out.size h
 clear Ty Nw
 have DD:=(Below.refl w4.heap.size w4).alloc (Nat.le_refl _) (.cells #[.int .i64 a,.int .i64 nb] 80)
 have GS:=FH.below DD FH.lt
 have PD:Row (w4.alloc (.cells #[.int .i64 a,.int .i64 nb] 80)) w4.heap.size 80 [.int .i64 a,.int .i64 nb]:=heap_alloc_new _ _
 have k5:=k1.below DD
 have Us:=k2.size
 go_wp2
 generalize w4.alloc (.cells #[.int .i64 a,.int .i64 nb] 80)=w5 at*
 have Q1:=Lib.hid (u9.out w5 G' k5)
 have Q2:=Lib.hid (T6.out w5 G' k5)
 have c0:w5.cell? ⟨p.w,0,none⟩=some (.pointer (some ⟨p.d,0,none⟩)):=k5.row.cell 0
 have c1:w5.cell? ⟨p.w,1,none⟩=some (.pointer (some ⟨p.a,0,none⟩)):=k5.row.cell 1
 have e0:w5.cell? ⟨w4.heap.size,0,none⟩=some (.int .i64 a):=PD.cell 0
 have e1:w5.cell? ⟨w4.heap.size,1,none⟩=some (.int .i64 nb):=PD.cell 1
 have vA:Hid (∀q,Calls Tryz.prog 64 #[.pointer (some ⟨p.w,0,none⟩),.agg #[.int .i64 a,.int .i64 nb]] (w5.drewN q) fun e w'=>e=.returned (.tuple #[])∧AR w G p F n w'):=fun q=>by
  refine(lN.out _ G' (k5.below (AF (Below.refl _ _) q))).mono ?_
  rintro e w' ⟨he,h6⟩
  refine⟨he,?_⟩
  obtain⟨DE,m1,m2,m3⟩:=h6
  have Ty:AL G w (w5.drewN q):=(k2.trans (AL.AJ DD fun _=>False) fun _ hf=>hf.elim).drewN q
  exact⟨DE,m1,Ty.trans m2 k3,fun k hk=>(m3 k hk).elim (fun h=>k3 k h) fun h=>.inr (Nat.le_trans Ty.size h)⟩
 clear k1 k2 k3 k5 DD GS PD FH YP Mo LL HS u9 T6 IK BM lN
 go_quiet ((with_reducible first|exact Q1.out _|exact Q2.out _))
 clear Q1 Q2 c0 c1
 go_wp2_with fail
 refine(vA.out _).mono ?_;rintro e w6 ⟨rfl,h6⟩
 have H6:=Lib.hid h6
 clear h6 vA
 go_wp2
 go_ret2
 exact⟨rfl,H6.out⟩
def iV(w:World)(G:Nat→Prop)(p:Wp)(F:Fs)(n:Nat)(S1:Sp)(t:Wt)(x:Nat)(w':World):Prop:=
 w.heap.size≤x∧w.heap.size≤t.b∧w.heap.size≤t.g∧∃G',Sys w' G' p {F with S:=S1,A:=Bv F.A t.b F.D.size} n∧Jf w' x p t F.D.size∧PM G' x t∧AL G w w'∧∀k,G' k→G k∨w.heap.size≤k
def Ri(w:World)(G:Nat→Prop)(p:Wp)(F:Fs)(n:Nat)(S1:Sp)(a k h bn nb:Nat)(e:Ending)(w':World):Prop:=
 ∃x b g,e=.returned (.tuple #[.pointer (some ⟨x,0,none⟩),.int .i64 0])∧iV w G p F n S1 ⟨k,h,bn,a,nb,b,g,[]⟩ x w'
theorem Yc{w:World}{G:Nat→Prop}{p:Wp}{F:Fs}{n:Nat}(h:Sys w G p F n)(width bound:Int)(ha:Fo F width bound)(S1:Sp)(a:Nat)(RN:takeN F.S (AA (AH F.D.size width) bound.toNat)=(S1,a,AA (AH F.D.size width) bound.toNat,0))(hroom:F.D.size≤F.A.room-F.A.used):
  Calls Tryz.prog 37 #[.pointer (some ⟨p.w,0,none⟩),.int .i64 width,.int .i64 bound] w (Ri w G p F n S1 a width.toNat (AH F.D.size width) bound.toNat (AA (AH F.D.size width) bound.toNat)):=by
 have hsz:=h.size
 have E4:AH F.D.size width≤254:=Nat.le_trans (EY _ _) (by omega)
 obtain⟨M3,Ya,nj⟩:=ha
 obtain⟨bn,rfl⟩:∃bn:Nat,bound=(bn:Int):=⟨bound.toNat,by omega⟩
 rw[Int.toNat_natCast]at RN
 obtain⟨k,rfl,PF,ZD,kM⟩:=Gn M3
 have P8:AA (AH F.D.size k) bn≤100000000:=Nat.le_trans (BL _ _) (by omega)
 have HS:=Lib.hid (FR h k)
 have Mo:Hid (∀W,Calls Tryz.prog 62 #[.agg #[.int .i64 k,.int .i64 (AH F.D.size k:Nat)],.int .i64 bn] W fun e w'=>e=.returned (.int .i64 (AA (AH F.D.size k) bn:Nat))∧Below W.heap.size W w'):=fun W=>Fk k (AH F.D.size k) bn W (by omega) E4 (by omega)
 have LL:Hid (∀W,Below w.heap.size w W→Calls Tryz.prog 61 #[.pointer (some ⟨p.w,0,none⟩),.int .i64 (AA (AH F.D.size k) bn:Nat)] W fun e w'=>e=.returned (.tuple #[.agg #[.int .i64 a,.int .i64 (AA (AH F.D.size k) bn:Nat)],.int .i64 0])∧AR W G p {F with S:=S1} n w'∧∀g t cs,Row W g t cs→¬G g→Row w' g t cs):=fun W hb=>by
  have h1:=Lu (h.below hb) (AA (AH F.D.size k) bn) P8
  rw[RN]at h1
  exact h1.mono fun e w' ⟨he,h2⟩=>⟨he,h2,fun g t cs hr hg=>h2.row hr hg⟩
 have Wy:Hid (∀k,w.heap.size≤k→¬G k):=fun k hk hg=>by have:=h.lt hg;omega
 simp only[Int.toNat_natCast]
 obtain⟨F1,T4⟩:∃F1:Fs,F1={F with S:=S1}:=⟨_,rfl⟩
 rw[←T4]at LL
 obtain⟨size,Cm⟩:∃size,size=F.D.size:=⟨_,rfl⟩
 have Vj:Hid (∀W G',Sys W G' p F1 n→Calls Tryz.prog 63 #[.pointer (some ⟨p.a,0,none⟩),.int .i64 size] W.drew fun e w'=>∃b g,e=.returned (.tuple #[.pointer (some ⟨b,0,none⟩),.int .i64 0])∧
   (∃DE,Sys w' DE p {F with S:=S1,A:=Bv F.A b F.D.size} n∧AL G' W w'∧(∀k,DE k→G' k∨W.heap.size≤k)∧¬DE b∧¬DE g)∧Row w' b 126 [.slice (some ⟨g,0,none⟩) size size]∧Row w' g 127 ((List.replicate size 0).map vw)∧W.heap.size≤b∧W.heap.size≤g):=fun W G' hs=>by
  refine(Pc (hs.below (AG (Below.refl _ _))) size (by rw[T4,Cm];exact hroom) (by omega)).mono ?_
  rintro e w' ⟨b,g,he,⟨DE,h1,h2,h3,h4⟩,h5⟩
  rw[T4,Cm]at h1
  exact⟨b,g,he,⟨DE,h1,⟨h2.os,h2.tape,h2.output,h2.size,h2.block⟩,h3,h4⟩,h5⟩
 have T6:Hid (∀W G',Sys W G' p F1 n→Calls Tryz.prog 44 #[.pointer (some ⟨p.d,0,none⟩)] W.drew fun e Cq=>e=.returned (.int .i64 (size:Int))∧Cq=W.drew):=fun W G' hs=>by
  have h1:=(hs.below (AG (Below.refl _ _))).Dm
  rw[T4]at h1
  rw[Cm];exact h1
 have dc:Hid (∀w6 w7 b g DE,Sys w6 DE p {F with S:=S1,A:=Bv F.A b F.D.size} n→AL G w w6→(∀k,DE k→G k∨w.heap.size≤k)→¬DE b→¬DE g→Row w6 b 126 [.slice (some ⟨g,0,none⟩) size size]→Row w6 g 127 ((List.replicate size 0).map vw)→w.heap.size≤b→w.heap.size≤g→
   w7=w6.alloc (.cells #[.int .i64 k,.int .i64 (AH F.D.size k:Nat),.pointer (some ⟨p.w,0,none⟩),.int .i64 bn,.int .i64 0,.int .i64 a,.int .i64 (AA (AH F.D.size k) bn:Nat),.pointer (some ⟨b,0,none⟩)] 122)→
   iV w G p F n S1 ⟨k,AH F.D.size k,bn,a,AA (AH F.D.size k) bn,b,g,[]⟩ w6.heap.size w7):=by
  intro w6 w7 b g DE k1 k2 k3 k4 k5 k6 k7 k8 k9 e7
  subst e7
  have hb:=(Below.refl w6.heap.size w6).alloc (Nat.le_refl _) (.cells #[.int .i64 k,.int .i64 (AH F.D.size k:Nat),.pointer (some ⟨p.w,0,none⟩),.int .i64 bn,.int .i64 0,.int .i64 a,.int .i64 (AA (AH F.D.size k) bn:Nat),.pointer (some ⟨b,0,none⟩)] 122)
  refine⟨k2.size,k8,k9,DE,k1.below hb,⟨List.replicate size 0,⟨heap_alloc_new _ _,by have rK:=k6.below hb k6.lt;rw[Cm]at rK;exact rK,k7.below hb k7.lt,by rw[←Cm];simp,?_⟩,cA _ _ _⟩,⟨fun hg=>by have:=k1.lt hg;omega,k4,k5⟩,k2.trans (AL.AJ hb fun _=>False) fun _ hf=>hf.elim,k3⟩
  intro y hy
  rw[List.mem_replicate]at hy;omega
 have g0:(((AH F.D.size (k:Int):Nat):Int)==0)=false:=by simpa using M3
 have g1:decide ((bn:Int)<0)=false:=by simp
 have g2:decide ((bn:Int)>100000000)=false:=by simp;omega
 have dX:Hid (∀w7 x b g,iV w G p F n S1 ⟨k,AH F.D.size k,bn,a,AA (AH F.D.size k) bn,b,g,[]⟩ x w7→Ri w G p F n S1 a k (AH F.D.size k) bn (AA (AH F.D.size k) bn) (.returned (.tuple #[.pointer (some ⟨x,0,none⟩),.int .i64 0])) w7):=fun w7 x b g h1=>⟨x,b,g,rfl,h1⟩
 clear T4 Cm RN h M3 Ya kM E4 hroom
 generalize Ri w G p F n S1 a k (AH F.D.size k) bn (AA (AH F.D.size k) bn)=FK at*
 generalize AA (AH F.D.size k) bn=nb at*
 generalize AH F.D.size k=hh at*
 go_enter Tryz.func37,Tryz.ntmps37
 go_wp2_with fail
 refine HS.out.mono ?_;rintro e w1 ⟨rfl,Am⟩
 have AZ:=Am.alloc Am.size (.cells #[.int .i64 k,.int .i64 hh] 113)
 have Av:Row (w1.alloc (.cells #[.int .i64 k,.int .i64 hh] 113)) w1.heap.size 113 [.int .i64 k,.int .i64 hh]:=heap_alloc_new _ _
 have RQ:=Am.size
 clear Am
 go_wp2_with fail
 refine(Mo.out _).mono ?_;rintro e w3 ⟨rfl,A8⟩
 have Cn:=Av.below A8 Av.lt
 have OB:=AZ.trans (A8.mono AZ.size)
 have IK:=Lib.hid Cn
 have BM:=Lib.hid OB
 have O6:=Lib.hid RQ
 clear AZ Av A8 Cn OB RQ
 go_wp2_with fail
 refine(LL.out _ BM.out).mono ?_;rintro e w4 ⟨rfl,h4,YP⟩
 have FH:=YP _ _ _ IK.out (Wy.out _ O6.out)
 obtain⟨G',k1,Ty,Nw⟩:=h4
 have Li:¬G' w1.heap.size:=fun hg=>(Nw _ hg).elim (Wy.out _ O6.out) fun h=>by have:=IK.out.lt;omega
 have k2:AL G w w4:=(AL.AJ BM.out G).trans Ty fun b hb=>.inl hb
 have k3:∀k,G' k→G k∨w.heap.size≤k:=fun k hk=>(Nw k hk).imp id fun h=>Nat.le_trans BM.out.size h
 clear Ty Nw
 have DD:=(Below.refl w4.heap.size w4).alloc (Nat.le_refl _) (.cells #[.int .i64 a,.int .i64 nb] 80)
 have GS:=FH.below DD FH.lt
 have PD:Row (w4.alloc (.cells #[.int .i64 a,.int .i64 nb] 80)) w4.heap.size 80 [.int .i64 a,.int .i64 nb]:=heap_alloc_new _ _
 have k5:=k1.below DD
 have Us:=k2.size
 go_wp2
 have HE5:=Lib.hid PD
 have DV:=Lib.hid GS
 have BQ:=Lib.hid DD
 generalize w4.alloc (.cells #[.int .i64 a,.int .i64 nb] 80)=w5 at*
 have Q1:=Lib.hid (Vj.out w5 G' k5)
 have Q2:=Lib.hid (T6.out w5 G' k5)
 have pO:Hid (AL G w w5):=k2.trans (AL.AJ DD fun _=>False) fun _ hf=>hf.elim
 have vB:=Lib.hid k3
 have c0:w5.drew.cell? ⟨p.w,0,none⟩=some (.pointer (some ⟨p.d,0,none⟩)):=k5.row.cell 0
 have c1:w5.drew.cell? ⟨p.w,1,none⟩=some (.pointer (some ⟨p.a,0,none⟩)):=k5.row.cell 1
 have DJ:Hid (∀W DE F2,Sys W DE p F2 n→W.cell? ⟨p.w,0,none⟩=some (.pointer (some ⟨p.d,0,none⟩))∧W.cell? ⟨p.w,1,none⟩=some (.pointer (some ⟨p.a,0,none⟩))):=fun W DE F2 hs=>⟨hs.row.cell 0,hs.row.cell 1⟩
 have Wz:Hid (¬G' w4.heap.size):=fun hg=>by have:=k1.lt hg;omega
 have HSB:=Lib.hid Li
 clear k1 k2 k3 k5 DD GS PD FH YP Mo LL HS Vj T6 IK BM Li
 go_region_held3 (fun w'=>w'.cell? ⟨p.w,0,none⟩=some (.pointer (some ⟨p.d,0,none⟩))∧w'.cell? ⟨p.w,1,none⟩=some (.pointer (some ⟨p.a,0,none⟩))) (first|with_reducible exact⟨c0,c1⟩|with_reducible exact d1)
  (first
   |(go_at_call 44;(with_reducible refine Q2.out.mono ?_);rintro e w8 ⟨rfl,rfl⟩)
   |(go_at_call 63;(with_reducible refine Q1.out.mono ?_);rintro e w6 ⟨b,g,rfl,⟨G6,k1,k2,k3,k4,k5⟩,k6,k7,k8,k9⟩;have d1:=DJ.out _ _ _ k1))
 have T1:=k2.row HE5.out Wz.out
 have TG:=k2.row DV.out HSB.out
 have e0:w6.cell? ⟨w4.heap.size,0,none⟩=some (.int .i64 a):=T1.cell 0
 have e1:w6.cell? ⟨w4.heap.size,1,none⟩=some (.int .i64 nb):=T1.cell 1
 have e2:w6.cell? ⟨w1.heap.size,0,none⟩=some (.int .i64 k):=TG.cell 0
 have e3:w6.cell? ⟨w1.heap.size,1,none⟩=some (.int .i64 hh):=TG.cell 1
 have HN:=Lib.hid (dc.out w6 _ b g G6 k1 (pO.out.trans k2 vB.out) (fun k hk=>(k3 k hk).elim (fun h=>vB.out k h) fun h=>.inr (Nat.le_trans pO.out.size h)) k4 k5 k6 k7 (Nat.le_trans pO.out.size k8) (Nat.le_trans pO.out.size k9) rfl)
 clear k1 k2 k3 k4 k5 k6 k7 k8 k9 T1 TG Q1 Q2 dc HE5 DV BQ pO vB DJ Wz HSB d1 c0 c1
 go_wp2
 exact dX.out _ _ b g HN.out
def Wq(w:World)(G:Nat→Prop)(p:Wp)(F:Fs)(n:Nat)(width bound:Int)(e:Ending)(w':World):Prop:=
 (∃er,e=.returned (.tuple #[.pointer none,.int .i64 er])∧oQ F width bound er∧AR w G p F n w')∨
 (∃x t S',e=.returned (.tuple #[.pointer (some ⟨x,0,none⟩),.int .i64 0])∧Fo F width bound∧F.D.size≤F.A.room-F.A.used∧(t.k:Int)=width∧(t.bound:Int)=bound∧t.h=AH F.D.size width∧t.l=[]∧t.blocks=AA t.h t.bound∧G7 F.S S' t.first t.blocks∧Ca t F.D.size∧iV w G p F n S' t x w')
theorem OF{w:World}{G:Nat→Prop}{p:Wp}{F:Fs}{n:Nat}(h:Sys w G p F n)(width bound:Int):Calls Tryz.prog 37 #[.pointer (some ⟨p.w,0,none⟩),.int .i64 width,.int .i64 bound] w (Wq w G p F n width bound):=by
 by_cases ha:Fo F width bound
 ·obtain⟨M3,Ya,nj⟩:=id ha
  obtain⟨k,hk,PF,ZD,kM⟩:=Gn M3
  have hsz:=h.size
  have rZ:=h.V0
  have E4:AH F.D.size width≤254:=Nat.le_trans (EY _ _) (by omega)
  rcases UM h.V0 (AA (AH F.D.size width) bound.toNat)with⟨S1,a,e,ht,hg,qJ⟩|⟨e,hm,hno⟩
  ·by_cases hr:F.D.size≤F.A.room-F.A.used
   ·refine(Yc h width bound ha S1 a e hr).mono ?_
    rintro e w' ⟨x,b,g,he,hN⟩
    refine .inr ⟨x,⟨width.toNat,AH F.D.size width,bound.toNat,a,AA (AH F.D.size width) bound.toNat,b,g,[]⟩,S1,he,ha,hr,?_,?_,rfl,rfl,rfl,ht,⟨⟨?_,?_⟩,⟨by show 0<AH F.D.size width;omega,?_,E4⟩,hsz,⟨?_,Nat.zero_le _⟩,⟨rfl,by show AA (AH F.D.size width) bound.toNat≤2000000;omega⟩,by show a≤2000000;omega⟩,hN⟩
    ·show ((width.toNat:Nat):Int)=width;omega
    ·show ((bound.toNat:Nat):Int)=bound;omega
    ·show 0<width.toNat;omega
    ·show width.toNat≤5;omega
    ·show AH F.D.size width*width.toNat≤F.D.size-2
     rw[hk]at kM⊢;rw[Int.toNat_natCast];exact kM
    ·show bound.toNat≤100000000;omega
   ·exact(TW h width bound ha S1 a e hg (by omega) (by omega)).mono fun e w' ⟨he,h1⟩=>.inl ⟨7,he,.inr (.inl ⟨rfl,ha,by omega⟩),h1⟩
  ·refine(TX h width bound ha e (decide (F.A.room-F.A.used<F.D.size)) rfl).mono ?_
   rintro e w' ⟨he,h1⟩
   by_cases hr:F.A.room-F.A.used<F.D.size
   ·rw[decide_eq_true hr,if_pos rfl]at he
    exact .inl ⟨7,he,.inr (.inl ⟨rfl,ha,hr⟩),h1⟩
   ·rw[decide_eq_false hr,if_neg (by decide)]at he
    exact .inl ⟨5,he,.inr (.inr ⟨rfl,ha,by omega,hm,hno⟩),h1⟩
 ·exact(VE h width bound ha).mono fun e w' ⟨he,hb⟩=>.inl ⟨1,he,.inl ⟨rfl,ha⟩,AR.AJ h hb⟩
structure Rt where
 k:Nat
 h:Nat
 first:Nat
 blocks:Nat
 count:Nat
 pos:Nat
 b:Nat
 g:Nat
def Tx(p:Wp)(r:Rt):List Value:=[.int .i64 r.k,.int .i64 r.h,.pointer (some ⟨p.w,0,none⟩),.int .i64 r.first,.int .i64 r.blocks,.int .i64 r.k,.int .i64 r.count,.int .i64 r.pos,.pointer (some ⟨r.b,0,none⟩)]
structure Ft (r:Rt) (sz:Nat):Prop where
 k:0<r.k∧r.k≤5
 h:0<r.h∧r.h*r.k≤sz-2∧r.h≤254
 sz:8≤sz∧sz≤256
 count:r.count≤100000000∧r.pos≤r.count
 first:r.first≤2000000
structure DI (w:World) (x:Nat) (p:Wp) (r:Rt) (sz:Nat) (ws:List Nat):Prop where
 row:Row w x 140 (Tx p r)
 buf:Row w r.b 126 [.slice (some ⟨r.g,0,none⟩) sz sz]
 words:Row w r.g 127 (ws.map vw)
 len:ws.length=sz
 u64:JR ws
structure J8 (G:Nat→Prop) (x:Nat) (r:Rt):Prop where
 x:¬G x
 b:¬G r.b
 g:¬G r.g
def Qe(w:World)(x:Nat)(p:Wp)(r:Rt):Prop:=Row w x 140 (Tx p r)∧Row w r.b 126 [.slice none 0 0]
section
variable {w w' : World} {x : Nat} {p : Wp} {r : Rt} {sz : Nat} {ws : List Nat}
theorem DI.Cc{R:Nat→Prop}(h:DI w x p r sz ws)(hf:AL R w w')(h1:¬R x)(h2:¬R r.b)(h3:¬R r.g):DI w' x p r sz ws:=⟨hf.row h.row h1,hf.row h.buf h2,hf.row h.words h3,h.len,h.u64⟩
theorem DI.below(h:DI w x p r sz ws)(hb:Below w.heap.size w w'):DI w' x p r sz ws:=h.Cc (AL.AJ hb fun _=>False) (fun h=>h) (fun h=>h) (fun h=>h)
theorem DI.lt(h:DI w x p r sz ws):x<w.heap.size∧r.b<w.heap.size∧r.g<w.heap.size:=⟨h.row.lt,h.buf.lt,h.words.lt⟩
theorem DI.apart(h:DI w x p r sz ws):x≠r.b∧x≠r.g∧r.b≠r.g:=
 ⟨fun e=>absurd (h.row.typed (e▸h.buf)) (by decide),fun e=>absurd (h.row.typed (e▸h.words)) (by decide),fun e=>absurd (h.buf.typed (e▸h.words)) (by decide)⟩
end
section
variable {w : World} {x : Nat} {p : Wp} {r : Rt}
theorem CO{A:Option Addr}{m c:Nat}(hr:Row w x 140 (Tx p r))(hb:Row w r.b 126 [.slice A m c]):Calls Tryz.prog 79 #[.pointer (some ⟨x,0,none⟩)] w fun e w'=>e=.returned (.bool (!decide (0<m)))∧w'=w:=by
 have c7:w.cell? ⟨x,8,none⟩=some (.pointer (some ⟨r.b,0,none⟩)):=hr.cell 8
 have HS:=Lib.hid (SG hb)
 clear hb hr
 go_enter Tryz.func79,Tryz.ntmps79
 go_wp2_with fail
 refine HS.out.mono ?_;rintro e w1 ⟨rfl,rfl⟩
 go_wp2
 go_ret
 exact⟨Du (by simp),rfl⟩
end
def To(w:World)(G:Nat→Prop)(x:Nat)(p:Wp)(F:Fs)(n:Nat)(r:Rt)(w':World):Prop:=
 ∃G',Sys w' G' p {F with A:=release F.A r.b F.D.size} n∧Qe w' x p r∧AL (fun k=>G k∨k=r.b) w w'∧∀k,G' k→G k∨w.heap.size≤k
theorem Ng{w:World}{G:Nat→Prop}{p:Wp}{F:Fs}{n x:Nat}{r:Rt}{ws:List Nat}(h:Sys w G p F n)(hm:DI w x p r F.D.size ws)(ho:J8 G x r)(hst:wordsAt F.A.st r.b=some F.D.size):
  Calls Tryz.prog 51 #[.pointer (some ⟨x,0,none⟩)] w fun e w'=>(e=.returned (.tuple #[])∧To w G x p F n r w'):=by
 have hsz:=h.size
 have hc:=CO hm.row hm.buf
 rw[decide_eq_true (show 0<F.D.size by omega)]at hc
 have HC:=Lib.hid hc
 have Oy:=AG (Below.refl w.heap.size w)
 obtain⟨Kk,T0,Ry⟩:=hm.apart
 have qW:Hid (Calls Tryz.prog 80 #[.pointer (some ⟨p.a,0,none⟩),.pointer (some ⟨r.b,0,none⟩)] w.drew fun e w'=>e=.returned (.bool true)∧To w G x p F n r w'):=by
  refine(Ib (h.below Oy) hst).mono ?_
  rintro e w' ⟨he,h2⟩
  obtain⟨G',k1,k2,k3,k4⟩:=h2.behind Oy
  refine⟨he,G',k1,⟨k2.row hm.row ?_,k4⟩,k2,k3⟩
  rintro(h5|h5)
  ·exact ho.x h5
  ·exact Kk h5
 have c2:w.drew.cell? ⟨x,2,none⟩=some (.pointer (some ⟨p.w,0,none⟩)):=hm.row.cell 2
 have c8:w.drew.cell? ⟨x,8,none⟩=some (.pointer (some ⟨r.b,0,none⟩)):=hm.row.cell 8
 have cp:w.drew.cell? ⟨p.w,1,none⟩=some (.pointer (some ⟨p.a,0,none⟩)):=h.row.cell 1
 have Oi:Hid (∀w',To w G x p F n r w'→w'.cell? ⟨x,2,none⟩=some (.pointer (some ⟨p.w,0,none⟩))∧w'.cell? ⟨x,8,none⟩=some (.pointer (some ⟨r.b,0,none⟩))∧w'.cell? ⟨p.w,1,none⟩=some (.pointer (some ⟨p.a,0,none⟩))):=fun w' ⟨G',k1,k2,_⟩=>⟨k2.1.cell 2,k2.1.cell 8,k1.row.cell 1⟩
 generalize To w G x p F n r=FK at*
 generalize r.b=b at*
 clear hc h hm ho hst hsz Oy Kk T0 Ry
 go_enter Tryz.func51,Tryz.ntmps51
 go_wp2_with fail
 refine HC.out.mono ?_;rintro e w1 ⟨rfl,rfl⟩
 go_wp2
 go_region_held3 (fun w'=>w'.cell? ⟨x,2,none⟩=some (.pointer (some ⟨p.w,0,none⟩))∧w'.cell? ⟨x,8,none⟩=some (.pointer (some ⟨b,0,none⟩))∧w'.cell? ⟨p.w,1,none⟩=some (.pointer (some ⟨p.a,0,none⟩))) (first|with_reducible exact⟨c2,c8,cp⟩|with_reducible exact q2)
  (first
   |(go_at_call 80;(with_reducible refine qW.out.mono ?_);rintro e w2 ⟨rfl,h2⟩;have q2:=Oi.out w2 h2))
 have H2:=Lib.hid h2
 clear h2 q2
 go_wp2
 go_end0
 exact⟨rfl,H2.out⟩
theorem Mb{w:World}{p:Wp}{x:Nat}{r:Rt}(hs:Qe w x p r):
  Calls Tryz.prog 51 #[.pointer (some ⟨x,0,none⟩)] w fun e w'=>(e=.returned (.tuple #[])∧w'=w):=by
 have hc:=CO hs.1 hs.2
 rw[decide_eq_false (Nat.lt_irrefl 0)]at hc
 have HC:=Lib.hid hc
 clear hc hs
 go_enter Tryz.func51,Tryz.ntmps51
 go_wp2_with fail
 refine HC.out.mono ?_;rintro e w1 ⟨rfl,rfl⟩
 go_wp2
 go_end0
 exact⟨rfl,rfl⟩
theorem Ue(u:FrameMode){w:World}{G:Nat→Prop}{p:Wp}{F:Fs}{n x:Nat}{r:Rt}{ws:List Nat}(h:Sys w G p F n)(hm:DI w x p r F.D.size ws)(ho:J8 G x r)(hst:wordsAt F.A.st r.b=some F.D.size):
  CallsD Tryz.prog 51 #[.pointer (some ⟨x,0,none⟩)] u w fun e u' w'=>u'=u∧(e=.returned (.tuple #[])∧To w G x p F n r w'):=by
 have hsz:=h.size
 have hc:=CO hm.row hm.buf
 rw[decide_eq_true (show 0<F.D.size by omega)]at hc
 have HC:=Lib.hid hc
 have Oy:=AG (Below.refl w.heap.size w)
 obtain⟨Kk,T0,Ry⟩:=hm.apart
 have qW:Hid (Calls Tryz.prog 80 #[.pointer (some ⟨p.a,0,none⟩),.pointer (some ⟨r.b,0,none⟩)] w.drew fun e w'=>e=.returned (.bool true)∧To w G x p F n r w'):=by
  refine(Ib (h.below Oy) hst).mono ?_
  rintro e w' ⟨he,h2⟩
  obtain⟨G',k1,k2,k3,k4⟩:=h2.behind Oy
  refine⟨he,G',k1,⟨k2.row hm.row ?_,k4⟩,k2,k3⟩
  rintro(h5|h5)
  ·exact ho.x h5
  ·exact Kk h5
 have c2:w.drew.cell? ⟨x,2,none⟩=some (.pointer (some ⟨p.w,0,none⟩)):=hm.row.cell 2
 have c8:w.drew.cell? ⟨x,8,none⟩=some (.pointer (some ⟨r.b,0,none⟩)):=hm.row.cell 8
 have cp:w.drew.cell? ⟨p.w,1,none⟩=some (.pointer (some ⟨p.a,0,none⟩)):=h.row.cell 1
 have Oi:Hid (∀w',To w G x p F n r w'→w'.cell? ⟨x,2,none⟩=some (.pointer (some ⟨p.w,0,none⟩))∧w'.cell? ⟨x,8,none⟩=some (.pointer (some ⟨r.b,0,none⟩))∧w'.cell? ⟨p.w,1,none⟩=some (.pointer (some ⟨p.a,0,none⟩))):=fun w' ⟨G',k1,k2,_⟩=>⟨k2.1.cell 2,k2.1.cell 8,k1.row.cell 1⟩
 generalize To w G x p F n r=FK at*
 generalize r.b=b at*
 clear hc h hm ho hst hsz Oy Kk T0 Ry
 go_enter_d Tryz.func51,Tryz.ntmps51
 go_wp2_with fail
 refine HC.out.mono ?_;rintro e w1 ⟨rfl,rfl⟩
 go_wp2
 go_region_held3 (fun w'=>w'.cell? ⟨x,2,none⟩=some (.pointer (some ⟨p.w,0,none⟩))∧w'.cell? ⟨x,8,none⟩=some (.pointer (some ⟨b,0,none⟩))∧w'.cell? ⟨p.w,1,none⟩=some (.pointer (some ⟨p.a,0,none⟩))) (first|with_reducible exact⟨c2,c8,cp⟩|with_reducible exact q2)
  (first
   |(go_at_call 80;(with_reducible refine qW.out.mono ?_);rintro e w2 ⟨rfl,h2⟩;have q2:=Oi.out w2 h2))
 have H2:=Lib.hid h2
 clear h2 q2
 go_wp2
 go_end0
 exact⟨rfl,H2.out⟩
theorem Ma(u:FrameMode){w:World}{p:Wp}{x:Nat}{r:Rt}(hs:Qe w x p r):
  CallsD Tryz.prog 51 #[.pointer (some ⟨x,0,none⟩)] u w fun e u' w'=>u'=u∧(e=.returned (.tuple #[])∧w'=w):=by
 have hc:=CO hs.1 hs.2
 rw[decide_eq_false (Nat.lt_irrefl 0)]at hc
 have HC:=Lib.hid hc
 clear hc hs
 go_enter_d Tryz.func51,Tryz.ntmps51
 go_wp2_with fail
 refine HC.out.mono ?_;rintro e w1 ⟨rfl,rfl⟩
 go_wp2
 go_end0
 exact⟨rfl,rfl⟩
theorem VG{w:World}{G:Nat→Prop}{p:Wp}{F:Fs}{n:Nat}(h:Sys w G p F n)(k hh first nb count:Nat)(Iu:hh=AH F.D.size k)(DQ:0<hh)(Hu:nb=AA hh count)(EE:count≤100000000)(hroom:F.A.room-F.A.used<F.D.size):Calls Tryz.prog 50 #[.pointer (some ⟨p.w,0,none⟩),.agg #[.int .i64 first,.int .i64 nb,.int .i64 k,.int .i64 count]] w fun e w'=>e=.returned (.tuple #[.pointer none,.int .i64 7])∧Below w.heap.size w w':=by
 have hsz:=h.size
 have E4:hh≤254:=by rw[Iu];exact Nat.le_trans (EY _ _) (by omega)
 have hb0:=(Below.refl w.heap.size w).alloc (Nat.le_refl _) (.cells #[.int .i64 first,.int .i64 nb,.int .i64 k,.int .i64 count] 39)
 have DP:Row (w.alloc (.cells #[.int .i64 first,.int .i64 nb,.int .i64 k,.int .i64 count] 39)) w.heap.size 39 [.int .i64 first,.int .i64 nb,.int .i64 k,.int .i64 count]:=heap_alloc_new _ _
 have Uw:=FR (h.below hb0) k
 rw[←Iu]at Uw
 have HS:=Lib.hid Uw
 have Mo:Hid (∀W,Calls Tryz.prog 62 #[.agg #[.int .i64 k,.int .i64 hh],.int .i64 count] W fun e w'=>e=.returned (.int .i64 nb)∧Below W.heap.size W w'):=fun W=>by
  rw[Hu];exact Fk k hh count W DQ E4 EE
 have Rq:Hid (∀W,Below w.heap.size w W→Sys W G p F n):=fun W hb=>h.below hb
 have GW:=Lib.hid hb0
 have Hj:=Lib.hid DP
 obtain⟨size,Cm⟩:∃size,size=F.D.size:=⟨_,rfl⟩
 have g0:((hh:Int)==0)=false:=by simp;omega
 have g1:decide ((count:Int)<0)=false:=by simp
 have u9:Hid (∀W,Sys W G p F n→∀q,Calls Tryz.prog 63 #[.pointer (some ⟨p.a,0,none⟩),.int .i64 size] (W.drewN q) fun e Cq=>e=.returned (.tuple #[.pointer none,.int .i64 7])∧∃k,Cq=W.drewN k):=fun W hs q=>by
  rw[Cm];exact Calls.quiet_of_same ((KT (hs.below (AF (Below.refl _ _) q)) F.D.size hroom).mono fun _ _ h=>h)
 have T6:Hid (∀W,Sys W G p F n→∀q,Calls Tryz.prog 44 #[.pointer (some ⟨p.d,0,none⟩)] (W.drewN q) fun e Cq=>e=.returned (.int .i64 (size:Int))∧∃k,Cq=W.drewN k):=fun W hs q=>by
  rw[Cm];exact Calls.quiet_of_same ((hs.below (AF (Below.refl _ _) q)).Dm.mono fun _ _ h=>h)
 clear Cm hroom h Uw hb0 DP Iu Hu hsz
 go_enter Tryz.func50,Tryz.ntmps50
 go_wp2_with fail
 refine HS.out.mono ?_;rintro e w1 ⟨rfl,Am⟩
 have AZ:=Am.alloc Am.size (.cells #[.int .i64 k,.int .i64 hh] 113)
 have eG:Row (w1.alloc (.cells #[.int .i64 k,.int .i64 hh] 113)) w1.heap.size 113 [.int .i64 k,.int .i64 hh]:=heap_alloc_new _ _
 have Nz:=Hj.out.below AZ Hj.out.lt
 have Bt:=Lib.hid (GW.out.trans (AZ.mono GW.out.size))
 have O6:Hid (w.heap.size≤w1.heap.size):=Nat.le_trans GW.out.size Am.size
 clear Am AZ GW Hj HS
 have T7:=Lib.hid eG
 have Eg:=Lib.hid Nz
 clear eG Nz
 have k0:∀d os,(Sort.grow (redrawn (w1.alloc (.cells #[.int .i64 k,.int .i64 hh] 113)) d) os).cell? ⟨w1.heap.size,0,none⟩=some (.int .i64 k):=cell_regrown (T7.out.cell 0)
 have k1:∀d os,(Sort.grow (redrawn (w1.alloc (.cells #[.int .i64 k,.int .i64 hh] 113)) d) os).cell? ⟨w1.heap.size,1,none⟩=some (.int .i64 hh):=cell_regrown (T7.out.cell 1)
 have k2:∀d os,(Sort.grow (redrawn (w1.alloc (.cells #[.int .i64 k,.int .i64 hh] 113)) d) os).cell? ⟨w.heap.size,1,none⟩=some (.int .i64 nb):=cell_regrown (Eg.out.cell 1)
 have k3:∀d os,(Sort.grow (redrawn (w1.alloc (.cells #[.int .i64 k,.int .i64 hh] 113)) d) os).cell? ⟨w.heap.size,3,none⟩=some (.int .i64 count):=cell_regrown (Eg.out.cell 3)
 have Q1:Hid (∀d os,Calls Tryz.prog 62 #[.agg #[.int .i64 k,.int .i64 hh],.int .i64 count] (Sort.grow (redrawn (w1.alloc (.cells #[.int .i64 k,.int .i64 hh] 113)) d) os) fun e Cq=>e=.returned (.int .i64 nb)∧∃p:Regrown,Cq=Sort.grow (redrawn (w1.alloc (.cells #[.int .i64 k,.int .i64 hh] 113)) p.d) p.os):=fun d os=>Calls.regrown_of (Mo.out _)
 go_wp2
 refine wp_region_quiet_below (by kernel_rfl) (by kernel_rfl) ?_
 repeat(any_goals(first|go_big_quiet_step (with_reducible exact Q1.out _ _)|quiet_step (with_reducible exact Q1.out _ _)))
 refine wpQuiet_nil ?_
 intro w5 EJ
 obtain⟨⟨dq,osq⟩,EJ⟩:=EJ
 have Bu:=below_regrown (w1.alloc (.cells #[.int .i64 k,.int .i64 hh] 113)) dq osq
 rw[←EJ]at Bu
 clear EJ
 have BQ:=Lib.hid (Bt.out.trans (Bu.mono Bt.out.size))
 have ot:=Lib.hid (T7.out.below Bu T7.out.lt)
 have ox:=Lib.hid (Eg.out.below Bu Eg.out.lt)
 have k5:=Rq.out w5 BQ.out
 clear Bu Q1 k0 k1 k2 k3 T7 Eg Bt Mo
 have Q1:=Lib.hid (u9.out w5 k5)
 have Q2:=Lib.hid (T6.out w5 k5)
 have c0:w5.cell? ⟨p.w,0,none⟩=some (.pointer (some ⟨p.d,0,none⟩)):=k5.row.cell 0
 have c1:w5.cell? ⟨p.w,1,none⟩=some (.pointer (some ⟨p.a,0,none⟩)):=k5.row.cell 1
 clear k5 u9 T6 Rq
 go_wp2
 go_quiet ((with_reducible first|exact Q1.out _|exact Q2.out _))
 go_wp2
 go_ret2
 exact⟨rfl,AF BQ.out _⟩
def oT(w:World)(G:Nat→Prop)(p:Wp)(F:Fs)(n:Nat)(r:Rt)(x:Nat)(w':World):Prop:=
 w.heap.size≤x∧w.heap.size≤r.b∧w.heap.size≤r.g∧∃G',Sys w' G' p {F with A:=Bv F.A r.b F.D.size} n∧(∃ws,DI w' x p r F.D.size ws)∧J8 G' x r∧AL G w w'∧∀k,G' k→G k∨w.heap.size≤k
def VZ(w:World)(G:Nat→Prop)(p:Wp)(F:Fs)(n:Nat)(k h first nb count:Nat)(e:Ending)(w':World):Prop:=
 ∃x b g,e=.returned (.tuple #[.pointer (some ⟨x,0,none⟩),.int .i64 0])∧oT w G p F n ⟨k,h,first,nb,count,0,b,g⟩ x w'
theorem cL{w:World}{G:Nat→Prop}{p:Wp}{F:Fs}{n:Nat}(h:Sys w G p F n)(k hh first nb count:Nat)(Iu:hh=AH F.D.size k)(DQ:0<hh)(Hu:nb=AA hh count)(EE:count≤100000000)(hroom:F.D.size≤F.A.room-F.A.used):Calls Tryz.prog 50 #[.pointer (some ⟨p.w,0,none⟩),.agg #[.int .i64 first,.int .i64 nb,.int .i64 k,.int .i64 count]] w (VZ w G p F n k hh first nb count):=by
 have hsz:=h.size
 have E4:hh≤254:=by rw[Iu];exact Nat.le_trans (EY _ _) (by omega)
 have hb0:=(Below.refl w.heap.size w).alloc (Nat.le_refl _) (.cells #[.int .i64 first,.int .i64 nb,.int .i64 k,.int .i64 count] 39)
 have DP:Row (w.alloc (.cells #[.int .i64 first,.int .i64 nb,.int .i64 k,.int .i64 count] 39)) w.heap.size 39 [.int .i64 first,.int .i64 nb,.int .i64 k,.int .i64 count]:=heap_alloc_new _ _
 have Uw:=FR (h.below hb0) k
 rw[←Iu]at Uw
 have HS:=Lib.hid Uw
 have Mo:Hid (∀W,Calls Tryz.prog 62 #[.agg #[.int .i64 k,.int .i64 hh],.int .i64 count] W fun e w'=>e=.returned (.int .i64 nb)∧Below W.heap.size W w'):=fun W=>by
  rw[Hu];exact Fk k hh count W DQ E4 EE
 have Rq:Hid (∀W,Below w.heap.size w W→Sys W G p F n):=fun W hb=>h.below hb
 have GW:=Lib.hid hb0
 have Hj:=Lib.hid DP
 obtain⟨size,Cm⟩:∃size,size=F.D.size:=⟨_,rfl⟩
 have g0:((hh:Int)==0)=false:=by simp;omega
 have g1:decide ((count:Int)<0)=false:=by simp
 have Vj:Hid (∀W,Sys W G p F n→Calls Tryz.prog 63 #[.pointer (some ⟨p.a,0,none⟩),.int .i64 size] W.drew fun e w'=>∃b g,e=.returned (.tuple #[.pointer (some ⟨b,0,none⟩),.int .i64 0])∧
   (∃DE,Sys w' DE p {F with A:=Bv F.A b F.D.size} n∧AL G W w'∧(∀k,DE k→G k∨W.heap.size≤k)∧¬DE b∧¬DE g)∧Row w' b 126 [.slice (some ⟨g,0,none⟩) size size]∧Row w' g 127 ((List.replicate size 0).map vw)∧W.heap.size≤b∧W.heap.size≤g):=fun W hs=>by
  refine(Pc (hs.below (AG (Below.refl _ _))) size (by rw[Cm];exact hroom) (by omega)).mono ?_
  rintro e w' ⟨b,g,he,⟨DE,h1,h2,h3,h4⟩,h5⟩
  rw[Cm]at h1
  exact⟨b,g,he,⟨DE,h1,⟨h2.os,h2.tape,h2.output,h2.size,h2.block⟩,h3,h4⟩,h5⟩
 have T6:Hid (∀W,Sys W G p F n→Calls Tryz.prog 44 #[.pointer (some ⟨p.d,0,none⟩)] W.drew fun e Cq=>e=.returned (.int .i64 (size:Int))∧Cq=W.drew):=fun W hs=>by
  rw[Cm];exact(hs.below (AG (Below.refl _ _))).Dm
 have Wy:Hid (∀k,w.heap.size≤k→¬G k):=fun k hk hg=>by have:=h.lt hg;omega
 have dc:Hid (∀w6 w7 b g DE,Sys w6 DE p {F with A:=Bv F.A b F.D.size} n→AL G w w6→(∀k,DE k→G k∨w.heap.size≤k)→¬DE b→¬DE g→Row w6 b 126 [.slice (some ⟨g,0,none⟩) size size]→Row w6 g 127 ((List.replicate size 0).map vw)→w.heap.size≤b→w.heap.size≤g→
   w7=w6.alloc (.cells #[.int .i64 k,.int .i64 hh,.pointer (some ⟨p.w,0,none⟩),.int .i64 first,.int .i64 nb,.int .i64 k,.int .i64 count,.int .i64 0,.pointer (some ⟨b,0,none⟩)] 140)→
   oT w G p F n ⟨k,hh,first,nb,count,0,b,g⟩ w6.heap.size w7):=by
  intro w6 w7 b g DE k1 k2 k3 k4 k5 k6 k7 k8 k9 e7
  subst e7
  have hb:=(Below.refl w6.heap.size w6).alloc (Nat.le_refl _) (.cells #[.int .i64 k,.int .i64 hh,.pointer (some ⟨p.w,0,none⟩),.int .i64 first,.int .i64 nb,.int .i64 k,.int .i64 count,.int .i64 0,.pointer (some ⟨b,0,none⟩)] 140)
  have rK:=k6.below hb k6.lt
  rw[Cm]at rK
  refine⟨k2.size,k8,k9,DE,k1.below hb,⟨List.replicate size 0,⟨heap_alloc_new _ _,rK,k7.below hb k7.lt,by rw[←Cm];simp,?_⟩⟩,⟨fun hg=>by have:=k1.lt hg;omega,k4,k5⟩,k2.trans (AL.AJ hb fun _=>False) fun _ hf=>hf.elim,k3⟩
  intro y hy
  rw[List.mem_replicate]at hy;omega
 have dX:Hid (∀w7 x b g,oT w G p F n ⟨k,hh,first,nb,count,0,b,g⟩ x w7→VZ w G p F n k hh first nb count (.returned (.tuple #[.pointer (some ⟨x,0,none⟩),.int .i64 0])) w7):=fun w7 x b g h1=>⟨x,b,g,rfl,h1⟩
 have DJ:Hid (∀W DE F2,Sys W DE p F2 n→W.cell? ⟨p.w,0,none⟩=some (.pointer (some ⟨p.d,0,none⟩))∧W.cell? ⟨p.w,1,none⟩=some (.pointer (some ⟨p.a,0,none⟩))):=fun W DE F2 hs=>⟨hs.row.cell 0,hs.row.cell 1⟩
 clear Cm hroom h Uw hb0 DP Iu Hu hsz
 generalize VZ w G p F n k hh first nb count=FK at*
 go_enter Tryz.func50,Tryz.ntmps50
 go_wp2_with fail
 refine HS.out.mono ?_;rintro e w1 ⟨rfl,Am⟩
 have AZ:=Am.alloc Am.size (.cells #[.int .i64 k,.int .i64 hh] 113)
 have eG:Row (w1.alloc (.cells #[.int .i64 k,.int .i64 hh] 113)) w1.heap.size 113 [.int .i64 k,.int .i64 hh]:=heap_alloc_new _ _
 have Nz:=Hj.out.below AZ Hj.out.lt
 have Bt:=Lib.hid (GW.out.trans (AZ.mono GW.out.size))
 have O6:Hid (w.heap.size≤w1.heap.size):=Nat.le_trans GW.out.size Am.size
 clear Am AZ GW Hj HS
 have T7:=Lib.hid eG
 have Eg:=Lib.hid Nz
 clear eG Nz
 have k0:∀d os,(Sort.grow (redrawn (w1.alloc (.cells #[.int .i64 k,.int .i64 hh] 113)) d) os).cell? ⟨w1.heap.size,0,none⟩=some (.int .i64 k):=cell_regrown (T7.out.cell 0)
 have k1:∀d os,(Sort.grow (redrawn (w1.alloc (.cells #[.int .i64 k,.int .i64 hh] 113)) d) os).cell? ⟨w1.heap.size,1,none⟩=some (.int .i64 hh):=cell_regrown (T7.out.cell 1)
 have k2:∀d os,(Sort.grow (redrawn (w1.alloc (.cells #[.int .i64 k,.int .i64 hh] 113)) d) os).cell? ⟨w.heap.size,1,none⟩=some (.int .i64 nb):=cell_regrown (Eg.out.cell 1)
 have k3:∀d os,(Sort.grow (redrawn (w1.alloc (.cells #[.int .i64 k,.int .i64 hh] 113)) d) os).cell? ⟨w.heap.size,3,none⟩=some (.int .i64 count):=cell_regrown (Eg.out.cell 3)
 have Q1:Hid (∀d os,Calls Tryz.prog 62 #[.agg #[.int .i64 k,.int .i64 hh],.int .i64 count] (Sort.grow (redrawn (w1.alloc (.cells #[.int .i64 k,.int .i64 hh] 113)) d) os) fun e Cq=>e=.returned (.int .i64 nb)∧∃p:Regrown,Cq=Sort.grow (redrawn (w1.alloc (.cells #[.int .i64 k,.int .i64 hh] 113)) p.d) p.os):=fun d os=>Calls.regrown_of (Mo.out _)
 go_wp2
 refine wp_region_quiet_below (by kernel_rfl) (by kernel_rfl) ?_
 repeat(any_goals(first|go_big_quiet_step (with_reducible exact Q1.out _ _)|quiet_step (with_reducible exact Q1.out _ _)))
 refine wpQuiet_nil ?_
 intro w5 EJ
 obtain⟨⟨dq,osq⟩,EJ⟩:=EJ
 have Bu:=below_regrown (w1.alloc (.cells #[.int .i64 k,.int .i64 hh] 113)) dq osq
 rw[←EJ]at Bu
 clear EJ
 have BQ:=Lib.hid (Bt.out.trans (Bu.mono Bt.out.size))
 have ot:=Lib.hid (T7.out.below Bu T7.out.lt)
 have ox:=Lib.hid (Eg.out.below Bu Eg.out.lt)
 have k5:=Rq.out w5 BQ.out
 clear Bu Q1 k0 k1 k2 k3 T7 Eg Bt Mo
 have Q1:=Lib.hid (Vj.out w5 k5)
 have Q2:=Lib.hid (T6.out w5 k5)
 have c0:w5.drew.cell? ⟨p.w,0,none⟩=some (.pointer (some ⟨p.d,0,none⟩)):=k5.row.cell 0
 have c1:w5.drew.cell? ⟨p.w,1,none⟩=some (.pointer (some ⟨p.a,0,none⟩)):=k5.row.cell 1
 clear k5 Vj T6 Rq
 go_wp2
 go_region_held3 (fun w'=>w'.cell? ⟨p.w,0,none⟩=some (.pointer (some ⟨p.d,0,none⟩))∧w'.cell? ⟨p.w,1,none⟩=some (.pointer (some ⟨p.a,0,none⟩))) (first|with_reducible exact⟨c0,c1⟩|with_reducible exact d1)
  (first
   |(go_at_call 44;(with_reducible refine Q2.out.mono ?_);rintro e w8 ⟨rfl,rfl⟩)
   |(go_at_call 63;(with_reducible refine Q1.out.mono ?_);rintro e w6 ⟨b,g,rfl,⟨G6,k1,k2,k3,k4,k5⟩,k6,k7,k8,k9⟩;have d1:=DJ.out _ _ _ k1))
 have T1:=k2.row ox.out (Wy.out _ (Nat.le_refl _))
 have TG:=k2.row ot.out (Wy.out _ O6.out)
 have e0:w6.cell? ⟨w.heap.size,0,none⟩=some (.int .i64 first):=T1.cell 0
 have e1:w6.cell? ⟨w.heap.size,1,none⟩=some (.int .i64 nb):=T1.cell 1
 have e2:w6.cell? ⟨w.heap.size,2,none⟩=some (.int .i64 k):=T1.cell 2
 have e3:w6.cell? ⟨w.heap.size,3,none⟩=some (.int .i64 count):=T1.cell 3
 have e4:w6.cell? ⟨w1.heap.size,0,none⟩=some (.int .i64 k):=TG.cell 0
 have e5:w6.cell? ⟨w1.heap.size,1,none⟩=some (.int .i64 hh):=TG.cell 1
 have HN:=Lib.hid (dc.out w6 _ b g G6 k1 ((AL.AJ BQ.out G).trans k2 fun b hb=>.inl hb) (fun k hk=>(k3 k hk).imp_right fun h=>Nat.le_trans BQ.out.size h) k4 k5 k6 k7 (Nat.le_trans BQ.out.size k8) (Nat.le_trans BQ.out.size k9) rfl)
 clear k1 k2 k3 k4 k5 k6 k7 k8 k9 T1 TG Q1 Q2 dc BQ ox ot DJ d1 c0 c1 Wy
 go_wp2
 exact dX.out _ _ b g HN.out
theorem Np{s:St}{n:Nat}(h:Fits s n)(x:Int):(s.now x).length=s.size:=by
 unfold St.now blk
 split
 ·next l hl=>exact RI (fun l=>l.length=s.size) s.Ak s.fl h.fl (fun e he=>(h.Ak e he).2) x l hl
 ·simp
theorem fG{b:List Nat}(h:∀x∈b,x<18446744073709551616):LU b<18446744073709551616:=by
 unfold LU
 rw[List.getD_eq_getElem?_getD]
 rcases hx:b[b.length-2]?with _|x
 ·simp
 ·exact h x (List.mem_of_getElem? hx)
theorem SL{α:Type}(ws l:List α)(h:l.length≤ws.length):(splice ws 0 l).length=ws.length:=by unfold splice;simp;omega
theorem mA{w:World}{g:Nat}{t:TypeId}{a b c d e:Value}(h:Row w g t [a,b,c,d,e])(v0 v1 v2 v3 v4:Value):Row (((((w.setCell ⟨g,0,none⟩ v0).setCell ⟨g,1,none⟩ v1).setCell ⟨g,2,none⟩ v2).setCell ⟨g,3,none⟩ v3).setCell ⟨g,4,none⟩ v4) g t [v0,v1,v2,v3,v4]:=
 ((((h.set 0 v0).set 1 v1).set 2 v2).set 3 v3).set 4 v4
theorem cS(w:World)(g:Nat)(v0 v1 v2 v3 v4:Value):AL (fun k=>k=g) w (((((w.setCell ⟨g,0,none⟩ v0).setCell ⟨g,1,none⟩ v1).setCell ⟨g,2,none⟩ v2).setCell ⟨g,3,none⟩ v3).setCell ⟨g,4,none⟩ v4):=
 (((((AL.refl (fun k=>k=g) w).set (p:=⟨g,0,none⟩) (.inl rfl) v0).set (p:=⟨g,1,none⟩) (.inl rfl) v1).set (p:=⟨g,2,none⟩) (.inl rfl) v2).set (p:=⟨g,3,none⟩) (.inl rfl) v3).set (p:=⟨g,4,none⟩) (.inl rfl) v4
theorem SJ{α β:Type}(f:α→β)(ws l:List α)(off:Nat):splice (ws.map f) off (l.map f)=(splice ws off l).map f:=by unfold splice;simp[List.map_take,List.map_drop]
theorem SI{ws l:List Nat}(h:JR ws)(hl:∀y∈l,y<18446744073709551616):JR (splice ws 0 l):=by
 intro y hy
 unfold splice at hy
 rcases List.mem_append.1 hy with hy|hy
 ·exact h y (List.mem_of_mem_take hy)
 ·rcases List.mem_append.1 hy with hy|hy
  ·exact hl y hy
  ·exact h y (List.mem_of_mem_drop hy)
theorem SE{w:World}{G:Nat→Prop}{p:Wp}{F:Fs}{n:Nat}(h:Sys w G p F n)(hn:n<1000000)(i:Int)(hi:Fv i):
  Calls Tryz.prog 98 #[.pointer (some ⟨p.d,0,none⟩),.int .i64 i] w fun e w'=>∃v,e=.returned (.tuple #[v,.int .i64 (read F.D i).1])∧((read F.D i).1≠0→v=.slice none 0 0)∧
   ((read F.D i).1=0→∃A c,v=.slice A F.D.size c∧F.D.size≤c∧Reads .u64 w' w'.heap.size A F.D.size (F.D.now i))∧AR w G p {F with D:=(read F.D i).2} (n+1) w':=by
 obtain⟨Gd,hd,IN⟩:=h.dev
 have yN:=Np hd.fits i
 refine(aC p.d F.D n Gd i w hd hn hi).mono ?_
 rintro e w' ⟨v,he,h1,h2,h3,h4⟩
 refine⟨v,he,h1,fun h0=>?_,IN _ _ _ ⟨Gd,h3,h4.mono fun k hk=>by rw[hk];exact hd.Ju,fun k hk=>.inl hk⟩⟩
 have Us:=h2 h0
 obtain⟨A,c,e1,_,e2⟩:=Us.reads
 obtain⟨g',c',cs,e3,_,_,e4,_⟩:=id Us
 rw[yN]at e1 e2 e4 e3
 rw[e1]at e3
 injection e3 with e3 _ e5
 exact⟨A,c,e1,by omega,e2⟩
def Ru(w:World)(G:Nat→Prop)(p:Wp)(F:Fs)(n x:Nat)(r:Rt)(ws:List Nat)(w':World):Prop:=
 ∃G',Sys w' G' p F n∧DI w' x p r F.D.size ws∧AL (fun k=>G k∨k=r.g) w w'∧∀k,G' k→G k∨w.heap.size≤k
theorem AR.blk{w w':World}{G:Nat→Prop}{p:Wp}{F F':Fs}{n' x:Nat}{r:Rt}{ws:List Nat}(h:AR w G p F' n' w')(hs:F'.D.size=F.D.size)(hm:DI w x p r F.D.size ws)(ho:J8 G x r):Ru w G p F' n' x r ws w':=by
 obtain⟨G',h1,h2,h3⟩:=h
 refine⟨G',h1,?_,h2.mono fun k hk=>.inl hk,h3⟩
 rw[hs];exact hm.Cc h2 ho.x ho.b ho.g
theorem AR.Wk{w w1 w':World}{G:Nat→Prop}{p:Wp}{F F':Fs}{n' x:Nat}{r:Rt}{ws Bz:List Nat}(h:AR w G p F' n' w1)(hs:F'.D.size=F.D.size)(hm:DI w x p r F.D.size ws)(ho:J8 G x r)
  (hf:AL (fun k=>k=r.g) w1 w') (hr:Row w' r.g 127 (Bz.map vw)) (hl:Bz.length=F.D.size) (hu:JR Bz):Ru w G p F' n' x r Bz w':=by
 obtain⟨hx,hb,hg⟩:=hm.lt
 obtain⟨a1,a2,a3⟩:=hm.apart
 obtain⟨G',h1,h2,h3,h4⟩:=h.apart
 have KH:=hm.Cc h2 ho.x ho.b ho.g
 have yO:¬G' r.g:=h4 _ hg ho.g
 refine⟨G',h1.Cc hf (fun k hk e=>yO (e▸hk)) fun q hq e=>?_,?_,(h2.mono fun k hk=>.inl hk).trans hf (fun b hb=>.inl (.inr hb)),h3⟩
 ·have:=(h1.buf hq).1
  obtain⟨v,hv⟩:=this
  exact absurd ((e▸hv:Row w1 r.g 126 _).typed KH.words) (by decide)
 ·rw[hs]
  exact⟨hf.row KH.row a2,hf.row KH.buf a3,hr,hl,hu⟩
theorem aG{w:World}{G:Nat→Prop}{p:Wp}{F:Fs}{n x:Nat}{r:Rt}{ws:List Nat}(h:Sys w G p F n)(hn:n<1000000)(hok:Ft r F.D.size)(hm:DI w x p r F.D.size ws)(ho:J8 G x r)(B6:r.pos<r.count)
  (he:(read F.D ((r.first+r.pos/r.h:Nat):Int)).1≠0):
  Calls Tryz.prog 81 #[.pointer (some ⟨x,0,none⟩)] w fun e w'=>e=.returned (.int .i64 (read F.D ((r.first+r.pos/r.h:Nat):Int)).1)∧Ru w G p {F with D:=(read F.D ((r.first+r.pos/r.h:Nat):Int)).2} (n+1) x r ws w':=by
 obtain⟨hx,En,Iv⟩:=hm.lt
 have hsz:=hok.sz
 have hk:=hok.k
 have hh:=hok.h
 have hct:=hok.count
 have g7:=hok.first
 have yN:=Np h.fits ((r.first+r.pos/r.h:Nat):Int)
 have yR:=Nat.le_trans (Nat.mul_le_mul_right r.k (Nat.min_le_left r.h (r.count-r.pos/r.h*r.h))) hh.2.1
 have YG:(read F.D ((r.first+r.pos/r.h:Nat):Int)).2.size=F.D.size:=(Fa F.D ((r.first+r.pos/r.h:Nat):Int) 0).2.1
 have uk:Hid (∀W,AR w G p {F with D:=(read F.D ((r.first+r.pos/r.h:Nat):Int)).2} (n+1) W→Ru w G p {F with D:=(read F.D ((r.first+r.pos/r.h:Nat):Int)).2} (n+1) x r ws W):=fun W h1=>h1.blk YG hm ho
 have pF:Hid (∀W1 W Bz,AR w G p {F with D:=(read F.D ((r.first+r.pos/r.h:Nat):Int)).2} (n+1) W1→AL (fun k=>k=r.g) W1 W→Row W r.g 127 (Bz.map vw)→Bz.length=F.D.size→JR Bz→Ru w G p {F with D:=(read F.D ((r.first+r.pos/r.h:Nat):Int)).2} (n+1) x r Bz W):=fun W1 W Bz h1 h2 h3 h4 h5=>h1.Wk YG hm ho h2 h3 h4 h5
 have hjq:r.pos/r.h≤r.pos:=Nat.div_le_self _ _
 have eJ:r.pos/r.h*r.h≤r.count:=Nat.le_trans (Nat.div_mul_le_self _ _) (by omega)
 have HW:Hid (∀W,Calls Tryz.prog 87 #[.agg #[.int .i64 r.k,.int .i64 r.h],.int .i64 (r.pos/r.h:Nat),.int .i64 r.count] W fun e w'=>e=.returned (.int .i64 (min r.h (r.count-r.pos/r.h*r.h)*r.k:Nat))∧Below W.heap.size W w'):=fun W=>NF r.k r.h (r.pos/r.h) r.count W hk.2 hh.2.2 hct.1 eJ
 have nS:Fv ((r.first+r.pos/r.h:Nat):Int):=by
  have hb:r.first+r.pos/r.h≤200000000:=by omega
  generalize r.first+r.pos/r.h=z at hb
  exact Fv.of (by omega) (by omega)
 have hq:Int.tdiv (r.pos:Int) (r.h:Int)=((r.pos/r.h:Nat):Int):=rfl
 have ni:r.first+r.pos/r.h≤200000000:=by clear hq;omega
 have had:(r.first:Int)+((r.pos/r.h:Nat):Int)=((r.first+r.pos/r.h:Nat):Int):=by clear hq;omega
 have PS:Hid (∀W,Below w.heap.size w W→Calls Tryz.prog 98 #[.pointer (some ⟨p.d,0,none⟩),.int .i64 (r.first+r.pos/r.h:Nat)] W fun e w'=>∃v,e=.returned (.tuple #[v,.int .i64 (read F.D ((r.first+r.pos/r.h:Nat):Int)).1])∧((read F.D ((r.first+r.pos/r.h:Nat):Int)).1≠0→v=.slice none 0 0)∧
   ((read F.D ((r.first+r.pos/r.h:Nat):Int)).1=0→∃A c,v=.slice A F.D.size c∧F.D.size≤c∧Reads .u64 w' w'.heap.size A F.D.size (F.D.now ((r.first+r.pos/r.h:Nat):Int)))∧AR w G p {F with D:=(read F.D ((r.first+r.pos/r.h:Nat):Int)).2} (n+1) w'):=fun W hb=>
  (SE (h.below hb) hn _ nS).mono fun e w' ⟨v,h1,h2,h3,h4⟩=>⟨v,h1,h2,h3,h4.behind hb⟩
 have wU:Hid (∀W,AR w G p {F with D:=(read F.D ((r.first+r.pos/r.h:Nat):Int)).2} (n+1) W→Row W x 140 (Tx p r)∧Row W r.b 126 [.slice (some ⟨r.g,0,none⟩) F.D.size F.D.size]∧Row W r.g 127 (ws.map vw)):=fun W h1=>⟨h1.row hm.row ho.x,h1.row hm.buf ho.b,h1.row hm.words ho.g⟩
 have iY:Hid (ws.length=F.D.size∧JR ws):=⟨hm.len,hm.u64⟩
 have r0:=hm.row.below (AG (Below.refl _ _)) hx
 have r1:=(h.below (AG (Below.refl _ _))).row
 have c3:w.cell? ⟨x,7,none⟩=some (.int .i64 r.pos):=hm.row.cell 7
 have c1:w.cell? ⟨x,1,none⟩=some (.int .i64 r.h):=hm.row.cell 1
 have d2:w.drew.cell? ⟨x,3,none⟩=some (.int .i64 r.first):=r0.cell 3
 have d5:w.drew.cell? ⟨x,2,none⟩=some (.pointer (some ⟨p.w,0,none⟩)):=r0.cell 2
 have d6:w.drew.cell? ⟨p.w,0,none⟩=some (.pointer (some ⟨p.d,0,none⟩)):=r1.cell 0
 have DQ:¬((r.h:Int)=0):=by omega
 have LG:Hid (Below w.heap.size w w.drew):=AG (Below.refl _ _)
 clear r0 r1 hm ho hok h YG hx En Iv
 generalize({F with D:=(read F.D ((r.first+r.pos/r.h:Nat):Int)).2}:Fs)=F1 at*
 generalize(read F.D ((r.first+r.pos/r.h:Nat):Int)).1=er at*
 generalize min r.h (r.count-r.pos/r.h*r.h)*r.k=m at*
 obtain⟨k,E5,first,blocks,count,pos,b,g⟩:=r
 unfold Tx at*
 simp only at*
 generalize pos/E5=j at*
 generalize first+j=ad at*
 generalize F.D.now (ad:Int)=bl at*
 generalize F.D.size=size at*
 generalize Ru w G p F1 (n+1) x ⟨k,E5,first,blocks,count,pos,b,g⟩=FK at*
 have g9:(er !=0)=true:=by simpa using he
 clear pF wU iY HW
 go_enter Tryz.func81,Tryz.ntmps81
 go_wp2
 go_region
 go_wp2_with fail
 refine(PS.out _ LG.out).mono ?_;rintro e w4 ⟨v,rfl,hv,_,h4⟩
 have H4:=Lib.hid (uk.out w4 h4)
 clear h4 uk PS hv
 go_wp2
 go_ret
 exact⟨rfl,H4.out⟩
theorem Xo{w:World}{G:Nat→Prop}{p:Wp}{F:Fs}{n x:Nat}{r:Rt}{ws:List Nat}(h:Sys w G p F n)(hn:n<1000000)(hok:Ft r F.D.size)(hm:DI w x p r F.D.size ws)(ho:J8 G x r)(B6:r.pos<r.count)
  (he:(read F.D ((r.first+r.pos/r.h:Nat):Int)).1=0) (PF:okW (F.D.now ((r.first+r.pos/r.h:Nat):Int)) (r.first+r.pos/r.h)=true) (htg:LU (F.D.now ((r.first+r.pos/r.h:Nat):Int))=r.k) (hnm:Ce (F.D.now ((r.first+r.pos/r.h:Nat):Int))-1=min r.h (r.count-r.pos/r.h*r.h)*r.k):
  Calls Tryz.prog 81 #[.pointer (some ⟨x,0,none⟩)] w fun e w'=>e=.returned (.int .i64 0)∧Ru w G p {F with D:=(read F.D ((r.first+r.pos/r.h:Nat):Int)).2} (n+1) x r (splice ws 0 ((F.D.now ((r.first+r.pos/r.h:Nat):Int)).take (min r.h (r.count-r.pos/r.h*r.h)*r.k))) w':=by
 obtain⟨hx,En,Iv⟩:=hm.lt
 have hsz:=hok.sz
 have hk:=hok.k
 have hh:=hok.h
 have hct:=hok.count
 have g7:=hok.first
 have yN:=Np h.fits ((r.first+r.pos/r.h:Nat):Int)
 have yR:=Nat.le_trans (Nat.mul_le_mul_right r.k (Nat.min_le_left r.h (r.count-r.pos/r.h*r.h))) hh.2.1
 have YG:(read F.D ((r.first+r.pos/r.h:Nat):Int)).2.size=F.D.size:=(Fa F.D ((r.first+r.pos/r.h:Nat):Int) 0).2.1
 have uk:Hid (∀W,AR w G p {F with D:=(read F.D ((r.first+r.pos/r.h:Nat):Int)).2} (n+1) W→Ru w G p {F with D:=(read F.D ((r.first+r.pos/r.h:Nat):Int)).2} (n+1) x r ws W):=fun W h1=>h1.blk YG hm ho
 have pF:Hid (∀W1 W Bz,AR w G p {F with D:=(read F.D ((r.first+r.pos/r.h:Nat):Int)).2} (n+1) W1→AL (fun k=>k=r.g) W1 W→Row W r.g 127 (Bz.map vw)→Bz.length=F.D.size→JR Bz→Ru w G p {F with D:=(read F.D ((r.first+r.pos/r.h:Nat):Int)).2} (n+1) x r Bz W):=fun W1 W Bz h1 h2 h3 h4 h5=>h1.Wk YG hm ho h2 h3 h4 h5
 have hjq:r.pos/r.h≤r.pos:=Nat.div_le_self _ _
 have eJ:r.pos/r.h*r.h≤r.count:=Nat.le_trans (Nat.div_mul_le_self _ _) (by omega)
 have HW:Hid (∀W,Calls Tryz.prog 87 #[.agg #[.int .i64 r.k,.int .i64 r.h],.int .i64 (r.pos/r.h:Nat),.int .i64 r.count] W fun e w'=>e=.returned (.int .i64 (min r.h (r.count-r.pos/r.h*r.h)*r.k:Nat))∧Below W.heap.size W w'):=fun W=>NF r.k r.h (r.pos/r.h) r.count W hk.2 hh.2.2 hct.1 eJ
 have nS:Fv ((r.first+r.pos/r.h:Nat):Int):=by
  have hb:r.first+r.pos/r.h≤200000000:=by omega
  generalize r.first+r.pos/r.h=z at hb
  exact Fv.of (by omega) (by omega)
 have hq:Int.tdiv (r.pos:Int) (r.h:Int)=((r.pos/r.h:Nat):Int):=rfl
 have ni:r.first+r.pos/r.h≤200000000:=by clear hq;omega
 have had:(r.first:Int)+((r.pos/r.h:Nat):Int)=((r.first+r.pos/r.h:Nat):Int):=by clear hq;omega
 have PS:Hid (∀W,Below w.heap.size w W→Calls Tryz.prog 98 #[.pointer (some ⟨p.d,0,none⟩),.int .i64 (r.first+r.pos/r.h:Nat)] W fun e w'=>∃v,e=.returned (.tuple #[v,.int .i64 (read F.D ((r.first+r.pos/r.h:Nat):Int)).1])∧((read F.D ((r.first+r.pos/r.h:Nat):Int)).1≠0→v=.slice none 0 0)∧
   ((read F.D ((r.first+r.pos/r.h:Nat):Int)).1=0→∃A c,v=.slice A F.D.size c∧F.D.size≤c∧Reads .u64 w' w'.heap.size A F.D.size (F.D.now ((r.first+r.pos/r.h:Nat):Int)))∧AR w G p {F with D:=(read F.D ((r.first+r.pos/r.h:Nat):Int)).2} (n+1) w'):=fun W hb=>
  (SE (h.below hb) hn _ nS).mono fun e w' ⟨v,h1,h2,h3,h4⟩=>⟨v,h1,h2,h3,h4.behind hb⟩
 have wU:Hid (∀W,AR w G p {F with D:=(read F.D ((r.first+r.pos/r.h:Nat):Int)).2} (n+1) W→Row W x 140 (Tx p r)∧Row W r.b 126 [.slice (some ⟨r.g,0,none⟩) F.D.size F.D.size]∧Row W r.g 127 (ws.map vw)):=fun W h1=>⟨h1.row hm.row ho.x,h1.row hm.buf ho.b,h1.row hm.words ho.g⟩
 have iY:Hid (ws.length=F.D.size∧JR ws):=⟨hm.len,hm.u64⟩
 have r0:=hm.row.below (AG (Below.refl _ _)) hx
 have r1:=(h.below (AG (Below.refl _ _))).row
 have c3:w.cell? ⟨x,7,none⟩=some (.int .i64 r.pos):=hm.row.cell 7
 have c1:w.cell? ⟨x,1,none⟩=some (.int .i64 r.h):=hm.row.cell 1
 have d2:w.drew.cell? ⟨x,3,none⟩=some (.int .i64 r.first):=r0.cell 3
 have d5:w.drew.cell? ⟨x,2,none⟩=some (.pointer (some ⟨p.w,0,none⟩)):=r0.cell 2
 have d6:w.drew.cell? ⟨p.w,0,none⟩=some (.pointer (some ⟨p.d,0,none⟩)):=r1.cell 0
 have DQ:¬((r.h:Int)=0):=by omega
 have LG:Hid (Below w.heap.size w w.drew):=AG (Below.refl _ _)
 clear r0 r1 hm ho hok h YG hx En Iv
 generalize({F with D:=(read F.D ((r.first+r.pos/r.h:Nat):Int)).2}:Fs)=F1 at*
 generalize(read F.D ((r.first+r.pos/r.h:Nat):Int)).1=er at*
 generalize min r.h (r.count-r.pos/r.h*r.h)*r.k=m at*
 obtain⟨k,E5,first,blocks,count,pos,b,g⟩:=r
 unfold Tx at*
 simp only at*
 generalize pos/E5=j at*
 generalize first+j=ad at*
 generalize F.D.now (ad:Int)=bl at*
 generalize F.D.size=size at*
 generalize Ru w G p F1 (n+1) x ⟨k,E5,first,blocks,count,pos,b,g⟩=FK at*
 subst he
 have hwk:IntKind.u64.wrap (k:Int)=(k:Int):=IntWalk.u64_in _ ⟨by omega,by omega⟩
 go_enter Tryz.func81,Tryz.ntmps81
 go_wp2
 go_region
 go_wp2_with fail
 refine(PS.out _ LG.out).mono ?_;rintro e w4 ⟨v,rfl,_,hv,h4⟩
 obtain⟨A,c,rfl,hsc,bL⟩:=hv (by trivial)
 have zH:∀y∈bl,y<18446744073709551616:=fun y hy=>NN (bL.2.1 y hy)
 have HBU:=Lib.hid zH
 have Rp:Hid (LU bl<18446744073709551616):=fG zH
 have HG:=Lib.hid (iF A size c ad bl w4 bL (Nat.le_refl _) hsc hsz.1 hsz.2 (by omega))
 have H4:=Lib.hid h4
 obtain⟨n0,n1,n2⟩:=wU.out w4 h4
 have N0:=Lib.hid n0
 have N1:=Lib.hid n1
 have N2:=Lib.hid n2
 have uj:Hid (∀W,Below w4.heap.size w4 W→FK ws W):=fun W hb=>uk.out W (h4.ahead hb)
 clear h4 uk PS hv bL n0 n1 n2 wU zH
 generalize LU bl=tg at*
 go_wp2_with fail
 refine HG.out.mono ?_
 rintro e w5 (⟨U0,_⟩|⟨_,v5,rfl,Ap,hb⟩)
 ·exact absurd (U0.symm.trans PF) (by decide)
 have AG5:=Rp.out
 have BQ:=Lib.hid hb
 have M0:=Lib.hid (N0.out.below hb N0.out.lt)
 have M1:=Lib.hid (N1.out.below hb N1.out.lt)
 have M2:=Lib.hid (N2.out.below hb N2.out.lt)
 clear hb N0 N1 N2 HG
 have k0:∀d os,(Sort.grow (redrawn w5 d) os).cell? ⟨x,0,none⟩=some (.int .i64 k):=cell_regrown (M0.out.cell 0)
 have k1:∀d os,(Sort.grow (redrawn w5 d) os).cell? ⟨x,1,none⟩=some (.int .i64 E5):=cell_regrown (M0.out.cell 1)
 have k6:∀d os,(Sort.grow (redrawn w5 d) os).cell? ⟨x,6,none⟩=some (.int .i64 count):=cell_regrown (M0.out.cell 6)
 have Q1:Hid (∀d os,Calls Tryz.prog 87 #[.agg #[.int .i64 k,.int .i64 E5],.int .i64 j,.int .i64 count] (Sort.grow (redrawn w5 d) os) fun e Cq=>e=.returned (.int .i64 (m:Nat))∧∃p:Regrown,Cq=Sort.grow (redrawn w5 p.d) p.os):=fun d os=>Calls.regrown_of (HW.out _)
 obtain rfl:tg=k:=htg
 have hne:((tg:Int) !=(tg:Int))=false:=by simp
 rw[hnm]at Ap
 have LL:Hid ((bl.take m).length=m):=by
  unfold Hid;rw[List.length_take];omega
 obtain⟨A5,c5,rfl,sB,hl5⟩:=Xv (k:=.u64) (l:=bl.take m) Ap (fun x hx=>LS (HBU.out x (List.mem_of_mem_take hx)))
 have g9:((m:Int) !=(m:Int))=false:=by simp
 have uY:=Lib.hid sB
 clear Ap hl5 sB
 go_wp2
 refine wp_region_quiet_below (by kernel_rfl) (by kernel_rfl) ?_
 repeat(any_goals(first|go_big_quiet_step (with_reducible exact Q1.out _ _)|quiet_step (with_reducible exact Q1.out _ _)))
 refine wpQuiet_nil ?_
 intro w6 ZA
 obtain⟨⟨dq,osq⟩,ZA⟩:=ZA
 have P9:=below_regrown w5 dq osq
 rw[←ZA]at P9
 clear ZA Q1 k0 k1 k6
 have DV:=Lib.hid ((uY.out.CL P9))
 have O0:=Lib.hid (M0.out.below P9 M0.out.lt)
 have O1:=Lib.hid (M1.out.below P9 M1.out.lt)
 have O2:=Lib.hid (M2.out.below P9 M2.out.lt)
 have H6:=Lib.hid (H4.out.ahead (BQ.out.trans (P9.mono BQ.out.size)))
 clear uj P9 BQ M0 M1 M2 HW H4 uY
 have e8:w6.cell? ⟨x,8,none⟩=some (.pointer (some ⟨b,0,none⟩)):=O0.out.cell 8
 have e0:w6.cell? ⟨b,0,none⟩=some (.slice (some ⟨g,0,none⟩) size size):=O1.out.cell 0
 go_wp2_with (with_reducible refine BN 83 ?_)
 unfold Hid
 refine BY rfl _ _ 123 123 rfl 127 Tryz.underlying123 jk (by decide) (some ⟨g,0,none⟩) A5 size size m c5 rfl rfl g 0 _ 127 O2.out ((bl.take m).map vw) (by rw[List.length_map,LL.out,Nat.mul_one];exact(Nat.min_eq_left (by omega)).symm) (fun h0=>⟨rfl,DV.out.source (by have:=LL.out;rw[List.length_map]at h0;omega)⟩) (by rw[List.length_map,List.length_map,LL.out,iY.out.1];omega) (fun v hv=>by obtain⟨x,_,rfl⟩:=List.mem_map.1 hv;rfl) ?_
 intro w7 p5 T2
 have jB:Hid (Row w7 g 127 ((splice ws 0 (bl.take m)).map vw)):=by
  have h:=p5.out
  rw[SJ]at h;exact h
 have H7:=Lib.hid (pF.out w6 w7 _ H6.out T2.out jB.out (by rw[SL _ _ (by rw[LL.out,iY.out.1];omega)];exact iY.out.1) (SI iY.out.2 fun y hy=>HBU.out y (List.mem_of_mem_take hy)))
 clear pF H6 p5 T2 jB DV O0 O1 O2
 go_wp2
 go_ret
 exact⟨rfl,H7.out⟩
def GU(w:World)(G:Nat→Prop)(p:Wp)(F:Fs)(n x:Nat)(r:Rt)(ws:List Nat)(w':World):Prop:=
 ∃G',Sys w' G' p F n∧DI w' x p r F.D.size ws∧AL (fun k=>G k∨k=r.g∨k=x) w w'∧∀k,G' k→G k∨w.heap.size≤k
def Ci(r:Rt)(ws:List Nat):AB:=F4 r.k ((ws.drop (r.pos%r.h*r.k)).take r.k)
def Mk(k:Nat)(l:List Nat)(i c:Nat):Value:=.int .i64 (if c<i∧c<k then IntKind.i64.wrap ((l.getD c 0:Nat):Int)else 0)
def Bn(k:Nat)(l:List Nat)(i:Nat):List Value:=[Mk k l i 0,Mk k l i 1,Mk k l i 2,Mk k l i 3,Mk k l i 4]
theorem J5(k:Nat)(l:List Nat):Bn k l 0=[.int .i64 0,.int .i64 0,.int .i64 0,.int .i64 0,.int .i64 0]:=by simp[Bn,Mk]
theorem Ly{k:Nat}(hk:k≤5)(l:List Nat){i:Nat}(hi:i<k):(Bn k l i).set i (.int .i64 (IntKind.i64.wrap ((l.getD i 0:Nat):Int)))=Bn k l (i+1):=by
 match i,hi with
 |0,hi=>simp[Bn,Mk,hi]
 |1,hi=>simp[Bn,Mk,hi]
 |2,hi=>simp[Bn,Mk,hi]
 |3,hi=>simp[Bn,Mk,hi]
 |4,hi=>simp[Bn,Mk,hi]
 |i+5,hi=>omega
theorem Lz{k:Nat}(_hk:k≤5)(l:List Nat):Bn k l k=[.int .i64 (F4 k l).a,.int .i64 (F4 k l).b,.int .i64 (F4 k l).c,.int .i64 (F4 k l).d,.int .i64 (F4 k l).e]:=by
 simp[Bn,Mk,F4]
theorem QH{w:World}{G:Nat→Prop}{p:Wp}{F:Fs}{n x:Nat}{r:Rt}{ws:List Nat}(h:Sys w G p F n)(hok:Ft r F.D.size)(hm:DI w x p r F.D.size ws)(ho:J8 G x r)(B6:r.pos<r.count)
  (D8:r.pos%r.h≠0):
  Calls Tryz.prog 52 #[.pointer (some ⟨x,0,none⟩)] w fun e w'=>e=.returned (.tuple #[.agg #[.int .i64 (Ci r ws).a,.int .i64 (Ci r ws).b,.int .i64 (Ci r ws).c,.int .i64 (Ci r ws).d,.int .i64 (Ci r ws).e],.bool true,.int .i64 0])∧GU w G p F n x {r with pos:=r.pos+1} ws w':=by
 obtain⟨hx,En,Iv⟩:=hm.lt
 obtain⟨a1,a2,a3⟩:=hm.apart
 have hsz:=hok.sz
 have hk:=hok.k
 have hh:=hok.h
 have hct:=hok.count
 have hmod:=Nat.mod_lt r.pos hh.1
 have vo:r.pos%r.h*r.k+r.k≤F.D.size-2:=by
  have h1:(r.pos%r.h+1)*r.k≤r.h*r.k:=Nat.mul_le_mul_right _ hmod
  rw[Nat.add_mul,Nat.one_mul]at h1
  exact Nat.le_trans h1 hh.2.1
 obtain⟨w0,DX⟩:∃w0,w0=w.alloc (.cells #[.int .i64 0,.int .i64 0,.int .i64 0,.int .i64 0,.int .i64 0] 63):=⟨_,rfl⟩
 have hb0:Below w.heap.size w w0:=by rw[DX];exact(Below.refl w.heap.size w).alloc (Nat.le_refl _) _
 have DP:Row w0 w.heap.size 63 [.int .i64 0,.int .i64 0,.int .i64 0,.int .i64 0,.int .i64 0]:=by rw[DX];exact heap_alloc_new _ _
 have hm0:=hm.below hb0
 have D9:=CO hm0.row hm0.buf
 rw[decide_eq_true (show 0<F.D.size by omega)]at D9
 have DJ:Hid (Calls Tryz.prog 79 #[.pointer (some ⟨x,0,none⟩)] (w.alloc (.cells #[.int .i64 0,.int .i64 0,.int .i64 0,.int .i64 0,.int .i64 0] 63)) fun e w'=>e=.returned (.bool (!true))∧w'=w.alloc (.cells #[.int .i64 0,.int .i64 0,.int .i64 0,.int .i64 0,.int .i64 0] 63)):=by rw[DX]at D9;exact D9
 have o6:=Lib.hid DP
 have L4:Hid (¬G w.heap.size):=fun hg=>by have:=h.lt hg;omega
 have Aw:Hid (∀W4 W9,Ru w0 G p F n x r ws W4→AL (fun k=>k=x∨k=w.heap.size) W4 W9→Row W9 x 140 (Tx p {r with pos:=r.pos+1})→GU w G p F n x {r with pos:=r.pos+1} ws W9):=by
  intro W4 W9 ⟨G4,k1,k2,k3,k4⟩ hf hr
  have xh:¬G4 x:=fun hg=>(k4 x hg).elim ho.x fun h=>by have:=hb0.size;omega
  have iC:¬G4 w.heap.size:=fun hg=>(k4 _ hg).elim L4.out fun h=>by have:=DP.lt;omega
  have qK:Row W4 w.heap.size 63 [.int .i64 0,.int .i64 0,.int .i64 0,.int .i64 0,.int .i64 0]:=k3.row DP (by
   rintro(hg|hg)
   ·exact L4.out hg
   ·omega)
  refine⟨G4,k1.Pa hf ?_,⟨hr,hf.row k2.buf ?_,hf.row k2.words ?_,k2.len,k2.u64⟩,?_,fun k hk=>(k4 k hk).imp_right fun h=>Nat.le_trans hb0.size h⟩
  ·rintro k (rfl|rfl)
   ·exact⟨xh,fun v hv=>absurd (hv.typed k2.row) (by decide)⟩
   ·exact⟨iC,fun v hv=>absurd (hv.typed qK) (by decide)⟩
  ·rintro(e|e)
   ·exact a1 e.symm
   ·exact absurd e (Nat.ne_of_lt En)
  ·rintro(e|e)
   ·exact a2 e.symm
   ·exact absurd e (Nat.ne_of_lt Iv)
  ·refine(((AL.AJ hb0 _).trans k3 fun b hb=>hb.elim (fun h=>.inl (.inl h)) fun h=>.inl (.inr (.inl h)))).trans hf ?_
   rintro b (rfl|rfl)
   ·exact .inl (.inr (.inr rfl))
   ·exact .inr (Nat.le_refl _)
 have H0:Hid (Row (w.alloc (.cells #[.int .i64 0,.int .i64 0,.int .i64 0,.int .i64 0,.int .i64 0] 63)) x 140 (Tx p r)):=by rw[←DX];exact hm0.row
 have vn:Int.tmod (r.pos:Int) (r.h:Int)=((r.pos%r.h:Nat):Int):=rfl
 have DQ:¬((r.h:Int)=0):=by omega
 have g3:((r.pos:Int)==(r.count:Int))=false:=by simp;omega
 have hp1:(r.pos:Int)+1=((r.pos+1:Nat):Int):=by omega
 have c7:(w.alloc (.cells #[.int .i64 0,.int .i64 0,.int .i64 0,.int .i64 0,.int .i64 0] 63)).cell? ⟨x,7,none⟩=some (.int .i64 r.pos):=H0.out.cell 7
 have c6:(w.alloc (.cells #[.int .i64 0,.int .i64 0,.int .i64 0,.int .i64 0,.int .i64 0] 63)).cell? ⟨x,6,none⟩=some (.int .i64 r.count):=H0.out.cell 6
 have d7:(w.alloc (.cells #[.int .i64 0,.int .i64 0,.int .i64 0,.int .i64 0,.int .i64 0] 63)).drew.cell? ⟨x,7,none⟩=some (.int .i64 r.pos):=H0.out.cell 7
 have d1:(w.alloc (.cells #[.int .i64 0,.int .i64 0,.int .i64 0,.int .i64 0,.int .i64 0] 63)).drew.cell? ⟨x,1,none⟩=some (.int .i64 r.h):=H0.out.cell 1
 have GW:Hid (Below w.heap.size w (w.alloc (.cells #[.int .i64 0,.int .i64 0,.int .i64 0,.int .i64 0,.int .i64 0] 63)).drew.drew):=by rw[←DX];exact AG (AG hb0)
 have g5:(((r.pos%r.h:Nat):Int)==0)=false:=by simp;omega
 have Vn:Hid (Ru w0 G p F n x r ws (w.alloc (.cells #[.int .i64 0,.int .i64 0,.int .i64 0,.int .i64 0,.int .i64 0] 63)).drew.drew):=(AR.AJ (h.below hb0) (by rw[←DX];exact AG (AG (Below.refl _ _)))).blk rfl hm0 ⟨ho.x,ho.b,ho.g⟩
 clear D9 h hm hm0 hok ho DP hb0
 go_enter Tryz.func52,Tryz.ntmps52
 go_wp2_with fail
 refine DJ.out.mono ?_;rintro e w1 ⟨rfl,rfl⟩
 go_wp2
 go_region
 go_wp2
 go_region
 generalize(w.alloc (.cells #[.int .i64 0,.int .i64 0,.int .i64 0,.int .i64 0,.int .i64 0] 63)).drew.drew=W4 at*
 have Ts:Hid (∀W9,AL (fun k=>k=x∨k=w.heap.size) W4 W9→Row W9 x 140 (Tx p {r with pos:=r.pos+1})→GU w G p F n x {r with pos:=r.pos+1} ws W9):=fun W9 h1 h2=>Aw.out W4 W9 Vn.out h1 h2
 obtain⟨G4,k1,k2,k3,k4⟩:=Vn.out
 have X4:=Lib.hid k2.row
 have Y4:=Lib.hid k2.buf
 have Z4:=Lib.hid k2.words
 have HLU:Hid (ws.length=F.D.size∧JR ws):=⟨k2.len.trans rfl,k2.u64⟩
 have R4:Hid (Row W4 w.heap.size 63 [.int .i64 0,.int .i64 0,.int .i64 0,.int .i64 0,.int .i64 0]):=k3.row o6.out (by
  rintro(hg|hg)
  ·exact L4.out hg
  ·omega)
 clear Vn k1 k2 k3 k4 Aw L4 G4
 have ug:Hid (∀W,Calls Tryz.prog 68 #[.agg #[.int .i64 r.k,.int .i64 r.h],.slice (some ⟨r.g,0,none⟩) F.D.size F.D.size,.int .i64 r.pos] W fun e w'=>e=.returned (.slice (some ⟨r.g,r.pos%r.h*r.k,none⟩) r.k (F.D.size-r.pos%r.h*r.k))∧Below W.heap.size W w'):=fun W=>RC r.k r.h r.pos r.g F.D.size W hk.1 hk.2 hh.1 hh.2.2 (by omega) (by omega) hsz.2
 have dw:Hid (Bn r.k ((ws.drop (r.pos%r.h*r.k)).take r.k) r.k=[.int .i64 (Ci r ws).a,.int .i64 (Ci r ws).b,.int .i64 (Ci r ws).c,.int .i64 (Ci r ws).d,.int .i64 (Ci r ws).e]):=Lz hk.2 _
 have MO:Hid (Bn r.k ((ws.drop (r.pos%r.h*r.k)).take r.k) 0=[.int .i64 0,.int .i64 0,.int .i64 0,.int .i64 0,.int .i64 0]):=J5 _ _
 have dn:Hid (∀i j,j<5→∃v,(Bn r.k ((ws.drop (r.pos%r.h*r.k)).take r.k) i)[j]?=some v):=fun i j hj=>⟨_,List.getElem?_eq_getElem (show j<(Bn r.k ((ws.drop (r.pos%r.h*r.k)).take r.k) i).length from hj)⟩
 have uJ:Hid (x≠w.heap.size):=by unfold Hid;omega
 have Oe:Hid (∀i,i<r.k→(Bn r.k ((ws.drop (r.pos%r.h*r.k)).take r.k) i).set i (.int .i64 (IntKind.i64.wrap (((ws.getD (r.pos%r.h*r.k+i) 0:Nat):Nat):Int)))=Bn r.k ((ws.drop (r.pos%r.h*r.k)).take r.k) (i+1)):=by
  intro i hi
  rw[←Ly hk.2 _ hi]
  congr 4
  rw[List.getD_eq_getElem?_getD,List.getD_eq_getElem?_getD,List.getElem?_take,if_pos hi,List.getElem?_drop]
 generalize PK:GU w G p F n x {r with pos:=r.pos+1} ws=FK at*
 replace PK:=Lib.hid PK
 generalize nk:Ci r ws=TU at*
 replace nk:=Lib.hid nk
 generalize Bn r.k ((ws.drop (r.pos%r.h*r.k)).take r.k)=CC at*
 clear hmod DX DJ H0 c7 c6 d7 d1 GW vn DQ g3
 obtain⟨TA,TB,TC,TD,TE⟩:=TU
 obtain⟨k,E5,first,blocks,count,pos,b,g⟩:=r
 unfold Tx at*
 simp only at*
 generalize pos%E5*k=off at*
 generalize F.D.size=size at*
 generalize nt:pos+1=Jr at*
 replace nt:=Lib.hid nt
 have DD:=(Below.refl W4.heap.size W4).alloc (Nat.le_refl _) (.cells #[.int .i64 0,.int .i64 0,.int .i64 0,.int .i64 0,.int .i64 0] 63)
 have GS:Row (W4.alloc (.cells #[.int .i64 0,.int .i64 0,.int .i64 0,.int .i64 0,.int .i64 0] 63)) W4.heap.size 63 [.int .i64 0,.int .i64 0,.int .i64 0,.int .i64 0,.int .i64 0]:=heap_alloc_new _ _
 have dO:=Lib.hid (X4.out.below DD X4.out.lt)
 have uI:=Lib.hid (Y4.out.below DD Y4.out.lt)
 have k0:∀d os,(Sort.grow (redrawn (W4.alloc (.cells #[.int .i64 0,.int .i64 0,.int .i64 0,.int .i64 0,.int .i64 0] 63)) d) os).cell? ⟨x,0,none⟩=some (.int .i64 k):=cell_regrown (dO.out.cell 0)
 have k1:∀d os,(Sort.grow (redrawn (W4.alloc (.cells #[.int .i64 0,.int .i64 0,.int .i64 0,.int .i64 0,.int .i64 0] 63)) d) os).cell? ⟨x,1,none⟩=some (.int .i64 E5):=cell_regrown (dO.out.cell 1)
 have k7:∀d os,(Sort.grow (redrawn (W4.alloc (.cells #[.int .i64 0,.int .i64 0,.int .i64 0,.int .i64 0,.int .i64 0] 63)) d) os).cell? ⟨x,7,none⟩=some (.int .i64 pos):=cell_regrown (dO.out.cell 7)
 have k8:∀d os,(Sort.grow (redrawn (W4.alloc (.cells #[.int .i64 0,.int .i64 0,.int .i64 0,.int .i64 0,.int .i64 0] 63)) d) os).cell? ⟨x,8,none⟩=some (.pointer (some ⟨b,0,none⟩)):=cell_regrown (dO.out.cell 8)
 have kb:∀d os,(Sort.grow (redrawn (W4.alloc (.cells #[.int .i64 0,.int .i64 0,.int .i64 0,.int .i64 0,.int .i64 0] 63)) d) os).cell? ⟨b,0,none⟩=some (.slice (some ⟨g,0,none⟩) size size):=cell_regrown (uI.out.cell 0)
 have Q4:Hid (∀d os,Calls Tryz.prog 68 #[.agg #[.int .i64 k,.int .i64 E5],.slice (some ⟨g,0,none⟩) size size,.int .i64 pos] (Sort.grow (redrawn (W4.alloc (.cells #[.int .i64 0,.int .i64 0,.int .i64 0,.int .i64 0,.int .i64 0] 63)) d) os) fun e Cq=>e=.returned (.slice (some ⟨g,off,none⟩) k (size-off))∧∃p:Regrown,Cq=Sort.grow (redrawn (W4.alloc (.cells #[.int .i64 0,.int .i64 0,.int .i64 0,.int .i64 0,.int .i64 0] 63)) p.d) p.os):=fun d os=>Calls.regrown_of (ug.out _)
 have BQ:=Lib.hid DD
 have DV:=Lib.hid GS
 clear DD GS ug dO uI
 go_wp2
 refine wp_region_quiet_below (by kernel_rfl) (by kernel_rfl) ?_
 repeat(any_goals(first|go_big_quiet_step (with_reducible first|exact Q4.out _ _)|quiet_step (with_reducible first|exact Q4.out _ _)))
 refine wpQuiet_nil ?_
 intro w7 WI
 obtain⟨⟨dq,osq⟩,WI⟩:=WI
 have Kt:=below_regrown (W4.alloc (.cells #[.int .i64 0,.int .i64 0,.int .i64 0,.int .i64 0,.int .i64 0] 63)) dq osq
 rw[←WI]at Kt
 clear WI
 have XA:=Lib.hid (BQ.out.trans (Kt.mono BQ.out.size))
 have jB:Hid (Row w7 W4.heap.size 63 (CC 0)):=by unfold Hid;rw[MO.out];exact DV.out.below Kt DV.out.lt
 clear Kt Q4 k0 k1 k7 k8 kb DV BQ MO
 have rL:=X4.out.lt
 have hgt:=Z4.out.lt
 have EL:=R4.out.lt
 have Rs:Hid (x<W4.heap.size∧g<W4.heap.size∧w.heap.size<W4.heap.size):=⟨rL,hgt,EL⟩
 clear rL hgt EL
 generalize hT:W4.heap.size=T at*
 go_wp2
 go_loopw [61] (fun iv wr=>∃i:Nat,i≤k∧iv=.int .i64 (i:Int)∧Hid (Below T W4 wr)∧Hid (Row wr T 63 (CC i))) (fun iv _=>k-(intOf iv).toNat)
 case atStart=>exact⟨0,Nat.zero_le _,rfl,XA.out,jB.out⟩
 case round=>
  obtain⟨i,hi,rfl,HF,Dq⟩:=hrel
  by_cases hlt:i<k
  ·have Km:=Oe.out i hlt
   have Ow:off+i<ws.length:=by have:=HLU.out.1;omega
   have cw:wr.cell? ⟨g,off+i,none⟩=some (.int .u64 (ws.getD (off+i) 0:Nat)):=by
    rw[(Z4.out.below HF.out Rs.out.2.1).cell (off+i)];exact Ij Ow
   have qB:i<5:=by omega
   have ct:∃v,wr.cell? ⟨T,i,none⟩=some v:=by
    rw[Dq.out.cell i]
    exact dn.out i i qB
   obtain⟨v0,ct⟩:=ct
   have fg:=Dq.out.free i
   have ES:Hid (Row (wr.setCell ⟨T,i,none⟩ (.int .i64 (IntKind.i64.wrap ((ws.getD (off+i) 0:Nat):Int)))) T 63 (CC (i+1))):=by
    have h1:=Dq.out.set i (.int .i64 (IntKind.i64.wrap ((ws.getD (off+i) 0:Nat):Int)))
    rw[Km]at h1;exact h1
   have KM:Hid (Below T W4 (wr.setCell ⟨T,i,none⟩ (.int .i64 (IntKind.i64.wrap ((ws.getD (off+i) 0:Nat):Int))))):=HF.out.setCell (Nat.le_refl _) _
   have PG:(0:Int)≤(i:Int):=by omega
   have nQ:(i:Int)<(k:Int):=by omega
   have WT:(i:Int)<5:=by omega
   clear Km Ow hi
   generalize ws.getD (off+i) 0=u at*
   obtain⟨z,hz⟩:∃z,IntKind.i64.wrap (u:Int)=z:=⟨_,rfl⟩
   rw[hz]at ES KM
   go_wp2
   go_roundw
   case rel=>exact⟨i+1,by omega,by go_num,KM.out,ES.out⟩
   case measure=>simp[intOf];omega
  ·obtain rfl:i=k:=by omega
   have Mx:=X4.out.below HF.out Rs.out.1
   have c7:wr.cell? ⟨x,7,none⟩=some (.int .i64 pos):=Mx.cell 7
   have f7:=Mx.free 7
   have PC:=Mx.set 7 (.int .i64 Jr)
   have Uy:Row (wr.setCell ⟨x,7,none⟩ (.int .i64 Jr)) T 63 (CC i):=Dq.out.Cc (p:=⟨x,7,none⟩) (fun e=>by have:=Rs.out.1;simp only at e;omega) _
   rw[dw.out]at Uy
   have bJ:Row (wr.setCell ⟨x,7,none⟩ (.int .i64 Jr)) w.heap.size 63 [.int .i64 0,.int .i64 0,.int .i64 0,.int .i64 0,.int .i64 0]:=(R4.out.below HF.out Rs.out.2.2).Cc (p:=⟨x,7,none⟩) (fun e=>uJ.out e.symm) (.int .i64 Jr)
   have kT:AL (fun k=>k=x∨k=w.heap.size) W4 (wr.setCell ⟨x,7,none⟩ (.int .i64 Jr)):=(AL.AJ (by rw[hT];exact HF.out) (fun k=>k=x∨k=w.heap.size)).set (p:=⟨x,7,none⟩) (.inl (.inl rfl)) _
   have KA:=Lib.hid Uy
   have EH:=Lib.hid bJ
   have Ve:=Lib.hid PC
   have ZK:=Lib.hid kT
   clear Mx PC Uy bJ kT Dq HF
   generalize xq:wr.setCell ⟨x,7,none⟩ (.int .i64 Jr)=w8 at KA EH Ve ZK
   have t0:w8.cell? ⟨T,0,none⟩=some (.int .i64 TA):=KA.out.cell 0
   have t1:w8.cell? ⟨T,1,none⟩=some (.int .i64 TB):=KA.out.cell 1
   have t2:w8.cell? ⟨T,2,none⟩=some (.int .i64 TC):=KA.out.cell 2
   have t3:w8.cell? ⟨T,3,none⟩=some (.int .i64 TD):=KA.out.cell 3
   have t4:w8.cell? ⟨T,4,none⟩=some (.int .i64 TE):=KA.out.cell 4
   have z0:w8.cell? ⟨w.heap.size,0,none⟩=some (.int .i64 0):=EH.out.cell 0
   have z1:w8.cell? ⟨w.heap.size,1,none⟩=some (.int .i64 0):=EH.out.cell 1
   have z2:w8.cell? ⟨w.heap.size,2,none⟩=some (.int .i64 0):=EH.out.cell 2
   have z3:w8.cell? ⟨w.heap.size,3,none⟩=some (.int .i64 0):=EH.out.cell 3
   have z4:w8.cell? ⟨w.heap.size,4,none⟩=some (.int .i64 0):=EH.out.cell 4
   have f0:=EH.out.free 0
   have f1:=EH.out.free 1
   have f2:=EH.out.free 2
   have f3:=EH.out.free 3
   have f4:=EH.out.free 4
   have Ed:=Lib.hid (mA EH.out (.int .i64 TA) (.int .i64 TB) (.int .i64 TC) (.int .i64 TD) (.int .i64 TE))
   have LQ:=Lib.hid (ZK.out.trans (cS w8 w.heap.size (.int .i64 TA) (.int .i64 TB) (.int .i64 TC) (.int .i64 TD) (.int .i64 TE)) fun b hb=>.inl (.inr hb))
   have uK:=Lib.hid ((cS w8 w.heap.size (.int .i64 TA) (.int .i64 TB) (.int .i64 TC) (.int .i64 TD) (.int .i64 TE)).row Ve.out uJ.out)
   clear KA EH Ve ZK
   subst xq
   go_wp2
   have H9:=Lib.hid (Ts.out _ LQ.out uK.out)
   clear Ts LQ uK
   have q0:=Ed.out.cell 0
   have q1:=Ed.out.cell 1
   have q2:=Ed.out.cell 2
   have q3:=Ed.out.cell 3
   have q4:=Ed.out.cell 4
   refine bodyPost_ret (v:=.tuple #[.agg #[.int .i64 TA,.int .i64 TB,.int .i64 TC,.int .i64 TD,.int .i64 TE],.bool true,.int .i64 0]) ?_ rfl ⟨by rw[nk.out],by obtain rfl:=nt.out;rw[PK.out];exact H9.out⟩
   generalize(((((((wr.setCell ⟨x,7,none⟩ (.int .i64 Jr)).setCell ⟨w.heap.size,0,none⟩ (.int .i64 TA)).setCell ⟨w.heap.size,1,none⟩ (.int .i64 TB)).setCell ⟨w.heap.size,2,none⟩ (.int .i64 TC)).setCell ⟨w.heap.size,3,none⟩ (.int .i64 TD)).setCell ⟨w.heap.size,4,none⟩ (.int .i64 TE)))=w9 at*
   simp only[List.getElem?_cons_zero,List.getElem?_cons_succ]at q0 q1 q2 q3 q4
   simp[results,Tryz.results52,go_sem,q0,q1,q2,q3,q4]
theorem VI{w:World}{G:Nat→Prop}{p:Wp}{F:Fs}{n x:Nat}{r:Rt}{ws:List Nat}(h:Sys w G p F n)(hok:Ft r F.D.size)(hm:DI w x p r F.D.size ws)(ho:J8 G x r)(B6:r.pos<r.count)
  {F1:Fs} {n1:Nat} {Hg:List Nat} (EK:F1.D.size=F.D.size) (D8:r.pos%r.h=0) (hB:∀W,Below w.heap.size w W→Calls Tryz.prog 81 #[.pointer (some ⟨x,0,none⟩)] W fun e w'=>e=.returned (.int .i64 0)∧Ru W G p F1 n1 x r Hg w'):
  Calls Tryz.prog 52 #[.pointer (some ⟨x,0,none⟩)] w fun e w'=>e=.returned (.tuple #[.agg #[.int .i64 (Ci r Hg).a,.int .i64 (Ci r Hg).b,.int .i64 (Ci r Hg).c,.int .i64 (Ci r Hg).d,.int .i64 (Ci r Hg).e],.bool true,.int .i64 0])∧GU w G p F1 n1 x {r with pos:=r.pos+1} Hg w':=by
 obtain⟨hx,En,Iv⟩:=hm.lt
 obtain⟨a1,a2,a3⟩:=hm.apart
 have hsz:=hok.sz
 have hk:=hok.k
 have hh:=hok.h
 have hct:=hok.count
 have hmod:=Nat.mod_lt r.pos hh.1
 have vo:r.pos%r.h*r.k+r.k≤F.D.size-2:=by
  have h1:(r.pos%r.h+1)*r.k≤r.h*r.k:=Nat.mul_le_mul_right _ hmod
  rw[Nat.add_mul,Nat.one_mul]at h1
  exact Nat.le_trans h1 hh.2.1
 obtain⟨w0,DX⟩:∃w0,w0=w.alloc (.cells #[.int .i64 0,.int .i64 0,.int .i64 0,.int .i64 0,.int .i64 0] 63):=⟨_,rfl⟩
 have hb0:Below w.heap.size w w0:=by rw[DX];exact(Below.refl w.heap.size w).alloc (Nat.le_refl _) _
 have DP:Row w0 w.heap.size 63 [.int .i64 0,.int .i64 0,.int .i64 0,.int .i64 0,.int .i64 0]:=by rw[DX];exact heap_alloc_new _ _
 have hm0:=hm.below hb0
 have D9:=CO hm0.row hm0.buf
 rw[decide_eq_true (show 0<F.D.size by omega)]at D9
 have DJ:Hid (Calls Tryz.prog 79 #[.pointer (some ⟨x,0,none⟩)] (w.alloc (.cells #[.int .i64 0,.int .i64 0,.int .i64 0,.int .i64 0,.int .i64 0] 63)) fun e w'=>e=.returned (.bool (!true))∧w'=w.alloc (.cells #[.int .i64 0,.int .i64 0,.int .i64 0,.int .i64 0,.int .i64 0] 63)):=by rw[DX]at D9;exact D9
 have o6:=Lib.hid DP
 have L4:Hid (¬G w.heap.size):=fun hg=>by have:=h.lt hg;omega
 have Aw:Hid (∀W4 W9,Ru w0 G p F1 n1 x r Hg W4→AL (fun k=>k=x∨k=w.heap.size) W4 W9→Row W9 x 140 (Tx p {r with pos:=r.pos+1})→GU w G p F1 n1 x {r with pos:=r.pos+1} Hg W9):=by
  intro W4 W9 ⟨G4,k1,k2,k3,k4⟩ hf hr
  have xh:¬G4 x:=fun hg=>(k4 x hg).elim ho.x fun h=>by have:=hb0.size;omega
  have iC:¬G4 w.heap.size:=fun hg=>(k4 _ hg).elim L4.out fun h=>by have:=DP.lt;omega
  have qK:Row W4 w.heap.size 63 [.int .i64 0,.int .i64 0,.int .i64 0,.int .i64 0,.int .i64 0]:=k3.row DP (by
   rintro(hg|hg)
   ·exact L4.out hg
   ·omega)
  refine⟨G4,k1.Pa hf ?_,⟨hr,hf.row k2.buf ?_,hf.row k2.words ?_,k2.len,k2.u64⟩,?_,fun k hk=>(k4 k hk).imp_right fun h=>Nat.le_trans hb0.size h⟩
  ·rintro k (rfl|rfl)
   ·exact⟨xh,fun v hv=>absurd (hv.typed k2.row) (by decide)⟩
   ·exact⟨iC,fun v hv=>absurd (hv.typed qK) (by decide)⟩
  ·rintro(e|e)
   ·exact a1 e.symm
   ·exact absurd e (Nat.ne_of_lt En)
  ·rintro(e|e)
   ·exact a2 e.symm
   ·exact absurd e (Nat.ne_of_lt Iv)
  ·refine(((AL.AJ hb0 _).trans k3 fun b hb=>hb.elim (fun h=>.inl (.inl h)) fun h=>.inl (.inr (.inl h)))).trans hf ?_
   rintro b (rfl|rfl)
   ·exact .inl (.inr (.inr rfl))
   ·exact .inr (Nat.le_refl _)
 have H0:Hid (Row (w.alloc (.cells #[.int .i64 0,.int .i64 0,.int .i64 0,.int .i64 0,.int .i64 0] 63)) x 140 (Tx p r)):=by rw[←DX];exact hm0.row
 have vn:Int.tmod (r.pos:Int) (r.h:Int)=((r.pos%r.h:Nat):Int):=rfl
 have DQ:¬((r.h:Int)=0):=by omega
 have g3:((r.pos:Int)==(r.count:Int))=false:=by simp;omega
 have hp1:(r.pos:Int)+1=((r.pos+1:Nat):Int):=by omega
 have c7:(w.alloc (.cells #[.int .i64 0,.int .i64 0,.int .i64 0,.int .i64 0,.int .i64 0] 63)).cell? ⟨x,7,none⟩=some (.int .i64 r.pos):=H0.out.cell 7
 have c6:(w.alloc (.cells #[.int .i64 0,.int .i64 0,.int .i64 0,.int .i64 0,.int .i64 0] 63)).cell? ⟨x,6,none⟩=some (.int .i64 r.count):=H0.out.cell 6
 have d7:(w.alloc (.cells #[.int .i64 0,.int .i64 0,.int .i64 0,.int .i64 0,.int .i64 0] 63)).drew.cell? ⟨x,7,none⟩=some (.int .i64 r.pos):=H0.out.cell 7
 have d1:(w.alloc (.cells #[.int .i64 0,.int .i64 0,.int .i64 0,.int .i64 0,.int .i64 0] 63)).drew.cell? ⟨x,1,none⟩=some (.int .i64 r.h):=H0.out.cell 1
 have GW:Hid (Below w.heap.size w (w.alloc (.cells #[.int .i64 0,.int .i64 0,.int .i64 0,.int .i64 0,.int .i64 0] 63)).drew.drew):=by rw[←DX];exact AG (AG hb0)
 have g5:(((r.pos%r.h:Nat):Int)==0)=true:=by simp;omega
 have vJ:Hid (Calls Tryz.prog 81 #[.pointer (some ⟨x,0,none⟩)] (w.alloc (.cells #[.int .i64 0,.int .i64 0,.int .i64 0,.int .i64 0,.int .i64 0] 63)).drew.drew fun e w'=>e=.returned (.int .i64 0)∧Ru w0 G p F1 n1 x r Hg w'):=(hB _ GW.out).mono fun e w' ⟨h1,G',k1,k2,k3,k4⟩=>
  have Mj:Below w0.heap.size w0 (w.alloc (.cells #[.int .i64 0,.int .i64 0,.int .i64 0,.int .i64 0,.int .i64 0] 63)).drew.drew:=by rw[←DX];exact AG (AG (Below.refl _ _))
  ⟨h1,G',k1,k2,(AL.AJ Mj _).trans k3 fun b hb=>.inl hb,fun k hk=>(k4 k hk).imp_right fun h=>Nat.le_trans Mj.size h⟩
 clear D9 h hm hm0 hok ho DP hb0 hB
 go_enter Tryz.func52,Tryz.ntmps52
 go_wp2_with fail
 refine DJ.out.mono ?_;rintro e w1 ⟨rfl,rfl⟩
 go_wp2
 go_region
 go_wp2
 go_region
 go_wp2_with fail
 refine vJ.out.mono ?_;rintro e W4 ⟨rfl,cE⟩
 have Vn:=Lib.hid cE
 clear cE vJ
 have Ts:Hid (∀W9,AL (fun k=>k=x∨k=w.heap.size) W4 W9→Row W9 x 140 (Tx p {r with pos:=r.pos+1})→GU w G p F1 n1 x {r with pos:=r.pos+1} Hg W9):=fun W9 h1 h2=>Aw.out W4 W9 Vn.out h1 h2
 obtain⟨G4,k1,k2,k3,k4⟩:=Vn.out
 have X4:=Lib.hid k2.row
 have Y4:=Lib.hid k2.buf
 have Z4:=Lib.hid k2.words
 have HLU:Hid (Hg.length=F.D.size∧JR Hg):=⟨k2.len.trans EK,k2.u64⟩
 have R4:Hid (Row W4 w.heap.size 63 [.int .i64 0,.int .i64 0,.int .i64 0,.int .i64 0,.int .i64 0]):=k3.row o6.out (by
  rintro(hg|hg)
  ·exact L4.out hg
  ·omega)
 clear Vn k1 k2 k3 k4 Aw L4 G4
 have ug:Hid (∀W,Calls Tryz.prog 68 #[.agg #[.int .i64 r.k,.int .i64 r.h],.slice (some ⟨r.g,0,none⟩) F.D.size F.D.size,.int .i64 r.pos] W fun e w'=>e=.returned (.slice (some ⟨r.g,r.pos%r.h*r.k,none⟩) r.k (F.D.size-r.pos%r.h*r.k))∧Below W.heap.size W w'):=fun W=>RC r.k r.h r.pos r.g F.D.size W hk.1 hk.2 hh.1 hh.2.2 (by omega) (by omega) hsz.2
 have dw:Hid (Bn r.k ((Hg.drop (r.pos%r.h*r.k)).take r.k) r.k=[.int .i64 (Ci r Hg).a,.int .i64 (Ci r Hg).b,.int .i64 (Ci r Hg).c,.int .i64 (Ci r Hg).d,.int .i64 (Ci r Hg).e]):=Lz hk.2 _
 have MO:Hid (Bn r.k ((Hg.drop (r.pos%r.h*r.k)).take r.k) 0=[.int .i64 0,.int .i64 0,.int .i64 0,.int .i64 0,.int .i64 0]):=J5 _ _
 have dn:Hid (∀i j,j<5→∃v,(Bn r.k ((Hg.drop (r.pos%r.h*r.k)).take r.k) i)[j]?=some v):=fun i j hj=>⟨_,List.getElem?_eq_getElem (show j<(Bn r.k ((Hg.drop (r.pos%r.h*r.k)).take r.k) i).length from hj)⟩
 have uJ:Hid (x≠w.heap.size):=by unfold Hid;omega
 have Oe:Hid (∀i,i<r.k→(Bn r.k ((Hg.drop (r.pos%r.h*r.k)).take r.k) i).set i (.int .i64 (IntKind.i64.wrap (((Hg.getD (r.pos%r.h*r.k+i) 0:Nat):Nat):Int)))=Bn r.k ((Hg.drop (r.pos%r.h*r.k)).take r.k) (i+1)):=by
  intro i hi
  rw[←Ly hk.2 _ hi]
  congr 4
  rw[List.getD_eq_getElem?_getD,List.getD_eq_getElem?_getD,List.getElem?_take,if_pos hi,List.getElem?_drop]
 generalize PK:GU w G p F1 n1 x {r with pos:=r.pos+1} Hg=FK at*
 replace PK:=Lib.hid PK
 generalize nk:Ci r Hg=TU at*
 replace nk:=Lib.hid nk
 generalize Bn r.k ((Hg.drop (r.pos%r.h*r.k)).take r.k)=CC at*
 clear hmod DX DJ H0 c7 c6 d7 d1 GW vn DQ g3
 obtain⟨TA,TB,TC,TD,TE⟩:=TU
 obtain⟨k,E5,first,blocks,count,pos,b,g⟩:=r
 unfold Tx at*
 simp only at*
 generalize pos%E5*k=off at*
 rw[EK]at*
 generalize F.D.size=size at*
 generalize nt:pos+1=Jr at*
 replace nt:=Lib.hid nt
 have DD:=(Below.refl W4.heap.size W4).alloc (Nat.le_refl _) (.cells #[.int .i64 0,.int .i64 0,.int .i64 0,.int .i64 0,.int .i64 0] 63)
 have GS:Row (W4.alloc (.cells #[.int .i64 0,.int .i64 0,.int .i64 0,.int .i64 0,.int .i64 0] 63)) W4.heap.size 63 [.int .i64 0,.int .i64 0,.int .i64 0,.int .i64 0,.int .i64 0]:=heap_alloc_new _ _
 have dO:=Lib.hid (X4.out.below DD X4.out.lt)
 have uI:=Lib.hid (Y4.out.below DD Y4.out.lt)
 have k0:∀d os,(Sort.grow (redrawn (W4.alloc (.cells #[.int .i64 0,.int .i64 0,.int .i64 0,.int .i64 0,.int .i64 0] 63)) d) os).cell? ⟨x,0,none⟩=some (.int .i64 k):=cell_regrown (dO.out.cell 0)
 have k1:∀d os,(Sort.grow (redrawn (W4.alloc (.cells #[.int .i64 0,.int .i64 0,.int .i64 0,.int .i64 0,.int .i64 0] 63)) d) os).cell? ⟨x,1,none⟩=some (.int .i64 E5):=cell_regrown (dO.out.cell 1)
 have k7:∀d os,(Sort.grow (redrawn (W4.alloc (.cells #[.int .i64 0,.int .i64 0,.int .i64 0,.int .i64 0,.int .i64 0] 63)) d) os).cell? ⟨x,7,none⟩=some (.int .i64 pos):=cell_regrown (dO.out.cell 7)
 have k8:∀d os,(Sort.grow (redrawn (W4.alloc (.cells #[.int .i64 0,.int .i64 0,.int .i64 0,.int .i64 0,.int .i64 0] 63)) d) os).cell? ⟨x,8,none⟩=some (.pointer (some ⟨b,0,none⟩)):=cell_regrown (dO.out.cell 8)
 have kb:∀d os,(Sort.grow (redrawn (W4.alloc (.cells #[.int .i64 0,.int .i64 0,.int .i64 0,.int .i64 0,.int .i64 0] 63)) d) os).cell? ⟨b,0,none⟩=some (.slice (some ⟨g,0,none⟩) size size):=cell_regrown (uI.out.cell 0)
 have Q4:Hid (∀d os,Calls Tryz.prog 68 #[.agg #[.int .i64 k,.int .i64 E5],.slice (some ⟨g,0,none⟩) size size,.int .i64 pos] (Sort.grow (redrawn (W4.alloc (.cells #[.int .i64 0,.int .i64 0,.int .i64 0,.int .i64 0,.int .i64 0] 63)) d) os) fun e Cq=>e=.returned (.slice (some ⟨g,off,none⟩) k (size-off))∧∃p:Regrown,Cq=Sort.grow (redrawn (W4.alloc (.cells #[.int .i64 0,.int .i64 0,.int .i64 0,.int .i64 0,.int .i64 0] 63)) p.d) p.os):=fun d os=>Calls.regrown_of (ug.out _)
 have BQ:=Lib.hid DD
 have DV:=Lib.hid GS
 clear DD GS ug dO uI
 go_wp2
 refine wp_region_quiet_below (by kernel_rfl) (by kernel_rfl) ?_
 repeat(any_goals(first|go_big_quiet_step (with_reducible first|exact Q4.out _ _)|quiet_step (with_reducible first|exact Q4.out _ _)))
 refine wpQuiet_nil ?_
 intro w7 WI
 obtain⟨⟨dq,osq⟩,WI⟩:=WI
 have Kt:=below_regrown (W4.alloc (.cells #[.int .i64 0,.int .i64 0,.int .i64 0,.int .i64 0,.int .i64 0] 63)) dq osq
 rw[←WI]at Kt
 clear WI
 have XA:=Lib.hid (BQ.out.trans (Kt.mono BQ.out.size))
 have jB:Hid (Row w7 W4.heap.size 63 (CC 0)):=by unfold Hid;rw[MO.out];exact DV.out.below Kt DV.out.lt
 clear Kt Q4 k0 k1 k7 k8 kb DV BQ MO
 have rL:=X4.out.lt
 have hgt:=Z4.out.lt
 have EL:=R4.out.lt
 have Rs:Hid (x<W4.heap.size∧g<W4.heap.size∧w.heap.size<W4.heap.size):=⟨rL,hgt,EL⟩
 clear rL hgt EL
 generalize hT:W4.heap.size=T at*
 go_wp2
 go_loopw [61] (fun iv wr=>∃i:Nat,i≤k∧iv=.int .i64 (i:Int)∧Hid (Below T W4 wr)∧Hid (Row wr T 63 (CC i))) (fun iv _=>k-(intOf iv).toNat)
 case atStart=>exact⟨0,Nat.zero_le _,rfl,XA.out,jB.out⟩
 case round=>
  obtain⟨i,hi,rfl,HF,Dq⟩:=hrel
  by_cases hlt:i<k
  ·have Km:=Oe.out i hlt
   have Ow:off+i<Hg.length:=by have:=HLU.out.1;omega
   have cw:wr.cell? ⟨g,off+i,none⟩=some (.int .u64 (Hg.getD (off+i) 0:Nat)):=by
    rw[(Z4.out.below HF.out Rs.out.2.1).cell (off+i)];exact Ij Ow
   have qB:i<5:=by omega
   have ct:∃v,wr.cell? ⟨T,i,none⟩=some v:=by
    rw[Dq.out.cell i]
    exact dn.out i i qB
   obtain⟨v0,ct⟩:=ct
   have fg:=Dq.out.free i
   have ES:Hid (Row (wr.setCell ⟨T,i,none⟩ (.int .i64 (IntKind.i64.wrap ((Hg.getD (off+i) 0:Nat):Int)))) T 63 (CC (i+1))):=by
    have h1:=Dq.out.set i (.int .i64 (IntKind.i64.wrap ((Hg.getD (off+i) 0:Nat):Int)))
    rw[Km]at h1;exact h1
   have KM:Hid (Below T W4 (wr.setCell ⟨T,i,none⟩ (.int .i64 (IntKind.i64.wrap ((Hg.getD (off+i) 0:Nat):Int))))):=HF.out.setCell (Nat.le_refl _) _
   have PG:(0:Int)≤(i:Int):=by omega
   have nQ:(i:Int)<(k:Int):=by omega
   have WT:(i:Int)<5:=by omega
   clear Km Ow hi
   generalize Hg.getD (off+i) 0=u at*
   obtain⟨z,hz⟩:∃z,IntKind.i64.wrap (u:Int)=z:=⟨_,rfl⟩
   rw[hz]at ES KM
   go_wp2
   go_roundw
   case rel=>exact⟨i+1,by omega,by go_num,KM.out,ES.out⟩
   case measure=>simp[intOf];omega
  ·obtain rfl:i=k:=by omega
   have Mx:=X4.out.below HF.out Rs.out.1
   have c7:wr.cell? ⟨x,7,none⟩=some (.int .i64 pos):=Mx.cell 7
   have f7:=Mx.free 7
   have PC:=Mx.set 7 (.int .i64 Jr)
   have Uy:Row (wr.setCell ⟨x,7,none⟩ (.int .i64 Jr)) T 63 (CC i):=Dq.out.Cc (p:=⟨x,7,none⟩) (fun e=>by have:=Rs.out.1;simp only at e;omega) _
   rw[dw.out]at Uy
   have bJ:Row (wr.setCell ⟨x,7,none⟩ (.int .i64 Jr)) w.heap.size 63 [.int .i64 0,.int .i64 0,.int .i64 0,.int .i64 0,.int .i64 0]:=(R4.out.below HF.out Rs.out.2.2).Cc (p:=⟨x,7,none⟩) (fun e=>uJ.out e.symm) (.int .i64 Jr)
   have kT:AL (fun k=>k=x∨k=w.heap.size) W4 (wr.setCell ⟨x,7,none⟩ (.int .i64 Jr)):=(AL.AJ (by rw[hT];exact HF.out) (fun k=>k=x∨k=w.heap.size)).set (p:=⟨x,7,none⟩) (.inl (.inl rfl)) _
   have KA:=Lib.hid Uy
   have EH:=Lib.hid bJ
   have Ve:=Lib.hid PC
   have ZK:=Lib.hid kT
   clear Mx PC Uy bJ kT Dq HF
   generalize xq:wr.setCell ⟨x,7,none⟩ (.int .i64 Jr)=w8 at KA EH Ve ZK
   have t0:w8.cell? ⟨T,0,none⟩=some (.int .i64 TA):=KA.out.cell 0
   have t1:w8.cell? ⟨T,1,none⟩=some (.int .i64 TB):=KA.out.cell 1
   have t2:w8.cell? ⟨T,2,none⟩=some (.int .i64 TC):=KA.out.cell 2
   have t3:w8.cell? ⟨T,3,none⟩=some (.int .i64 TD):=KA.out.cell 3
   have t4:w8.cell? ⟨T,4,none⟩=some (.int .i64 TE):=KA.out.cell 4
   have z0:w8.cell? ⟨w.heap.size,0,none⟩=some (.int .i64 0):=EH.out.cell 0
   have z1:w8.cell? ⟨w.heap.size,1,none⟩=some (.int .i64 0):=EH.out.cell 1
   have z2:w8.cell? ⟨w.heap.size,2,none⟩=some (.int .i64 0):=EH.out.cell 2
   have z3:w8.cell? ⟨w.heap.size,3,none⟩=some (.int .i64 0):=EH.out.cell 3
   have z4:w8.cell? ⟨w.heap.size,4,none⟩=some (.int .i64 0):=EH.out.cell 4
   have f0:=EH.out.free 0
   have f1:=EH.out.free 1
   have f2:=EH.out.free 2
   have f3:=EH.out.free 3
   have f4:=EH.out.free 4
   have Ed:=Lib.hid (mA EH.out (.int .i64 TA) (.int .i64 TB) (.int .i64 TC) (.int .i64 TD) (.int .i64 TE))
   have LQ:=Lib.hid (ZK.out.trans (cS w8 w.heap.size (.int .i64 TA) (.int .i64 TB) (.int .i64 TC) (.int .i64 TD) (.int .i64 TE)) fun b hb=>.inl (.inr hb))
   have uK:=Lib.hid ((cS w8 w.heap.size (.int .i64 TA) (.int .i64 TB) (.int .i64 TC) (.int .i64 TD) (.int .i64 TE)).row Ve.out uJ.out)
   clear KA EH Ve ZK
   subst xq
   go_wp2
   have H9:=Lib.hid (Ts.out _ LQ.out uK.out)
   clear Ts LQ uK
   have q0:=Ed.out.cell 0
   have q1:=Ed.out.cell 1
   have q2:=Ed.out.cell 2
   have q3:=Ed.out.cell 3
   have q4:=Ed.out.cell 4
   refine bodyPost_ret (v:=.tuple #[.agg #[.int .i64 TA,.int .i64 TB,.int .i64 TC,.int .i64 TD,.int .i64 TE],.bool true,.int .i64 0]) ?_ rfl ⟨by rw[nk.out],by obtain rfl:=nt.out;rw[PK.out];exact H9.out⟩
   generalize(((((((wr.setCell ⟨x,7,none⟩ (.int .i64 Jr)).setCell ⟨w.heap.size,0,none⟩ (.int .i64 TA)).setCell ⟨w.heap.size,1,none⟩ (.int .i64 TB)).setCell ⟨w.heap.size,2,none⟩ (.int .i64 TC)).setCell ⟨w.heap.size,3,none⟩ (.int .i64 TD)).setCell ⟨w.heap.size,4,none⟩ (.int .i64 TE)))=w9 at*
   simp only[List.getElem?_cons_zero,List.getElem?_cons_succ]at q0 q1 q2 q3 q4
   simp[results,Tryz.results52,go_sem,q0,q1,q2,q3,q4]
def iW(w:World)(G:Nat→Prop)(x:Nat)(p:Wp)(F:Fs)(n:Nat)(r:Rt)(w':World):Prop:=
 ∃G',Sys w' G' p {F with A:=release F.A r.b F.D.size} n∧Qe w' x p r∧AL (fun k=>G k∨k=r.b∨k=r.g) w w'∧∀k,G' k→G k∨w.heap.size≤k
theorem Yg{w:World}{G:Nat→Prop}{p:Wp}{F:Fs}{n x:Nat}{r:Rt}{ws:List Nat}(h:Sys w G p F n)(hok:Ft r F.D.size)(hm:DI w x p r F.D.size ws)(ho:J8 G x r)(hst:wordsAt F.A.st r.b=some F.D.size)(B6:r.pos<r.count)
  {F1:Fs} {n1:Nat} {Hg:List Nat} {er:Int} (he:er≠0) (EK:F1.D.size=F.D.size) (WY:F1.A=F.A) (D8:r.pos%r.h=0) (hB:∀W,Below w.heap.size w W→Calls Tryz.prog 81 #[.pointer (some ⟨x,0,none⟩)] W fun e w'=>e=.returned (.int .i64 er)∧Ru W G p F1 n1 x r Hg w'):
  Calls Tryz.prog 52 #[.pointer (some ⟨x,0,none⟩)] w fun e w'=>e=.returned (.tuple #[.agg #[.int .i64 0,.int .i64 0,.int .i64 0,.int .i64 0,.int .i64 0],.bool false,.int .i64 er])∧iW w G x p F1 n1 r w':=by
 obtain⟨hx,En,Iv⟩:=hm.lt
 obtain⟨a1,a2,a3⟩:=hm.apart
 have hsz:=hok.sz
 have hk:=hok.k
 have hh:=hok.h
 have hct:=hok.count
 obtain⟨w0,DX⟩:∃w0,w0=w.alloc (.cells #[.int .i64 0,.int .i64 0,.int .i64 0,.int .i64 0,.int .i64 0] 63):=⟨_,rfl⟩
 have hb0:Below w.heap.size w w0:=by rw[DX];exact(Below.refl w.heap.size w).alloc (Nat.le_refl _) _
 have DP:Row w0 w.heap.size 63 [.int .i64 0,.int .i64 0,.int .i64 0,.int .i64 0,.int .i64 0]:=by rw[DX];exact heap_alloc_new _ _
 have hm0:=hm.below hb0
 have D9:=CO hm0.row hm0.buf
 rw[decide_eq_true (show 0<F.D.size by omega)]at D9
 have DJ:Hid (Calls Tryz.prog 79 #[.pointer (some ⟨x,0,none⟩)] (w.alloc (.cells #[.int .i64 0,.int .i64 0,.int .i64 0,.int .i64 0,.int .i64 0] 63)) fun e w'=>e=.returned (.bool (!true))∧w'=w.alloc (.cells #[.int .i64 0,.int .i64 0,.int .i64 0,.int .i64 0,.int .i64 0] 63)):=by rw[DX]at D9;exact D9
 have L4:Hid (¬G w.heap.size):=fun hg=>by have:=h.lt hg;omega
 have Y0:Hid (∀W4,Ru w0 G p F1 n1 x r Hg W4→Calls Tryz.prog 51 #[.pointer (some ⟨x,0,none⟩)] W4 fun e w5=>e=.returned (.tuple #[])∧(Row w5 w.heap.size 63 [.int .i64 0,.int .i64 0,.int .i64 0,.int .i64 0,.int .i64 0]∧∀w6,AL (fun k=>k=w.heap.size) w5 w6→iW w G x p F1 n1 r w6)):=by
  intro W4 ⟨G4,k1,k2,k3,k4⟩
  have WN:∀k,k<w.heap.size→¬G k→¬G4 k:=fun k hk hn hg=>(k4 k hg).elim hn fun h=>by have:=hb0.size;omega
  have iC:¬G4 w.heap.size:=fun hg=>(k4 _ hg).elim L4.out fun h=>by have:=DP.lt;omega
  have qK:Row W4 w.heap.size 63 [.int .i64 0,.int .i64 0,.int .i64 0,.int .i64 0,.int .i64 0]:=k3.row DP (by
   rintro(hg|hg)
   ·exact L4.out hg
   ·omega)
  refine(Ng k1 k2 ⟨WN x hx ho.x,WN _ En ho.b,WN _ Iv ho.g⟩ (by rw[WY,EK];exact hst)).mono ?_
  rintro e w5 ⟨rfl,G5,q1,q2,q3,q4⟩
  have hR5:Row w5 w.heap.size 63 [.int .i64 0,.int .i64 0,.int .i64 0,.int .i64 0,.int .i64 0]:=q3.row qK (by
   rintro(hg|hg)
   ·exact iC hg
   ·omega)
  have zQ:¬G5 w.heap.size:=fun hg=>(q4 _ hg).elim iC fun h=>by have:=qK.lt;omega
  refine⟨rfl,hR5,fun w6 hf=>⟨G5,q1.Pa hf ?_,⟨hf.row q2.1 (by omega),hf.row q2.2 (by omega)⟩,?_,?_⟩⟩
  ·rintro k rfl
   exact⟨zQ,fun v hv=>absurd (hv.typed hR5) (by decide)⟩
  ·have f1:AL (fun k=>G k∨k=r.b∨k=r.g) w W4:=(AL.AJ hb0 _).trans k3 fun b hb=>hb.elim (fun h=>.inl (.inl h)) fun h=>.inl (.inr (.inr h))
   have f2:=f1.trans q3 (fun b hb=>by
    rcases hb with hb|hb
    ·exact(k4 b hb).imp (fun h=>.inl h) fun h=>Nat.le_trans hb0.size h
    ·exact .inl (.inr (.inl hb)))
   exact f2.trans hf fun b hb=>.inr (by omega)
  ·intro k hk
   rcases q4 k hk with hg|hg
   ·exact(k4 k hg).imp_right fun h=>Nat.le_trans hb0.size h
   ·exact .inr (by have:=hb0.size;have:=k3.size;omega)
 have H0:Hid (Row (w.alloc (.cells #[.int .i64 0,.int .i64 0,.int .i64 0,.int .i64 0,.int .i64 0] 63)) x 140 (Tx p r)):=by rw[←DX];exact hm0.row
 have vn:Int.tmod (r.pos:Int) (r.h:Int)=((r.pos%r.h:Nat):Int):=rfl
 have DQ:¬((r.h:Int)=0):=by omega
 have g3:((r.pos:Int)==(r.count:Int))=false:=by simp;omega
 have c7:(w.alloc (.cells #[.int .i64 0,.int .i64 0,.int .i64 0,.int .i64 0,.int .i64 0] 63)).cell? ⟨x,7,none⟩=some (.int .i64 r.pos):=H0.out.cell 7
 have c6:(w.alloc (.cells #[.int .i64 0,.int .i64 0,.int .i64 0,.int .i64 0,.int .i64 0] 63)).cell? ⟨x,6,none⟩=some (.int .i64 r.count):=H0.out.cell 6
 have d7:(w.alloc (.cells #[.int .i64 0,.int .i64 0,.int .i64 0,.int .i64 0,.int .i64 0] 63)).drew.cell? ⟨x,7,none⟩=some (.int .i64 r.pos):=H0.out.cell 7
 have d1:(w.alloc (.cells #[.int .i64 0,.int .i64 0,.int .i64 0,.int .i64 0,.int .i64 0] 63)).drew.cell? ⟨x,1,none⟩=some (.int .i64 r.h):=H0.out.cell 1
 have GW:Hid (Below w.heap.size w (w.alloc (.cells #[.int .i64 0,.int .i64 0,.int .i64 0,.int .i64 0,.int .i64 0] 63)).drew.drew):=by rw[←DX];exact AG (AG hb0)
 have g5:(((r.pos%r.h:Nat):Int)==0)=true:=by simp;omega
 have ge:(er !=0)=true:=by simpa using he
 have vJ:Hid (Calls Tryz.prog 81 #[.pointer (some ⟨x,0,none⟩)] (w.alloc (.cells #[.int .i64 0,.int .i64 0,.int .i64 0,.int .i64 0,.int .i64 0] 63)).drew.drew fun e w'=>e=.returned (.int .i64 er)∧Ru w0 G p F1 n1 x r Hg w'):=(hB _ GW.out).mono fun e w' ⟨h1,G',k1,k2,k3,k4⟩=>
  have Mj:Below w0.heap.size w0 (w.alloc (.cells #[.int .i64 0,.int .i64 0,.int .i64 0,.int .i64 0,.int .i64 0] 63)).drew.drew:=by rw[←DX];exact AG (AG (Below.refl _ _))
  ⟨h1,G',k1,k2,(AL.AJ Mj _).trans k3 fun b hb=>.inl hb,fun k hk=>(k4 k hk).imp_right fun h=>Nat.le_trans Mj.size h⟩
 generalize iW w G x p F1 n1 r=FK at*
 generalize Ru w0 G p F1 n1 x r Hg=BK at*
 clear D9 h hm hm0 hok ho DP hb0 hB DX
 go_enter Tryz.func52,Tryz.ntmps52
 go_wp2_with fail
 refine DJ.out.mono ?_;rintro e w1 ⟨rfl,rfl⟩
 go_wp2
 go_region
 go_wp2
 go_region
 go_wp2_with fail
 refine vJ.out.mono ?_;rintro e W4 ⟨rfl,cE⟩
 have Vn:=Lib.hid cE
 clear cE vJ H0 GW c7 c6 d7 d1 L4
 go_wp2_with fail
 refine(Y0.out W4 Vn.out).mono ?_;rintro e w5 ⟨rfl,GS,h6⟩
 have DV:=Lib.hid GS
 have H6:=Lib.hid h6
 clear GS h6 Y0 Vn
 have z0:=DV.out.cell 0
 have z1:=DV.out.cell 1
 have z2:=DV.out.cell 2
 have z3:=DV.out.cell 3
 have z4:=DV.out.cell 4
 have f0:=DV.out.free 0
 have f1:=DV.out.free 1
 have f2:=DV.out.free 2
 have f3:=DV.out.free 3
 have f4:=DV.out.free 4
 simp only[List.getElem?_cons_zero,List.getElem?_cons_succ]at z0 z1 z2 z3 z4
 have Ed:=Lib.hid (mA DV.out (.int .i64 0) (.int .i64 0) (.int .i64 0) (.int .i64 0) (.int .i64 0))
 have LQ:=Lib.hid (cS w5 w.heap.size (.int .i64 0) (.int .i64 0) (.int .i64 0) (.int .i64 0) (.int .i64 0))
 go_wp2
 have H9:=Lib.hid (H6.out _ LQ.out)
 have q0:=Ed.out.cell 0
 have q1:=Ed.out.cell 1
 have q2:=Ed.out.cell 2
 have q3:=Ed.out.cell 3
 have q4:=Ed.out.cell 4
 refine bodyPost_ret (v:=.tuple #[.agg #[.int .i64 0,.int .i64 0,.int .i64 0,.int .i64 0,.int .i64 0],.bool false,.int .i64 er]) ?_ rfl ⟨rfl,H9.out⟩
 simp only[List.getElem?_cons_zero,List.getElem?_cons_succ]at q0 q1 q2 q3 q4
 simp[results,Tryz.results52,go_sem,q0,q1,q2,q3,q4]
theorem Yf{w:World}{p:Wp}{sz x:Nat}{r:Rt}{ws:List Nat}(hok:Ft r sz)(hm:DI w x p r sz ws)(B6:r.pos=r.count):Calls Tryz.prog 52 #[.pointer (some ⟨x,0,none⟩)] w fun e w'=>e=.returned (.tuple #[.agg #[.int .i64 0,.int .i64 0,.int .i64 0,.int .i64 0,.int .i64 0],.bool false,.int .i64 0])∧Below w.heap.size w w':=by
 have hsz:=hok.sz
 have HB:Hid (Below w.heap.size w (w.alloc (.cells #[.int .i64 0,.int .i64 0,.int .i64 0,.int .i64 0,.int .i64 0] 63))):=(Below.refl w.heap.size w).alloc (Nat.le_refl _) _
 have hm0:=hm.below HB.out
 have hc:=CO hm0.row hm0.buf
 rw[decide_eq_true (show 0<sz by omega)]at hc
 have HC:=Lib.hid hc
 have DP:Row (w.alloc (.cells #[.int .i64 0,.int .i64 0,.int .i64 0,.int .i64 0,.int .i64 0] 63)) w.heap.size 63 [.int .i64 0,.int .i64 0,.int .i64 0,.int .i64 0,.int .i64 0]:=heap_alloc_new _ _
 have HR:=Lib.hid DP
 have c7:(w.alloc (.cells #[.int .i64 0,.int .i64 0,.int .i64 0,.int .i64 0,.int .i64 0] 63)).cell? ⟨x,7,none⟩=some (.int .i64 r.pos):=hm0.row.cell 7
 have c6:(w.alloc (.cells #[.int .i64 0,.int .i64 0,.int .i64 0,.int .i64 0,.int .i64 0] 63)).cell? ⟨x,6,none⟩=some (.int .i64 r.count):=hm0.row.cell 6
 have g3:((r.pos:Int)==(r.count:Int))=true:=by simp;omega
 clear DP hc hm hm0 hok B6
 go_enter Tryz.func52,Tryz.ntmps52
 go_wp2_with fail
 refine HC.out.mono ?_;rintro e w1 ⟨rfl,rfl⟩
 go_wp2
 go_region
 go_wp2
 have q0:=HR.out.cell 0
 have q1:=HR.out.cell 1
 have q2:=HR.out.cell 2
 have q3:=HR.out.cell 3
 have q4:=HR.out.cell 4
 refine bodyPost_ret (v:=.tuple #[.agg #[.int .i64 0,.int .i64 0,.int .i64 0,.int .i64 0,.int .i64 0],.bool false,.int .i64 0]) ?_ rfl ⟨rfl,AG HB.out⟩
 simp only[List.getElem?_cons_zero,List.getElem?_cons_succ]at q0 q1 q2 q3 q4
 simp[results,Tryz.results52,go_sem,q0,q1,q2,q3,q4]
section
variable {w : World} {G : Nat → Prop} {p : Wp} {F : Fs} {n x : Nat} {r : Rt} {ws : List Nat}
theorem Ye(h:Sys w G p F n)(hn:n<1000000)(hok:Ft r F.D.size)(hm:DI w x p r F.D.size ws)(ho:J8 G x r)(hst:wordsAt F.A.st r.b=some F.D.size)(B6:r.pos<r.count)(D8:r.pos%r.h=0)(he:(read F.D ((r.first+r.pos/r.h:Nat):Int)).1≠0):
  Calls Tryz.prog 52 #[.pointer (some ⟨x,0,none⟩)] w fun e w'=>e=.returned (.tuple #[.agg #[.int .i64 0,.int .i64 0,.int .i64 0,.int .i64 0,.int .i64 0],.bool false,.int .i64 (read F.D ((r.first+r.pos/r.h:Nat):Int)).1])∧iW w G x p {F with D:=(read F.D ((r.first+r.pos/r.h:Nat):Int)).2} (n+1) r w':=
 Yg h hok hm ho hst B6 (Hg:=ws) he (Fa F.D _ 0).2.1 rfl D8 fun _ hb=>aG (h.below hb) hn hok (hm.below hb) ho B6 he
end
structure uB (D:St) (r:Rt) (l:List AB) (ws:List Nat):Prop where
 stands:BA D r.first r.k r.h l (AA r.h r.count)
 cnt:l.length=r.count
 ok:∀t∈l,BX t∧Af r.k t=true
 buf:r.pos%r.h≠0→ws.take (min r.h (r.count-r.pos/r.h*r.h)*r.k)=FG r.h r.k l (r.pos/r.h)
section
variable {r : Rt} {l : List AB} {ws : List Nat} {sz : Nat}
theorem Re(hk:r.k≤5)(hh:0<r.h)(B6:r.pos<r.count)(hc:l.length=r.count)(hb:ws.take (min r.h (r.count-r.pos/r.h*r.h)*r.k)=FG r.h r.k l (r.pos/r.h)){t:AB}(ht:l[r.pos]?=some t)(hok:BX t)(hf:Af r.k t=true):Ci r ws=t:=by
 have hm:=Nat.mod_lt r.pos hh
 have qH:=Nat.div_add_mod r.pos r.h
 rw[Nat.mul_comm]at qH
 obtain⟨j,hj⟩:∃j,j=r.pos/r.h:=⟨_,rfl⟩
 rw[←hj]at hb qH
 have hq:r.pos%r.h<min r.h (r.count-j*r.h):=by omega
 have vo:r.pos%r.h*r.k+r.k≤min r.h (r.count-j*r.h)*r.k:=by
  have:=Nat.mul_le_mul_right r.k (show r.pos%r.h+1≤min r.h (r.count-j*r.h)by omega)
  rw[Nat.add_mul,Nat.one_mul]at this;exact this
 have e1:(ws.drop (r.pos%r.h*r.k)).take r.k=((ws.take (min r.h (r.count-j*r.h)*r.k)).drop (r.pos%r.h*r.k)).take r.k:=by
  rw[List.drop_take,List.take_take,Nat.min_eq_left (by omega)]
 unfold Ci
 rw[e1,hb]
 unfold FG
 have h2:((l.drop (j*r.h)).take r.h)[r.pos%r.h]?=some t:=by
  rw[List.getElem?_take,if_pos hm,List.getElem?_drop,show j*r.h+r.pos%r.h=r.pos by omega];exact ht
 rw[Ta hk h2]
 exact NO hk hok hf
end
def V9(D:St)(r:Rt):St:=if r.pos%r.h=0 then (read D ((r.first+r.pos/r.h:Nat):Int)).2 else D
structure DM (D D':St) (m:Nat):Prop where
 size:D'.size=D.size
 blocks:D'.blocks=D.blocks
 Al:D'.Al=D.Al+m
 calm:Calm D→Calm D'
 alive:D.down=false∧D.fb=false→D'.down=false∧D'.fb=false
theorem DM.refl(D:St):DM D D 0:=⟨rfl,rfl,by simp,id,id⟩
theorem DM.trans{D D1 D2:St}{m n:Nat}(h:DM D D1 m)(k:DM D1 D2 n):DM D D2 (m+n):=
 ⟨k.size.trans h.size,k.blocks.trans h.blocks,by rw[k.Al,h.Al];omega,fun hc=>k.calm (h.calm hc),fun ha=>k.alive (h.alive ha)⟩
theorem L6{s:St}{r:Bool}(h:(begin s r).1=0):DM s (begin s r).2 1:=by
 unfold begin at h⊢
 split at h
 ·exact absurd h (by omega)
 ·rename_i h1
  split at h
  ·exact absurd h (by omega)
  ·rename_i h2
   split at h
   ·exact absurd h (by omega)
   ·rename_i h3
    dsimp only at h
    split at h
    ·exact absurd h (by omega)
    ·rename_i h4
     rw[if_neg h1,if_neg h2,if_neg h3]
     dsimp only
     rw[if_neg h4]
     exact⟨rfl,rfl,rfl,fun hc=>⟨hc.1,hc.2.1,hc.2.2⟩,fun ha=>ha⟩
theorem Fy{s:St}{i:Int}{l:List Nat}(h:(write s i l).1=0):DM s (write s i l).2 1:=by
 unfold write at h⊢
 dsimp only at h⊢
 by_cases hb:(begin s (right s i&&decide (l.length=s.size))).1=0
 ·rw[if_pos hb]
  have k:=L6 hb
  exact⟨k.size,k.blocks,k.Al,fun hc=>k.calm hc,fun ha=>k.alive ha⟩
 ·rw[if_neg hb]at h;exact absurd h hb
theorem UB{s:St}{i:Int}(h:(read s i).1=0):DM s (read s i).2 1:=L6 h
def D5(D:St)(t:Wt):Prop:=BA D t.first t.k t.h t.l (t.l.length/t.h)
section
variable {D : St} {t : Wt} {tu : AB}
theorem NC(h:t.l=[]):D5 D t:=by
 intro j hj
 rw[h]at hj;simp at hj
theorem Gi(t:Wt)(tu:AB):(t.snoc tu).l.length=t.l.length+1:=by show (t.l++[tu]).length= _;simp
theorem GJ{c h:Nat}(hh:0<h)(h0:(c+1)%h≠0):(c+1)/h=c/h:=by
 have h1:=Nat.div_add_mod (c+1) h
 have h2:=Nat.div_add_mod c h
 have h3:=Nat.mod_lt (c+1) hh
 have h4:=Nat.mod_lt c hh
 have a1:¬(c+1)/h<c/h:=fun hlt=>by
  have:=Nat.mul_le_mul_left h (show (c+1)/h+1≤c/h from hlt)
  rw[Nat.mul_add,Nat.mul_one]at this;omega
 have a2:¬c/h<(c+1)/h:=fun hlt=>by
  have:=Nat.mul_le_mul_left h (show c/h+1≤(c+1)/h from hlt)
  rw[Nat.mul_add,Nat.mul_one]at this;omega
 omega
theorem I3{c h:Nat}(_hh:0<h)(h0:(c+1)%h=0):(c+1)/h=c/h+1:=by
 have:=Nat.succ_div_of_mod_eq_zero (a:=c) (b:=h) h0
 exact this
theorem L8{D:St}{first k h m:Nat}{l l':List AB}(hs:BA D first k h l m)(hm:m*h≤l.length):BA D first k h (l++l') m:=by
 intro j hj
 rw[hs j hj,aK (Nat.le_trans (Nat.mul_le_mul_right h (show j+1≤m from hj)) hm)]
theorem ND(hok:0<t.h)(h:D5 D t)(h0:(t.l.length+1)%t.h≠0):D5 D (t.snoc tu):=by
 unfold D5
 rw[Gi]
 show BA D t.first t.k t.h (t.l++[tu]) ((t.l.length+1)/t.h)
 rw[GJ hok h0]
 exact L8 h (Nat.div_mul_le_self _ _)
theorem L9(hk:0<t.h)(hl:0<t.l.length)(h0:(write D (AV t:Nat) (AU D.size t)).1=0)(hs:BA D t.first t.k t.h t.l (AA t.h t.l.length-1)):BA (write D (AV t:Nat) (AU D.size t)).2 t.first t.k t.h t.l (AA t.h t.l.length):=by
 obtain⟨h1,h2,h3,_⟩:=Le h0
 have eK:=Bj hk hl
 intro j hj
 by_cases hj2:j=AA t.h t.l.length-1
 ·subst hj2
  show (write D (AV t:Nat) (AU D.size t)).2.now ((AV t:Nat):Int)= _
  rw[h1,h3]
  unfold AU
  rw[aL hk hl];rfl
 ·rw[h2 _ (by unfold AV;omega),h3];exact hs j (by omega)
theorem NB(hk:0<t.h)(h:D5 D t)(h0:(t.l.length+1)%t.h=0)(hw:(write D (AV (t.snoc tu):Nat) (AU D.size (t.snoc tu))).1=0):D5 (write D (AV (t.snoc tu):Nat) (AU D.size (t.snoc tu))).2 (t.snoc tu):=by
 have hb:AA t.h (t.snoc tu).l.length=(t.snoc tu).l.length/t.h:=by
  rw[Gi];exact Ec h0
 unfold D5
 have:=L9 (t:=t.snoc tu) (D:=D) hk (by rw[Gi];omega) hw (by
  show BA D t.first t.k t.h (t.l++[tu]) (AA t.h (t.snoc tu).l.length-1)
  rw[hb,Gi,I3 hk h0,Nat.add_sub_cancel]
  exact L8 h (Nat.div_mul_le_self _ _))
 show BA _ t.first t.k t.h (t.snoc tu).l ((t.snoc tu).l.length/t.h)
 rw[←hb];exact this
theorem L5(h:D5 D t)(h0:t.l.length%t.h=0):BA D t.first t.k t.h t.l (AA t.h t.l.length):=by rw[Ec h0];exact h
theorem KP(hk:0<t.h)(h:D5 D t)(h0:t.l.length%t.h≠0)(hw:(write D (AV t:Nat) (AU D.size t)).1=0):BA (write D (AV t:Nat) (AU D.size t)).2 t.first t.k t.h t.l (AA t.h t.l.length):=by
 have hl:0<t.l.length:=by
  rcases Nat.eq_zero_or_pos t.l.length with h1|h1
  ·rw[h1]at h0;simp at h0
  ·exact h1
 refine L9 hk hl hw ?_
 have:AA t.h t.l.length-1=t.l.length/t.h:=by unfold AA;rw[if_pos (by omega),Nat.add_sub_cancel]
 rw[this];exact h
theorem RK(hok:Ca t D.size)(hl:0<t.l.length):t.first≤AV t∧AV t<t.first+t.blocks:=by
 have h1:=Bj hok.h.1 hl
 have h2:=Aq (h:=t.h) hok.h.1 hok.bound.2
 have h3:=hok.blocks.1
 unfold AV;omega
theorem Jw(hok:Ca t D.size)(hl:0<t.l.length)(PI:((t.first+t.blocks:Nat):Int)≤D.blocks):right D (AV t:Nat)=true:=by
 have:=RK hok hl
 unfold right;simp;omega
theorem Nu(hok:Ca t D.size)(hl:0<t.l.length):(AU D.size t).length=D.size:=by
 have hsz:=hok.sz
 have h1:=(JH (l:=t.l) hok.h.1 hl).1
 unfold AU
 refine Ic ?_ (by omega)
 rw[Gr hok.k.2]
 exact Nat.le_trans (Nat.mul_le_mul_right _ h1) hok.h.2.1
end
theorem Dd:∀(l:List (Nat×Nat)) (x n:Nat),(∀q∈l,q.1≠x)→wordsAt (l++[(x,n)]) x=some n
 |[],x,n,_=>by simp[wordsAt]
 |q::l,x,n,h=>by
  have h1:=h q List.mem_cons_self
  have h2:=Dd l x n fun q hq=>h q (List.mem_cons_of_mem _ hq)
  simp[wordsAt,h1,h2]
theorem UK{S S1:Sp}{a m:Nat}(h:S.ok)(ht:G7 S S1 a m):Ay S1 a m=S:=by
 rcases ht with⟨rfl,rfl,rfl⟩|⟨hm,ht,_⟩
 ·rfl
 ·unfold Ay;rw[if_neg (by omega)];exact QE hm h ht
theorem VD(S:Sp)(a:Nat):Ay S a 0=S:=rfl
theorem Zb{S S1:Sp}{a m:Nat}(h:S.ok)(ht:G7 S S1 a m):a+m≤S.first+S.blocks∨(m=0∧a=0):=by
 rcases ht with⟨rfl,rfl,rfl⟩|⟨hm,ht,_⟩
 ·exact .inr ⟨rfl,rfl⟩
 ·exact .inl (Vv hm h ht).1
def IX(F:Fs)(S1:Sp)(b:Nat)(D':St):Fs:=⟨D',Bv F.A b F.D.size,S1⟩
def L2(F:Fs)(S':Sp)(b:Nat)(D':St):Fs:=⟨D',release (Bv F.A b F.D.size) b F.D.size,S'⟩
theorem RJ{F:Fs}{S':Sp}{b:Nat}{D':St}:∀q∈(L2 F S' b D').A.st,q∈F.A.st∨q.1=b:=by
 intro q hq
 have h1:q∈F.A.st++[(b,F.D.size)]:=De _ _ _ hq
 rcases List.mem_append.1 h1 with h2|h2
 ·exact .inl h2
 ·simp only[List.mem_singleton]at h2;subst h2;exact .inr rfl
def tk(t:Wt)(l:List AB)(i:Nat):Wt:={t with l:=l.take i}
theorem JB{t:Wt}{l:List AB}{i:Nat}{tu:AB}(h:l[i]?=some tu):(tk t l i).snoc tu=tk t l (i+1):=by
 unfold tk Wt.snoc
 simp only
 rw[List.take_add_one,h];rfl
theorem NS{t:Wt}{l:List AB}{i:Nat}(h:i≤l.length):(tk t l i).l.length=i:=by unfold tk;simp;omega
def Ob(w:World)(G:Nat→Prop)(p:Wp)(F:Fs)(n x:Nat)(t:Wt)(S1:Sp)(l:List AB)(i:Nat)(wr:World):Prop:=
 ∃G' D',Sys wr G' p (IX F S1 t.b D') (n+i)∧Jf wr x p (tk t l i) F.D.size∧PM G' x (tk t l i)∧AL G w wr∧(∀k,G' k→G k∨w.heap.size≤k)∧DM F.D D' (i/t.h)∧D5 D' (tk t l i)∧∀u∈l.take i,Af t.k u=true
def K9(w:World)(G:Nat→Prop)(p:Wp)(F:Fs)(n:Nat)(t:Wt)(l:List AB)(er:Int)(wr:World):Prop:=
 er≠0∧∃D1 m i ws,DM F.D D1 m∧er=(write D1 i ws).1∧(((t.first+t.blocks:Nat):Int)≤F.D.blocks→right D1 i=true)∧ws.length=D1.size∧AR w G p (L2 F F.S t.b (write D1 i ws).2) (n+l.length+1) wr
def dK(w:World)(G:Nat→Prop)(p:Wp)(F:Fs)(n:Nat)(t:Wt)(l:List AB)(er:Int)(wr:World):Prop:=
 er=1∧(∃u∈l,Af t.k u=false)∧∃D' m,DM F.D D' m∧AR w G p (L2 F F.S t.b D') (n+l.length+1) wr
def M9(w:World)(G:Nat→Prop)(p:Wp)(F:Fs)(n:Nat)(t:Wt)(S1:Sp)(l:List AB)(wr:World):Prop:=
 (∀u∈l,Af t.k u=true)∧∃D',DM F.D D' t.blocks∧BA D' t.first t.k t.h l t.blocks∧AR w G p (L2 F S1 t.b D') (n+l.length+1) wr
structure G8 (w:World) (F:Fs) (n x:Nat) (t:Wt) (S1:Sp) (l:List AB):Prop where
 n:n+l.length+1≤1000000
 V0:F.S.ok
 taken:G7 F.S S1 t.first t.blocks
 blocks:t.blocks=AA t.h l.length
 ok:Ca t F.D.size
 bound:t.bound=l.length
 x:w.heap.size≤x
 b:w.heap.size≤t.b
 g:w.heap.size≤t.g
 st:∀q∈F.A.st,q.1<w.heap.size
section
variable {w wr : World} {G : Nat → Prop} {p : Wp} {F : Fs} {n x : Nat} {t : Wt} {S1 : Sp} {l : List AB} {i : Nat}
theorem G8.tk(hk:G8 w F n x t S1 l){i:Nat}(hi:i≤l.length):Ca (tk t l i) F.D.size:=⟨hk.ok.k,hk.ok.h,hk.ok.sz,⟨hk.ok.bound.1,by rw[NS hi];show i≤t.bound;rw[hk.bound];exact hi⟩,hk.ok.blocks,hk.ok.first⟩
theorem G8.words(hk:G8 w F n x t S1 l)(D':St):wordsAt (IX F S1 t.b D').A.st t.b=some F.D.size:=
 Dd _ _ _ fun q hq e=>by have:=hk.st q hq;have:=hk.b;omega
theorem G8.oI(hk:G8 w F n x t S1 l){D':St}(hs:D'.size=F.D.size)(i:Nat):EA (IX F S1 t.b D') (Go.Proofs.YteldegofbbfaeaaGreat.tk t l i) 0=L2 F F.S t.b D':=by
 have h:=UK hk.V0 hk.taken
 unfold EA IX L2 Go.Proofs.YteldegofbbfaeaaGreat.tk
 simp only[hs,Nat.add_zero,Nat.sub_zero,h]
theorem G8.cX(hk:G8 w F n x t S1 l){D':St}(hs:D'.size=F.D.size)(i:Nat):EA (IX F S1 t.b D') (Go.Proofs.YteldegofbbfaeaaGreat.tk t l i) (AA t.h l.length)=L2 F S1 t.b D':=by
 unfold EA IX L2 Go.Proofs.YteldegofbbfaeaaGreat.tk
 simp only[hs,hk.blocks,Nat.sub_self,VD]
theorem Sz(hk:G8 w F n x t S1 l){D1:St}{m j:Nat}(hD:DM F.D D1 m)(hj:j≤l.length)(PG:0<j)(he:(write D1 (AV (Go.Proofs.YteldegofbbfaeaaGreat.tk t l j):Nat) (AU D1.size (Go.Proofs.YteldegofbbfaeaaGreat.tk t l j))).1≠0)
  (hs:AR w G p (L2 F F.S t.b (write D1 (AV (Go.Proofs.YteldegofbbfaeaaGreat.tk t l j):Nat) (AU D1.size (Go.Proofs.YteldegofbbfaeaaGreat.tk t l j))).2) (n+l.length+1) wr):
  K9 w G p F n t l (write D1 (AV (Go.Proofs.YteldegofbbfaeaaGreat.tk t l j):Nat) (AU D1.size (Go.Proofs.YteldegofbbfaeaaGreat.tk t l j))).1 wr:=by
 have hok:=hk.tk hj
 rw[←hD.size]at hok
 exact⟨he,D1,m,_,_,hD,rfl,fun PI=>Jw hok (by rw[NS hj];exact PG) (by rw[hD.blocks];exact PI),Nu hok (by rw[NS hj];exact PG),hs⟩
theorem gG(hk:G8 w F n x t S1 l)(h:Ob w G p F n x t S1 l i wr)(hi:i<l.length){tu:AB}(htu:l[i]?=some tu){W:World}(hb:Below wr.heap.size wr W):
  Calls Tryz.prog 39 #[.pointer (some ⟨x,0,none⟩),.agg #[.int .i64 tu.a,.int .i64 tu.b,.int .i64 tu.c,.int .i64 tu.d,.int .i64 tu.e]] W fun e w'=>∃er:Int,e=.returned (.int .i64 er)∧
   ((er=1∧(∃u∈l,Af t.k u=false)∧Ob w G p F n x t S1 l i w')∨(er=0∧Ob w G p F n x t S1 l (i+1) w')∨(K9 w G p F n t l er w'∧∃l',Je w' x p {t with l:=l'})):=by
 obtain⟨G',D',h1,⟨ws,h2,zg⟩,h3,h4,h5,h6,h7,h8⟩:=h
 have hok:=hk.tk (show i≤l.length by omega)
 have hlen:=NS (t:=t) (show i≤l.length by omega)
 have s1:=h1.below hb
 have m1:=h2.below hb
 have U7:(IX F S1 t.b D').D.size=F.D.size:=h6.size
 have hn:=hk.n
 rw[←U7]at hok m1
 have hmem:tu∈l:=List.mem_of_getElem? htu
 rcases hf:Af t.k tu with _| _
 ·refine(UE s1 hok m1 tu hf).mono ?_
  rintro e w' ⟨rfl,hb'⟩
  have m2:=m1.below hb'
  rw[U7]at m2
  refine⟨1,rfl,.inl ⟨rfl,⟨tu,hmem,hf⟩,G',D',s1.below hb',⟨ws,m2,zg⟩,h3,?_,h5,h6,h7,h8⟩⟩
  exact(h4.trans (AL.AJ hb fun _=>False) fun _ hf=>hf.elim).trans (AL.AJ hb' fun _=>False) fun _ hf=>hf.elim
 ·refine(Vo s1 hok m1 (by omega) ⟨h3.x,h3.b,h3.g⟩ (by rw[U7];exact hk.words D') zg tu hf (by rw[hlen];show i<t.bound;rw[hk.bound];exact hi)).mono ?_
  intro e w' yI
  have hW:AL G w W:=h4.trans (AL.AJ hb fun _=>False) fun _ hf=>hf.elim
  have Kq:∀w',AL (fun k=>G' k∨k=x∨k=t.g∨k=t.b) W w'→AL G w w':=fun w' hf=>hW.trans hf fun k E0=>by
   rcases E0 with E0|rfl|rfl|rfl
   ·exact h5 k E0
   ·exact .inr hk.x
   ·exact .inr hk.g
   ·exact .inr hk.b
  have Hw:∀u∈l.take (i+1),Af t.k u=true:=by
   intro u hu
   rw[List.take_add_one,htu]at hu
   rcases List.mem_append.1 hu with hu|hu
   ·exact h8 u hu
   ·simp at hu;subst hu;exact hf
  have hlt:x<W.heap.size∧t.b<W.heap.size∧t.g<W.heap.size:=m1.lt
  have WM:∀DE:Nat→Prop,(∀k,DE k→G' k∨W.heap.size≤k)→PM DE x (Go.Proofs.YteldegofbbfaeaaGreat.tk t l (i+1)):=fun DE hs=>
   ⟨fun hg=>(hs _ hg).elim h3.x (Nat.not_le_of_lt hlt.1),fun hg=>(hs _ hg).elim h3.b (Nat.not_le_of_lt hlt.2.1),fun hg=>(hs _ hg).elim h3.g (Nat.not_le_of_lt hlt.2.2)⟩
  have Fc:∀DE:Nat→Prop,(∀k,DE k→G' k∨W.heap.size≤k)→∀k,DE k→G k∨w.heap.size≤k:=fun DE hs k hg=>(hs k hg).elim (fun h=>h5 k h) fun h=>.inr (Nat.le_trans hW.size h)
  rcases yI with⟨hno,_⟩|⟨_,bg,_⟩|⟨_,GH,⟨hm,rfl,DE,k1,k2,k3,k4⟩|⟨hm,DX,rfl,DE,k1,k2,k3,k4⟩|⟨hm,DX,rfl,DE,k1,k2,k3,k4⟩⟩
  ·rw[show Af (Go.Proofs.YteldegofbbfaeaaGreat.tk t l i).k tu=Af t.k tu from rfl,hf]at hno;cases hno
  ·rw[hlen]at bg;have:i=t.bound:=bg;rw[hk.bound]at this;omega
  ·rw[hlen]at hm
   rw[JB htu]at k2
   rw[U7]at k2
   have jy:=ND (tu:=tu) hok.h.1 h7 (by rw[hlen];exact hm)
   rw[JB htu]at jy
   refine⟨0,rfl,.inr (.inl ⟨rfl,DE,D',k1.mono (by omega) (by omega),k2,WM _ k4,Kq w' (k3.mono fun k hk=>?_),Fc _ k4,?_,jy,Hw⟩)⟩
   ·rcases hk with h|h|h
    ·exact .inl h
    ·exact .inr (.inl h)
    ·exact .inr (.inr (.inl h))
   ·rw[GJ (show 0<t.h from hok.h.1) (show (i+1)%t.h≠0 from hm)];exact h6
  ·rw[hlen]at hm
   rw[JB htu]at k2 DX k1
   rw[U7]at k2 DX k1
   have e1:D'.size=F.D.size:=h6.size
   have jy:=NB (tu:=tu) (D:=D') hok.h.1 h7 (by rw[hlen];exact hm) (by rw[JB htu,e1];exact DX)
   rw[JB htu,e1]at jy
   have Io:DM D' (write D' (AV (Go.Proofs.YteldegofbbfaeaaGreat.tk t l (i+1)):Nat) (AU F.D.size (Go.Proofs.YteldegofbbfaeaaGreat.tk t l (i+1)))).2 1:=Fy DX
   refine⟨0,rfl,.inr (.inl ⟨rfl,DE,(write D' (AV (Go.Proofs.YteldegofbbfaeaaGreat.tk t l (i+1)):Nat) (AU F.D.size (Go.Proofs.YteldegofbbfaeaaGreat.tk t l (i+1)))).2,k1,?_,WM _ k4,Kq w' (k3.mono fun k hk=>?_),Fc _ k4,?_,jy,Hw⟩)⟩
   ·have e2:(write D' (AV (Go.Proofs.YteldegofbbfaeaaGreat.tk t l (i+1)):Nat) (AU F.D.size (Go.Proofs.YteldegofbbfaeaaGreat.tk t l (i+1)))).2.size=F.D.size:=Io.size.trans e1
    rw[←e2];exact k2
   ·rcases hk with h|h|h
    ·exact .inl h
    ·exact .inr (.inl h)
    ·exact .inr (.inr (.inl h))
   ·rw[I3 (show 0<t.h from hok.h.1) (show (i+1)%t.h=0 from hm)];exact h6.trans Io
  ·rw[hlen]at hm
   rw[JB htu]at k2 DX k1⊢
   have e1:D'.size=F.D.size:=h6.size
   have kJ:Sys w' DE p (L2 F F.S t.b (write D' (AV (Go.Proofs.YteldegofbbfaeaaGreat.tk t l (i+1)):Nat) (AU D'.size (Go.Proofs.YteldegofbbfaeaaGreat.tk t l (i+1)))).2) (n+i+1):=by
    have e3:=hk.oI (D':=(write D' (AV (Go.Proofs.YteldegofbbfaeaaGreat.tk t l (i+1)):Nat) (AU D'.size (Go.Proofs.YteldegofbbfaeaaGreat.tk t l (i+1)))).2) ((ET _ _ _).1.trans e1) (i+1)
    rw[←e3];exact k1
   refine⟨_,rfl,.inr (.inr ⟨Sz hk h6 (show i+1≤l.length by omega) (by omega) DX ⟨DE,kJ.mono (by omega) (by omega),Kq w' (k3.mono fun k hk=>?_),Fc _ k4⟩,l.take (i+1),k2⟩)⟩
   exact hk
theorem aa(u:FrameMode){w1:World}(hk:G8 w F n x t S1 l)(h:Ob w G p F n x t S1 l i wr)(hi:i≤l.length)(hb0:Below w1.heap.size w1 w)(hG:∀k,G k→k<w1.heap.size){R:Nat}(hR1:w1.heap.size≤R)(hR2:R<w.heap.size){cs:List Value}(hRr:Row wr R 39 cs){W:World}(hf:AL (fun k=>k=R) wr W){qP:List Value}(hRW:Row W R 39 qP):
  CallsD Tryz.prog 38 #[.pointer (some ⟨x,0,none⟩)] u W fun e u' w'=>u'=u∧(e=.returned (.tuple #[])∧Row w' R 39 qP∧∃D' m,DM F.D D' m∧AR w1 G p (L2 F F.S t.b D') (n+l.length+1) w'):=by
 obtain⟨G',D',h1,⟨ws,h2,zg⟩,h3,h4,h5,h6,h7,h8⟩:=h
 have hxR:x≠R:=by have:=hk.x;omega
 have hbR:t.b≠R:=by have:=hk.b;omega
 have hgR:t.g≠R:=by have:=hk.g;omega
 have iC:¬G' R:=fun hg=>(h5 R hg).elim (fun h=>by have:=hG R h;omega) fun h=>by omega
 have s1:Sys W G' p (IX F S1 t.b D') (n+i):=h1.Pa hf fun k E0=>by
  subst E0
  exact⟨iC,fun v hv=>absurd (hv.typed hRr) (by decide)⟩
 have m1:G3 W x p (Go.Proofs.YteldegofbbfaeaaGreat.tk t l i) F.D.size ws:=h2.Cc hf hxR hbR hgR
 have U7:(IX F S1 t.b D').D.size=F.D.size:=h6.size
 have hn:=hk.n
 have hok:=hk.tk hi
 have hsz:=hok.sz
 have hst:wordsAt (IX F S1 t.b D').A.st (Go.Proofs.YteldegofbbfaeaaGreat.tk t l i).b=some (IX F S1 t.b D').D.size:=by rw[U7];exact hk.words D'
 refine(PW u s1 m1.row m1.buf (by omega) h3.x hst m1.apart.1 hok.first hok.blocks.2).mono ?_
 rintro e u' w' ⟨rfl,rfl,DE,k1,k2,k3,k4⟩
 refine⟨rfl,rfl,k2.row hRW (by rintro(hg|hg);exact iC hg;exact hbR hg.symm),D',_,h6,DE,?_,?_,?_⟩
 ·rw[hk.oI (D':=D') U7]at k1
  exact k1.mono (by omega) (by omega)
 ·refine((((AL.AJ hb0 G).trans h4 fun b hb=>.inl hb).trans hf fun b hb=>.inr (by omega))).trans k2 ?_
  rintro k (E0|rfl)
  ·exact(h5 k E0).imp_right fun h=>Nat.le_trans hb0.size h
  ·exact .inr (Nat.le_trans hb0.size hk.b)
 ·intro k E0
  rcases k3 k E0 with h|h
  ·exact(h5 k h).imp_right fun h=>Nat.le_trans hb0.size h
  ·exact .inr (Nat.le_trans (Nat.le_trans (Nat.le_trans hb0.size h4.size) hf.size) h)
theorem X8(hk:G8 w F n x t S1 l)(h:Ob w G p F n x t S1 l l.length wr):
  Calls Tryz.prog 40 #[.pointer (some ⟨x,0,none⟩)] wr fun e w'=>∃(er:Int) (f1 f2 f3 f4:Nat),e=.returned (.tuple #[DA f1 f2 f3 f4,.int .i64 er])∧(∃l',Je w' x p {t with l:=l'})∧
   ((er=0∧(f1=t.first∧f2=t.blocks∧f3=t.k∧f4=l.length)∧M9 w G p F n t S1 l w')∨((f1=0∧f2=0∧f3=0∧f4=0)∧K9 w G p F n t l er w')):=by
 obtain⟨G',D',h1,h2,h3,h4,h5,h6,h7,h8⟩:=h
 have hok:=hk.tk (Nat.le_refl l.length)
 have hlen:=NS (t:=t) (Nat.le_refl l.length)
 have My:(Go.Proofs.YteldegofbbfaeaaGreat.tk t l l.length).l=l:=List.take_length
 have U7:(IX F S1 t.b D').D.size=F.D.size:=h6.size
 have hn:=hk.n
 have hst:wordsAt (IX F S1 t.b D').A.st (Go.Proofs.YteldegofbbfaeaaGreat.tk t l l.length).b=some (IX F S1 t.b D').D.size:=by rw[U7];exact hk.words D'
 have Kp:BS (Go.Proofs.YteldegofbbfaeaaGreat.tk t l l.length)=t.first:=by
  unfold BS
  rw[hlen]
  by_cases h0:l.length=0
  ·rw[if_pos h0]
   rcases hk.taken with⟨_,ha,_⟩|⟨hm,_⟩
   ·exact ha.symm
   ·rw[hk.blocks,h0,A7]at hm;omega
  ·rw[if_neg h0];rfl
 have Hw:∀u∈l,Af t.k u=true:=fun u hu=>h8 u (by rw[List.take_length];exact hu)
 have Kq:∀w',AL (fun k=>G' k∨k=x∨k=t.g∨k=t.b) wr w'→AL G w w':=fun w' hf=>h4.trans hf fun k E0=>by
  rcases E0 with E0|rfl|rfl|rfl
  ·exact h5 k E0
  ·exact .inr hk.x
  ·exact .inr hk.g
  ·exact .inr hk.b
 have Fc:∀DE:Nat→Prop,(∀k,DE k→G' k∨wr.heap.size≤k)→∀k,DE k→G k∨w.heap.size≤k:=fun DE hs k hg=>(hs k hg).elim (fun h=>h5 k h) fun h=>.inr (Nat.le_trans h4.size h)
 rw[←U7]at hok h2
 refine(NM h1 (by omega) hok h2 ⟨h3.x,h3.b,h3.g⟩ hst).mono ?_
 intro e w' D9
 have e1:D'.size=F.D.size:=h6.size
 rcases D9 with⟨hm,rfl,DE,k1,k2,k3,k4⟩|⟨hm,DX,rfl,DE,k1,k2,k3,k4⟩|⟨hm,DX,rfl,DE,k1,k2,k3,k4⟩
 ·refine⟨0,_,_,_,_,rfl,⟨_,k2⟩,.inl ⟨rfl,⟨Kp,?_,rfl,hlen⟩,Hw,D',?_,?_,DE,?_,Kq w' k3,Fc _ k4⟩⟩
  ·rw[hlen,hk.blocks];rfl
  ·rw[hlen]at hm
   have:t.blocks=l.length/t.h:=by rw[hk.blocks];exact Ec hm
   rw[this];exact h6
  ·have:=L5 h7 hm
   rw[hlen]at this
   rw[hk.blocks]
   rw[My]at this
   exact this
  ·have e3:=hk.cX (D':=D') U7 l.length
   rw[←e3]
   have e4:AA (Go.Proofs.YteldegofbbfaeaaGreat.tk t l l.length).h (Go.Proofs.YteldegofbbfaeaaGreat.tk t l l.length).l.length=AA t.h l.length:=by rw[hlen];rfl
   rw[←e4]
   exact k1.mono (by omega) (by omega)
 ·have Io:=Fy DX
  have e2:(IX F S1 t.b D').D=D':=rfl
  rw[e2]at DX Io k1
  refine⟨0,_,_,_,_,rfl,⟨_,k2⟩,.inl ⟨rfl,⟨Kp,?_,rfl,hlen⟩,Hw,(write D' (AV (Go.Proofs.YteldegofbbfaeaaGreat.tk t l l.length):Nat) (AU D'.size (Go.Proofs.YteldegofbbfaeaaGreat.tk t l l.length))).2,?_,?_,DE,?_,Kq w' k3,Fc _ k4⟩⟩
  ·rw[hlen,hk.blocks];rfl
  ·rw[hlen]at hm
   have hm':l.length%t.h≠0:=hm
   have:t.blocks=l.length/t.h+1:=by rw[hk.blocks];unfold AA;rw[if_pos (by omega)]
   rw[this];exact h6.trans Io
  ·have:=KP hok.h.1 h7 hm DX
   rw[hlen,My]at this
   rw[hk.blocks]
   exact this
  ·have e3:=hk.cX (D':=(write D' (AV (Go.Proofs.YteldegofbbfaeaaGreat.tk t l l.length):Nat) (AU D'.size (Go.Proofs.YteldegofbbfaeaaGreat.tk t l l.length))).2) (Io.size.trans e1) l.length
   rw[←e3]
   have e4:AA (Go.Proofs.YteldegofbbfaeaaGreat.tk t l l.length).h (Go.Proofs.YteldegofbbfaeaaGreat.tk t l l.length).l.length=AA t.h l.length:=by rw[hlen];rfl
   rw[←e4]
   exact k1.mono (by omega) (by omega)
 ·have e2:(IX F S1 t.b D').D=D':=rfl
  rw[e2]at DX k1⊢
  have Jy:0<l.length:=by
   rcases Nat.eq_zero_or_pos l.length with h0|h0
   ·rw[hlen,h0]at hm;simp at hm
   ·exact h0
  refine⟨_,0,0,0,0,rfl,⟨_,k2⟩,.inr ⟨⟨rfl,rfl,rfl,rfl⟩,Sz hk h6 (Nat.le_refl _) Jy DX ⟨DE,?_,Kq w' k3,Fc _ k4⟩⟩⟩
  have e3:=hk.oI (D':=(write D' (AV (Go.Proofs.YteldegofbbfaeaaGreat.tk t l l.length):Nat) (AU D'.size (Go.Proofs.YteldegofbbfaeaaGreat.tk t l l.length))).2) ((ET _ _ _).1.trans e1) l.length
  rw[←e3]
  exact k1.mono (by omega) (by omega)
end
def dL(w:World)(G:Nat→Prop)(p:Wp)(F:Fs)(n:Nat)(width:Int)(l:List AB)(e:Ending)(w':World):Prop:=
  (∃ er,e=.returned (.tuple #[DA 0 0 0 0,.int .i64 er])∧oQ F width (l.length:Int) er∧AR w G p F n w')∨
  (∃ t S1,(Fo F width (l.length:Int)∧F.D.size≤F.A.room-F.A.used∧(t.k:Int)=width∧t.h=AH F.D.size width∧t.blocks=AA t.h l.length∧G7 F.S S1 t.first t.blocks∧t.first≤2000000∧∀q∈F.A.st,q.1≠t.b)∧
    ((∃ er,e=.returned (.tuple #[DA 0 0 0 0,.int .i64 er])∧dK w G p F n t l er w')∨(∃er,e=.returned (.tuple #[DA 0 0 0 0,.int .i64 er])∧K9 w G p F n t l er w')∨
     (e=.returned (.tuple #[DA t.first t.blocks t.k l.length,.int .i64 0])∧M9 w G p F n t S1 l w')))
section
variable {w w0 wr : World} {G : Nat → Prop} {p : Wp} {F : Fs} {n x : Nat} {t : Wt} {S1 : Sp} {l : List AB}
theorem WC{F':Fs}{n' R:Nat}{w3:World}(h:AR w0 G p F' n' wr)(hb0:Below w.heap.size w w0)(hG:∀k,G k→k<w.heap.size)(hR1:w.heap.size≤R)(hR2:R<w0.heap.size)(hst:∀q∈F'.A.st,q.1≠R)(hf:AL (fun k=>k=R) wr w3):AR w G p F' n' w3:=h.own hb0 hR1 hR2 hG hst hf
end
theorem cN{w:World}{G:Nat→Prop}{p:Wp}{F:Fs}{n:Nat}(h:Sys w G p F n)(width:Int){A:Option Addr}{m c:Nat}{l:List AB}(hl:BD w w.heap.size A m l)(vr:0<m→∀b off,A=some ⟨b,off,none⟩→¬G b)(hn:n+l.length+1≤1000000):
  Calls Tryz.prog 15 #[.pointer (some ⟨p.w,0,none⟩),.int .i64 width,.slice A m c] w (dL w G p F n width l):=by
 obtain⟨w0,DX⟩:∃w0,w0=w.alloc (.cells #[.int .i64 0,.int .i64 0,.int .i64 0,.int .i64 0] 39):=⟨_,rfl⟩
 have hb0:Below w.heap.size w w0:=by rw[DX];exact(Below.refl w.heap.size w).alloc (Nat.le_refl _) _
 have DP:Row w0 w.heap.size 39 [.int .i64 0,.int .i64 0,.int .i64 0,.int .i64 0]:=by rw[DX];exact heap_alloc_new _ _
 have hlen:=hl.1
 have HG:Hid (∀k,G k→k<w.heap.size):=fun k hk=>h.lt hk
 have rN:Calls Tryz.prog 37 #[.pointer (some ⟨p.w,0,none⟩),.int .i64 width,.int .i64 m] (w.alloc (.cells #[.int .i64 0,.int .i64 0,.int .i64 0,.int .i64 0] 39)) (Wq w0 G p F n width (m:Int)):=by rw[←DX];exact OF (h.below hb0) width (m:Int)
 have oW:=Lib.hid rN
 have GW:Hid (Below w.heap.size w w0):=hb0
 have Hj:Hid (Row w0 w.heap.size 39 [.int .i64 0,.int .i64 0,.int .i64 0,.int .i64 0]):=DP
 have ES:Hid (∀q∈F.A.st,q.1<w.heap.size):=fun q hq=>(h.buf hq).1.lt
 have AA4:=Lib.hid h.V0
 have uy:Hid (BD w0 w.heap.size A m l):=hl.CL hb0
 have wY:=Lib.hid vr
 have dZ:Hid (¬G w.heap.size):=fun hg=>by have:=HG.out _ hg;omega
 have HN:=Lib.hid hn
 have Cg:=Lib.hid hlen
 clear rN hl vr hn hb0 DP h DX
 subst hlen
 generalize PK:dL w G p F n width l=FK at*
 replace PK:=Lib.hid PK
 go_enter_defers Tryz.func15,Tryz.ntmps15
 go_wp2_with fail
 refine oW.out.mono ?_
 rintro e w1 (⟨er,rfl,xm,EK⟩|⟨x,t,S1,rfl,Y9,Ip,RN,gV,pq,bA,gU,ZB,hok,hN⟩)
 ·have Ee:Hid (Row w1 w.heap.size 39 [.int .i64 0,.int .i64 0,.int .i64 0,.int .i64 0]):=EK.row Hj.out dZ.out
  have dQ:=Lib.hid EK
  have HWE:=Lib.hid xm
  clear EK xm oW
  have YT:(er !=0)=true:=by
   rcases HWE.out with⟨rfl,_⟩|⟨rfl,_⟩|⟨rfl,_⟩<;>rfl
  have z0:w1.cell? ⟨w.heap.size,0,none⟩=some (.int .i64 0):=Ee.out.cell 0
  have z1:w1.cell? ⟨w.heap.size,1,none⟩=some (.int .i64 0):=Ee.out.cell 1
  have z2:w1.cell? ⟨w.heap.size,2,none⟩=some (.int .i64 0):=Ee.out.cell 2
  have z3:w1.cell? ⟨w.heap.size,3,none⟩=some (.int .i64 0):=Ee.out.cell 3
  have f0:=Ee.out.free 0
  have f1:=Ee.out.free 1
  have f2:=Ee.out.free 2
  have f3:=Ee.out.free 3
  go_wp2
  have Ed:Hid (Row ((((w1.setCell ⟨w.heap.size,0,none⟩ (.int .i64 0)).setCell ⟨w.heap.size,1,none⟩ (.int .i64 0)).setCell ⟨w.heap.size,2,none⟩ (.int .i64 0)).setCell ⟨w.heap.size,3,none⟩ (.int .i64 0)) w.heap.size 39 [.int .i64 0,.int .i64 0,.int .i64 0,.int .i64 0]):=(((Ee.out.set 0 (.int .i64 0)).set 1 (.int .i64 0)).set 2 (.int .i64 0)).set 3 (.int .i64 0)
  have LQ:=Lib.hid (AL.four w1 w.heap.size (.int .i64 0) (.int .i64 0) (.int .i64 0) (.int .i64 0))
  have r0:=Ed.out.cell 0
  have r1:=Ed.out.cell 1
  have r2:=Ed.out.cell 2
  have r3:=Ed.out.cell 3
  simp only[List.getElem?_cons_zero,List.getElem?_cons_succ]at r0 r1 r2 r3
  exact⟨.tuple #[.agg #[.int .i64 0,.int .i64 0,.int .i64 0,.int .i64 0],.int .i64 er],by simp[results,Tryz.results15,go_sem,r0,r1,r2,r3],by rw[←PK.out];exact .inl ⟨er,rfl,HWE.out,WC dQ.out GW.out HG.out (Nat.le_refl _) Hj.out.lt (fun q hq=>Nat.ne_of_lt (ES.out q hq)) LQ.out⟩⟩
 ·obtain⟨k1,k2,k3,G1,k4,k5,k6,k7,k8⟩:=hN
  have hwp:=hok.h.1
  have hlb:l.length≤1000000:=by have:=HN.out;omega
  have Kw:t.bound=l.length:=by omega
  have DY:Hid (G8 w0 F n x t S1 l):=⟨HN.out,AA4.out,ZB,by rw[gU,Kw],hok,Kw,k1,k2,k3,fun q hq=>Nat.lt_of_lt_of_le (ES.out q hq) GW.out.size⟩
  have iq:Hid (Fo F width (l.length:Int)∧F.D.size≤F.A.room-F.A.used∧(t.k:Int)=width∧t.h=AH F.D.size width∧t.blocks=AA t.h l.length∧G7 F.S S1 t.first t.blocks∧t.first≤2000000∧∀q∈F.A.st,q.1≠t.b):=⟨Y9,Ip,RN,pq,by rw[gU,Kw],ZB,hok.first,fun q hq e=>by have:=ES.out q hq;have:=GW.out.size;omega⟩
  have AB9:Hid (Ob w0 G p F n x t S1 l 0 w1):=by
   refine⟨G1,F.D,k4,?_,⟨k6.x,k6.b,k6.g⟩,k7,k8,?_,NC (by unfold tk;simp),by simp⟩
   ·have e:tk t l 0=t:=by unfold tk;rw[List.take_zero,←bA]
    rw[e];exact k5
   ·rw[Nat.zero_div];exact DM.refl _
  have Aw:Hid (∀(F':Fs) (n':Nat) w8 w9,(∀q∈F'.A.st,q∈F.A.st∨q.1=t.b)→AR w0 G p F' n' w8→AL (fun k=>k=w.heap.size) w8 w9→AR w G p F' n' w9):=fun F' n' w8 w9 hst hs hf=>WC hs GW.out HG.out (Nat.le_refl _) Hj.out.lt (fun q hq e=>by
   rcases hst q hq with h|h
   ·have:=ES.out q h;omega
   ·have:=Hj.out.lt;omega) hf
  clear Y9 Ip RN pq hwp gU ZB hok k1 k2 k3 k4 k5 k6 k7 k8 oW Kw bA gV
  go_wp2_with fail
  go_loopw [28] (fun iv wr=>∃i:Nat,i≤l.length∧iv=.int .i64 (i:Int)∧Hid (Ob w0 G p F n x t S1 l i wr)) (fun iv _=>l.length-(intOf iv).toNat)
  case atStart=>exact⟨0,Nat.zero_le _,rfl,AB9.out⟩
  case round=>
   obtain⟨i,hi,rfl,MS⟩:=hrel
   by_cases hlt:i<l.length
   ·have kP:AL G w0 wr:=by obtain⟨_,_,_,_,_,h,_⟩:=MS.out;exact h
    obtain⟨bb,off,tu,rfl,IZ,q0,q1,q2,q3,q4,_,htu⟩:=(uy.out.Cc GW.out.size kP fun hm b off e=>wY.out hm b off e).at_ hlt
    have B7:(0:Int)≤(i:Int):=by omega
    have bX:(i:Int)<(l.length:Int):=by omega
    have g0:decide ((i:Int)<(l.length:Int))=true:=by simpa using hlt
    have Tp:=Lib.hid (gG DY.out MS.out hlt htu.out ((Below.refl wr.heap.size wr).alloc (Nat.le_refl _) (.cells #[.int .i64 tu.a,.int .i64 tu.b,.int .i64 tu.c,.int .i64 tu.d,.int .i64 tu.e] 63)))
    clear kP
    obtain⟨ta,tb,tc,td,te⟩:=tu
    simp only at q0 q1 q2 q3 q4 Tp
    go_wp2_with fail
    refine Tp.out.mono ?_
    rintro e w5 ⟨er,rfl,⟨rfl,hno,Bp⟩|⟨rfl,Bp⟩|⟨sk,l',bH,bG⟩⟩
    ·have kP:AL G w0 w5:=by obtain⟨_,_,_,_,_,h,_⟩:=Bp;exact h
     have DV:Hid (Row w5 w.heap.size 39 [.int .i64 0,.int .i64 0,.int .i64 0,.int .i64 0]):=kP.row Hj.out dZ.out
     have Y2:=Lib.hid Bp
     have LO:=Lib.hid hno
     clear kP Bp hno Tp q0 q1 q2 q3 q4 MS
     have z0:w5.cell? ⟨w.heap.size,0,none⟩=some (.int .i64 0):=DV.out.cell 0
     have z1:w5.cell? ⟨w.heap.size,1,none⟩=some (.int .i64 0):=DV.out.cell 1
     have z2:w5.cell? ⟨w.heap.size,2,none⟩=some (.int .i64 0):=DV.out.cell 2
     have z3:w5.cell? ⟨w.heap.size,3,none⟩=some (.int .i64 0):=DV.out.cell 3
     have f0:=DV.out.free 0
     have f1:=DV.out.free 1
     have f2:=DV.out.free 2
     have f3:=DV.out.free 3
     have Ed:Hid (Row ((((w5.setCell ⟨w.heap.size,0,none⟩ (.int .i64 0)).setCell ⟨w.heap.size,1,none⟩ (.int .i64 0)).setCell ⟨w.heap.size,2,none⟩ (.int .i64 0)).setCell ⟨w.heap.size,3,none⟩ (.int .i64 0)) w.heap.size 39 [.int .i64 0,.int .i64 0,.int .i64 0,.int .i64 0]):=(((DV.out.set 0 (.int .i64 0)).set 1 (.int .i64 0)).set 2 (.int .i64 0)).set 3 (.int .i64 0)
     have LQ:=Lib.hid (AL.four w5 w.heap.size (.int .i64 0) (.int .i64 0) (.int .i64 0) (.int .i64 0))
     have qn:=fun u=>aa u DY.out Y2.out (Nat.le_of_lt hlt) GW.out HG.out (Nat.le_refl _) Hj.out.lt DV.out LQ.out Ed.out
     replace qn:=Lib.hid qn
     clear Y2 Ed LQ
     go_wp2
     refine leaves_cons (f:=38) (args:=#[.pointer (some ⟨x,0,none⟩)]) (by simp) (by simp[go_sem]) ?_
     refine(qn.out _).mono ?_
     rintro e u' Cq ⟨rfl,rfl,GG,D',m,pn,hs9⟩
     have jC:=Lib.hid GG
     have dj:Hid (FK (.returned (.tuple #[.agg #[.int .i64 0,.int .i64 0,.int .i64 0,.int .i64 0],.int .i64 1])) Cq):=by rw[←PK.out];exact .inr ⟨t,S1,iq.out,.inl ⟨1,rfl,rfl,LO.out,D',m,pn,hs9⟩⟩
     have r0:=jC.out.cell 0
     have r1:=jC.out.cell 1
     have r2:=jC.out.cell 2
     have r3:=jC.out.cell 3
     simp only[List.getElem?_cons_zero,List.getElem?_cons_succ]at r0 r1 r2 r3
     exact⟨.tuple #[.agg #[.int .i64 0,.int .i64 0,.int .i64 0,.int .i64 0],.int .i64 1],by simp[results,Tryz.results15,go_sem,r0,r1,r2,r3],dj.out⟩
    ·have Y2:=Lib.hid Bp
     clear Bp Tp q0 q1 q2 q3 q4 MS
     go_wp2
     go_roundw
     case rel=>exact⟨i+1,by omega,by go_num,Y2.out⟩
     case measure=>simp[intOf];omega
    ·obtain⟨hne,D1,m,j,ws,e1,e2,e3,e4,Rx⟩:=sk
     have DV:Hid (Row w5 w.heap.size 39 [.int .i64 0,.int .i64 0,.int .i64 0,.int .i64 0]):=Rx.row Hj.out dZ.out
     have YT:(er !=0)=true:=by simpa using hne
     have z0:w5.cell? ⟨w.heap.size,0,none⟩=some (.int .i64 0):=DV.out.cell 0
     have z1:w5.cell? ⟨w.heap.size,1,none⟩=some (.int .i64 0):=DV.out.cell 1
     have z2:w5.cell? ⟨w.heap.size,2,none⟩=some (.int .i64 0):=DV.out.cell 2
     have z3:w5.cell? ⟨w.heap.size,3,none⟩=some (.int .i64 0):=DV.out.cell 3
     have f0:=DV.out.free 0
     have f1:=DV.out.free 1
     have f2:=DV.out.free 2
     have f3:=DV.out.free 3
     have Ed:Hid (Row ((((w5.setCell ⟨w.heap.size,0,none⟩ (.int .i64 0)).setCell ⟨w.heap.size,1,none⟩ (.int .i64 0)).setCell ⟨w.heap.size,2,none⟩ (.int .i64 0)).setCell ⟨w.heap.size,3,none⟩ (.int .i64 0)) w.heap.size 39 [.int .i64 0,.int .i64 0,.int .i64 0,.int .i64 0]):=(((DV.out.set 0 (.int .i64 0)).set 1 (.int .i64 0)).set 2 (.int .i64 0)).set 3 (.int .i64 0)
     have LQ:=Lib.hid (AL.four w5 w.heap.size (.int .i64 0) (.int .i64 0) (.int .i64 0) (.int .i64 0))
     have wN:=Lib.hid (Aw.out _ _ _ _ RJ Rx LQ.out)
     have dj:Hid (FK (.returned (.tuple #[.agg #[.int .i64 0,.int .i64 0,.int .i64 0,.int .i64 0],.int .i64 er])) ((((w5.setCell ⟨w.heap.size,0,none⟩ (.int .i64 0)).setCell ⟨w.heap.size,1,none⟩ (.int .i64 0)).setCell ⟨w.heap.size,2,none⟩ (.int .i64 0)).setCell ⟨w.heap.size,3,none⟩ (.int .i64 0))):=by rw[←PK.out];exact .inr ⟨t,S1,iq.out,.inr (.inl ⟨er,rfl,hne,D1,m,j,ws,e1,e2,e3,e4,wN.out⟩)⟩
     have rf:Hid (Row ((((w5.setCell ⟨w.heap.size,0,none⟩ (.int .i64 0)).setCell ⟨w.heap.size,1,none⟩ (.int .i64 0)).setCell ⟨w.heap.size,2,none⟩ (.int .i64 0)).setCell ⟨w.heap.size,3,none⟩ (.int .i64 0)) x 122 (R7 p {t with l:=l'}))∧Hid (Row ((((w5.setCell ⟨w.heap.size,0,none⟩ (.int .i64 0)).setCell ⟨w.heap.size,1,none⟩ (.int .i64 0)).setCell ⟨w.heap.size,2,none⟩ (.int .i64 0)).setCell ⟨w.heap.size,3,none⟩ (.int .i64 0)) t.b 126 [.slice none 0 0]):=⟨LQ.out.row bH (fun e=>by have:=DY.out.x;have:=Hj.out.lt;omega),LQ.out.row bG (fun e=>by have:=DY.out.b;have:=Hj.out.lt;omega)⟩
     clear hne e1 e2 e3 e4 Rx wN LQ bH bG Tp q0 q1 q2 q3 q4 MS
     go_wp2
     refine leaves_cons (f:=38) (args:=#[.pointer (some ⟨x,0,none⟩)]) (by simp) (by simp[go_sem]) ?_
     refine(FW _ (rf.1.out) (rf.2.out)).mono ?_
     rintro e u' Cq ⟨rfl,rfl,rfl⟩
     have r0:=Ed.out.cell 0
     have r1:=Ed.out.cell 1
     have r2:=Ed.out.cell 2
     have r3:=Ed.out.cell 3
     simp only[List.getElem?_cons_zero,List.getElem?_cons_succ]at r0 r1 r2 r3
     exact⟨.tuple #[.agg #[.int .i64 0,.int .i64 0,.int .i64 0,.int .i64 0],.int .i64 er],by simp[results,Tryz.results15,go_sem,r0,r1,r2,r3],dj.out⟩
   ·obtain rfl:i=l.length:=by omega
    have g0:decide ((l.length:Int)<(l.length:Int))=false:=by simp
    have DJ:=Lib.hid (X8 DY.out MS.out)
    unfold DA at DJ
    clear MS
    go_wp2_with fail
    refine DJ.out.mono ?_
    rintro e w5 ⟨er,x1,x2,x3,x4,rfl,⟨l',bH,bG⟩,cD⟩
    have Rx:Row w5 w.heap.size 39 [.int .i64 0,.int .i64 0,.int .i64 0,.int .i64 0]:=by
     rcases cD with⟨_,_,_,_,_,_,h⟩|⟨_,_,_,_,_,_,_,_,_,_,h⟩
     ·exact h.row Hj.out dZ.out
     ·exact h.row Hj.out dZ.out
    have DV:=Lib.hid Rx
    have z0:w5.cell? ⟨w.heap.size,0,none⟩=some (.int .i64 0):=DV.out.cell 0
    have z1:w5.cell? ⟨w.heap.size,1,none⟩=some (.int .i64 0):=DV.out.cell 1
    have z2:w5.cell? ⟨w.heap.size,2,none⟩=some (.int .i64 0):=DV.out.cell 2
    have z3:w5.cell? ⟨w.heap.size,3,none⟩=some (.int .i64 0):=DV.out.cell 3
    have f0:=DV.out.free 0
    have f1:=DV.out.free 1
    have f2:=DV.out.free 2
    have f3:=DV.out.free 3
    have Ed:Hid (Row ((((w5.setCell ⟨w.heap.size,0,none⟩ (.int .i64 x1)).setCell ⟨w.heap.size,1,none⟩ (.int .i64 x2)).setCell ⟨w.heap.size,2,none⟩ (.int .i64 x3)).setCell ⟨w.heap.size,3,none⟩ (.int .i64 x4)) w.heap.size 39 [.int .i64 x1,.int .i64 x2,.int .i64 x3,.int .i64 x4]):=(((DV.out.set 0 (.int .i64 x1)).set 1 (.int .i64 x2)).set 2 (.int .i64 x3)).set 3 (.int .i64 x4)
    have LQ:=Lib.hid (AL.four w5 w.heap.size (.int .i64 x1) (.int .i64 x2) (.int .i64 x3) (.int .i64 x4))
    have dj:Hid (FK (.returned (.tuple #[.agg #[.int .i64 x1,.int .i64 x2,.int .i64 x3,.int .i64 x4],.int .i64 er])) ((((w5.setCell ⟨w.heap.size,0,none⟩ (.int .i64 x1)).setCell ⟨w.heap.size,1,none⟩ (.int .i64 x2)).setCell ⟨w.heap.size,2,none⟩ (.int .i64 x3)).setCell ⟨w.heap.size,3,none⟩ (.int .i64 x4))):=by
     rw[←PK.out]
     rcases cD with⟨rfl,⟨rfl,rfl,rfl,rfl⟩,e1,D',e2,e3,e4⟩|⟨⟨rfl,rfl,rfl,rfl⟩,hne,D1,m,j,ws,e1,e2,e3,e4,e5⟩
     ·exact .inr ⟨t,S1,iq.out,.inr (.inr ⟨rfl,e1,D',e2,e3,Aw.out _ _ _ _ RJ e4 LQ.out⟩)⟩
     ·exact .inr ⟨t,S1,iq.out,.inr (.inl ⟨er,rfl,hne,D1,m,j,ws,e1,e2,e3,e4,Aw.out _ _ _ _ RJ e5 LQ.out⟩)⟩
    have rf:Hid (Row ((((w5.setCell ⟨w.heap.size,0,none⟩ (.int .i64 x1)).setCell ⟨w.heap.size,1,none⟩ (.int .i64 x2)).setCell ⟨w.heap.size,2,none⟩ (.int .i64 x3)).setCell ⟨w.heap.size,3,none⟩ (.int .i64 x4)) x 122 (R7 p {t with l:=l'}))∧Hid (Row ((((w5.setCell ⟨w.heap.size,0,none⟩ (.int .i64 x1)).setCell ⟨w.heap.size,1,none⟩ (.int .i64 x2)).setCell ⟨w.heap.size,2,none⟩ (.int .i64 x3)).setCell ⟨w.heap.size,3,none⟩ (.int .i64 x4)) t.b 126 [.slice none 0 0]):=⟨LQ.out.row bH (fun e=>by have:=DY.out.x;have:=Hj.out.lt;omega),LQ.out.row bG (fun e=>by have:=DY.out.b;have:=Hj.out.lt;omega)⟩
    clear cD Rx LQ bH bG DJ
    go_wp2
    refine leaves_cons (f:=38) (args:=#[.pointer (some ⟨x,0,none⟩)]) (by simp) (by simp[go_sem]) ?_
    refine(FW _ (rf.1.out) (rf.2.out)).mono ?_
    rintro e u' Cq ⟨rfl,rfl,rfl⟩
    have r0:=Ed.out.cell 0
    have r1:=Ed.out.cell 1
    have r2:=Ed.out.cell 2
    have r3:=Ed.out.cell 3
    simp only[List.getElem?_cons_zero,List.getElem?_cons_succ]at r0 r1 r2 r3
    exact⟨.tuple #[.agg #[.int .i64 x1,.int .i64 x2,.int .i64 x3,.int .i64 x4],.int .i64 er],by simp[results,Tryz.results15,go_sem,r0,r1,r2,r3],dj.out⟩
def tr(r:Rt)(i:Nat):Rt:={r with pos:=i}
def dJ(w:World)(G:Nat→Prop)(p:Wp)(F:Fs)(n x:Nat)(r:Rt)(l:List AB)(base pos cnt:Nat)(v:Value)(wr:World):Prop:=
 ∃G' D' ws,Sys wr G' p (IX F F.S r.b D') (n+pos)∧DI wr x p (tr r pos) F.D.size ws∧J8 G' x (tr r pos)∧AL G w wr∧(∀k,G' k→G k∨w.heap.size≤k)∧DM F.D D' (AA r.h pos)∧(∀i,D'.now i=F.D.now i)∧uB D' (tr r pos) l ws∧
  wr.ownsRow base 63 5 v cnt (AY (l.take cnt))∧(∀k,v.ownBlock=some k→¬G' k)∧base≤wr.heap.size
structure Ws (w:World) (F:Fs) (n x:Nat) (r:Rt) (l:List AB) (base:Nat):Prop where
 n:n+r.count+1≤1000000
 ok:Ft {r with pos:=0} F.D.size
 blocks:r.blocks=AA r.h r.count
 hx:w.heap.size≤x
 hb:w.heap.size≤r.b
 hg:w.heap.size≤r.g
 st:∀q∈F.A.st,q.1<w.heap.size
 Co:x<base∧r.b<base∧r.g<base
section
variable {w wr : World} {G : Nat → Prop} {p : Wp} {F : Fs} {n x : Nat} {r : Rt} {l : List AB} {base pos cnt : Nat} {v : Value}
theorem Ws.at_(hk:Ws w F n x r l base)(hp:pos≤r.count):Ft (tr r pos) F.D.size:=⟨hk.ok.k,hk.ok.h,hk.ok.sz,⟨hk.ok.count.1,hp⟩,hk.ok.first⟩
theorem Ws.words(hk:Ws w F n x r l base)(D':St):wordsAt (IX F F.S r.b D').A.st r.b=some F.D.size:=
 Dd _ _ _ fun q hq e=>by have:=hk.st q hq;have:=hk.hb;omega
theorem dJ.below(h:dJ w G p F n x r l base pos cnt v wr){W:World}(hb:Below wr.heap.size wr W):dJ w G p F n x r l base pos cnt v W:=by
 obtain⟨G',D',ws,h1,h2,h3,h4,h5,h6,h7,h8,h9,FJ,LJ⟩:=h
 exact⟨G',D',ws,h1.below hb,h2.below hb,h3,h4.trans (AL.AJ hb fun _=>False) fun _ hf=>hf.elim,h5,h6,h7,h8,BZ h9 hb,FJ,Nat.le_trans LJ hb.size⟩
theorem MN{h i:Nat}(hh:0<h):AA h (i+1)=if i%h=0 then AA h i+1 else AA h i:=by
 have h1:=(MM (c:=i) hh).2.2
 have h2:=Bj (c:=i+1) hh (by omega)
 by_cases h0:i%h=0
 ·rw[if_pos h0,Ec h0];omega
 ·rw[if_neg h0]
  unfold AA at h1 h2⊢
  rw[if_pos (show 0<i%h by omega)]
  omega
end
def sliceLen:Value→Nat
 |.slice _ n _=>n
 | _=>0
theorem aO{w:World}{base n:Nat}{v:Value}{l:List AB}(h:w.ownsRow base 63 5 v n (AY l)):sliceLen v=n:=by
 obtain⟨_,h2⟩:=h
 rcases h2 with⟨rfl,rfl⟩|⟨g,cap,cur,rfl,_⟩<;>rfl
theorem Yu(b j:Nat):(⟨b,0,none⟩:Addr).add j=⟨b,j,none⟩:=by unfold Addr.add;split<;>simp_all
theorem ld{wd wa ws:World}{d a s n:Nat}{D:St}{A:Ar}{S:Sp}{Gd Ga Gs:Nat→Prop}(hd:IY wd Gd d D n)(Am:Below wd.heap.size wd wa)(ha:FO wa Ga a A)(hga:∀k,Ga k→wd.heap.size≤k)(hst:A.st=[])(AZ:Below wa.heap.size wa ws)(hs:Es ws Gs s S)(kN:∀k,Gs k→wa.heap.size≤k):
  Sys (ws.alloc (.cells #[ptr d,ptr a,ptr s] 70)) (fun k=>k=ws.heap.size∨Gd k∨Ga k∨Gs k) ⟨ws.heap.size,d,a,s⟩ ⟨D,A,S⟩ n:=by
 have A8:Below ws.heap.size ws (ws.alloc (.cells #[ptr d,ptr a,ptr s] 70)):=(Below.refl _ _).alloc (Nat.le_refl _) _
 have z1:=Am.size
 have z2:=AZ.size
 refine⟨Gd,Ga,Gs,heap_alloc_new _ _,((hd.below Am).below (AZ.mono (Nat.le_refl _))).below A8,?_,?_,fun k=>Iff.rfl,fun k hk=>⟨fun h=>?_,fun h=>?_,fun h=>?_⟩,fun k hk=>⟨fun h=>?_,fun h=>?_⟩,fun k hk h=>?_,fun q hq=>?_⟩
 ·exact(ha.Cc (AL.AJ AZ fun _=>False) (fun _ _ h=>h) (fun _ _ h=>h)).Cc (AL.AJ A8 fun _=>False) (fun _ _ h=>h) (fun _ _ h=>h)
 ·exact hs.below A8
 ·have:=hd.lt hk;have:=hga k h;omega
 ·have:=hd.lt hk;have:=kN k h;omega
 ·have:=hd.lt hk;simp only at h;omega
 ·have:=ha.lt hk;have:=kN k h;omega
 ·have:=ha.lt hk;simp only at h;omega
 ·have:=hs.lt hk;simp only at h;omega
 ·rw[show (⟨D,A,S⟩:Fs).A.st=[]from hst]at hq;cases hq
theorem Zd{w:World}{G:Nat→Prop}{p:Wp}{F:Fs}{n:Nat}(h:Sys w G p F n)(f m:Nat)(hf:f≤100000000)(hm:m≤100000000):
  Calls Tryz.prog 78 #[.pointer (some ⟨p.s,0,none⟩),.int .i64 f,.int .i64 m] w fun e w'=>e=.returned (.int .i64 ((CY F.S f m).2:Nat))∧AR w G p {F with S:=(CY F.S f m).1} n w':=by
 obtain⟨Gs,hs,IN⟩:=h.pX
 exact(TV p.s F.S Gs f m w hs (Fv.of (by omega) (by omega)) (Fv.of (by omega) (by omega))).mono fun e w' ⟨he,h1⟩=>⟨he,IN _ _ h1⟩
theorem QM{w:World}{G:Nat→Prop}{p:Wp}{F:Fs}{n:Nat}(h:Sys w G p F n)(f m k c:Nat)(hf:f≤100000000)(hm:m≤100000000):
  Calls Tryz.prog 49 #[.pointer (some ⟨p.w,0,none⟩),.agg #[.int .i64 f,.int .i64 m,.int .i64 k,.int .i64 c]] w fun e w'=>e=.returned (.int .i64 (if m=0 then 0 else (CY F.S f m).2:Nat))∧AR w G p {F with S:=Ay F.S f m} n w':=by
 have hb:=(Below.refl w.heap.size w).alloc (Nat.le_refl _) (.cells #[.int .i64 f,.int .i64 m,.int .i64 k,.int .i64 c] 39)
 have DP:Row (w.alloc (.cells #[.int .i64 f,.int .i64 m,.int .i64 k,.int .i64 c] 39)) w.heap.size 39 [.int .i64 f,.int .i64 m,.int .i64 k,.int .i64 c]:=heap_alloc_new _ _
 by_cases hm0:m=0
 ·subst hm0
  have c1:(w.alloc (.cells #[.int .i64 f,.int .i64 (0:Nat),.int .i64 k,.int .i64 c] 39)).cell? ⟨w.heap.size,1,none⟩=some (.int .i64 (0:Nat)):=DP.cell 1
  have HP:Hid (AR w G p {F with S:=Ay F.S f 0} n (w.alloc (.cells #[.int .i64 f,.int .i64 (0:Nat),.int .i64 k,.int .i64 c] 39))):=AR.AJ h hb
  clear DP hb h
  generalize AR w G p {F with S:=Ay F.S f 0} n=FK at*
  go_enter Tryz.func49,Tryz.ntmps49
  go_wp2
  go_ret
  exact⟨rfl,HP.out⟩
 ·have HB:=Lib.hid hb
  have pN:Hid (Calls Tryz.prog 78 #[.pointer (some ⟨p.s,0,none⟩),.int .i64 f,.int .i64 m] (w.alloc (.cells #[.int .i64 f,.int .i64 m,.int .i64 k,.int .i64 c] 39)).drew fun e w'=>e=.returned (.int .i64 ((CY F.S f m).2:Nat))∧AR w G p {F with S:=Ay F.S f m} n w'∧(w'.cell? ⟨w.heap.size,0,none⟩=some (.int .i64 f)∧w'.cell? ⟨w.heap.size,1,none⟩=some (.int .i64 m)∧w'.cell? ⟨p.w,2,none⟩=some (.pointer (some ⟨p.s,0,none⟩)))):=by
   have e:Ay F.S f m=(CY F.S f m).1:=by unfold Ay;rw[if_neg hm0]
   rw[e]
   exact(Zd (h.below (AG hb)) f m hf hm).mono fun e w' ⟨h1,h2⟩=>by
    have hr:=h2.row (DP.drewN 1) (fun hg=>by have:=h.lt hg;omega)
    exact⟨h1,h2.behind (AG hb),hr.cell 0,hr.cell 1,h2.cell.2.2⟩
  have c0:(w.alloc (.cells #[.int .i64 f,.int .i64 m,.int .i64 k,.int .i64 c] 39)).drew.cell? ⟨w.heap.size,0,none⟩=some (.int .i64 f):=DP.cell 0
  have c1:(w.alloc (.cells #[.int .i64 f,.int .i64 m,.int .i64 k,.int .i64 c] 39)).cell? ⟨w.heap.size,1,none⟩=some (.int .i64 m):=DP.cell 1
  have d1:(w.alloc (.cells #[.int .i64 f,.int .i64 m,.int .i64 k,.int .i64 c] 39)).drew.cell? ⟨w.heap.size,1,none⟩=some (.int .i64 m):=DP.cell 1
  have c2:(w.alloc (.cells #[.int .i64 f,.int .i64 m,.int .i64 k,.int .i64 c] 39)).drew.cell? ⟨p.w,2,none⟩=some (.pointer (some ⟨p.s,0,none⟩)):=(h.below hb).row.cell 2
  have g1:((m:Int)==0)=false:=by simp;omega
  rw[if_neg hm0]
  clear DP hb h
  generalize AR w G p {F with S:=Ay F.S f m} n=FK at*
  generalize(CY F.S f m).2=er at*
  go_enter Tryz.func49,Tryz.ntmps49
  go_wp2
  go_region_held3 (fun w'=>w'.cell? ⟨w.heap.size,0,none⟩=some (.int .i64 f)∧w'.cell? ⟨w.heap.size,1,none⟩=some (.int .i64 m)∧w'.cell? ⟨p.w,2,none⟩=some (.pointer (some ⟨p.s,0,none⟩))) (first|with_reducible exact⟨c0,d1,c2⟩|with_reducible exact q2)
   (first
    |(go_at_call 78;(with_reducible refine pN.out.mono ?_);rintro e w2 ⟨rfl,h2,q2⟩))
  have H2:=Lib.hid h2
  clear h2 q2
  go_wp2
  go_ret
  exact⟨rfl,H2.out⟩
theorem SD{S S1:Sp}{a m:Nat}(h:S.ok)(ht:G7 S S1 a m){b:Int}(hb:((S.first+S.blocks:Nat):Int)≤b):((a+m:Nat):Int)≤b:=by
 rcases Zb h ht with h1|⟨rfl,rfl⟩<;>omega
theorem Ym{w w':World}{G:Nat→Prop}{p:Wp}{F:Fs}{n:Nat}{t:Wt}{l:List AB}{er:Int}(h:K9 w G p F n t l er w')(hc:Calm F.D)(PI:((t.first+t.blocks:Nat):Int)≤F.D.blocks):False:=by
 obtain⟨hne,D1,m,i,ws,h1,h2,h3,h4,_⟩:=h
 rw[h2,ZN (h1.calm hc) (h3 PI) h4]at hne
 exact hne rfl
theorem Zs{t:AB}(h:∀x∈t.Bb,0≤x∧x≤1000):BX t:=fun x hx=>Fv.of (by have:=h x hx;omega) (by have:=h x hx;omega)
theorem Jt{m n:Nat}(h:m≤n):JY (Be 0 n) 0 m:=by
 intro b _ hb
 unfold Be
 simp only
 rw[if_neg (by omega)]
 exact⟨(0,n),by simp,by simp,by simp;omega⟩
theorem Ui{m n k:Nat}(hm:0<m)(h:n<m):¬JY (Be 0 n) k m:=by
 intro hr
 obtain⟨x,hx,h1,h2⟩:=hr (k+m-1) (by omega) (by omega)
 unfold Be at hx
 simp only at hx
 split at hx
 ·cases hx
 ·simp only[List.mem_singleton]at hx;subst hx
  simp only at h1 h2
  omega
theorem aZ{w w':World}{G:Nat→Prop}{p:Wp}{F:Fs}{n:Nat}{width:Int}{l:List AB}{e:Ending}(h:dL w G p F n width l e w')(rZ:F.S.ok)(hc:Calm F.D)(PI:((F.S.first+F.S.blocks:Nat):Int)≤F.D.blocks)(ha:Fo F width (l.length:Int))(hroom:F.D.size≤F.A.room-F.A.used)
  (hsp:∃k,JY F.S k (AA (AH F.D.size width) l.length)) (hfit:∀k:Nat,(k:Int)=width→∀u∈l,Af k u=true):
  ∃t S1,e=.returned (.tuple #[DA t.first t.blocks t.k l.length,.int .i64 0])∧M9 w G p F n t S1 l w'∧(t.k:Int)=width∧t.h=AH F.D.size width∧t.blocks=AA t.h l.length∧G7 F.S S1 t.first t.blocks∧t.first≤2000000∧∀q∈F.A.st,q.1≠t.b:=by
 rcases h with⟨er,_,(⟨_,h1⟩|⟨_,_,h1⟩|⟨_,_,_,_,h1⟩),_⟩|⟨t,S1,⟨_,_,h3,h4,h5,h6,h7,h8⟩,⟨er,_,_,⟨u,hu,hf⟩,_⟩|⟨er,_,hd⟩|⟨he,hd⟩⟩
 ·exact absurd ha h1
 ·omega
 ·obtain⟨k,hk⟩:=hsp
  exact absurd hk (h1 k)
 ·rw[hfit t.k h3 u hu]at hf;cases hf
 ·exact(Ym hd hc (SD rZ h6 PI)).elim
 ·exact⟨t,S1,he,hd,h3,h4,h5,h6,h7,h8⟩
def Fw(w0:World)(p:Wp)(F:Fs)(n:Nat)(rs:List (Nat×TypeId×List Value))(W:World):Prop:=
 ∃G,Sys W G p F n∧(∀k,G k→w0.heap.size≤k)∧Below w0.heap.size w0 W∧∀r∈rs,Row W r.1 r.2.1 r.2.2∧¬G r.1∧r.2.1≠126
section
variable {w0 W : World} {p : Wp} {F : Fs} {n : Nat} {rs : List (Nat × TypeId × List Value)}
theorem Fw.size(h:Fw w0 p F n rs W):w0.heap.size≤W.heap.size:=by obtain⟨G,_,_,h,_⟩:=h;exact h.size
theorem Fw.O3(h:Fw w0 p F n rs W):Below w0.heap.size w0 W:=by obtain⟨G,_,_,h,_⟩:=h;exact h
theorem Fw.V0(h:Fw w0 p F n rs W):F.S.ok:=by obtain⟨G,h,_⟩:=h;exact h.V0
theorem Fw.below(h:Fw w0 p F n rs W){W':World}(hb:Below W.heap.size W W'):Fw w0 p F n rs W':=by
 obtain⟨G,h1,h2,h3,h4⟩:=h
 exact⟨G,h1.below hb,h2,h3.trans (hb.mono h3.size),fun r hr=>⟨(h4 r hr).1.below hb (h4 r hr).1.lt,(h4 r hr).2⟩⟩
theorem Fw.row(h:Fw w0 p F n rs W){r:Nat×TypeId×List Value}(hr:r∈rs):Row W r.1 r.2.1 r.2.2:=by obtain⟨G,_,_,_,h4⟩:=h;exact(h4 r hr).1
theorem Fw.to(h:Fw w0 p F n rs W){W':World}{F':Fs}{n':Nat}(hs:∀G,Sys W G p F n→(∀k,G k→w0.heap.size≤k)→AR W G p F' n' W'):Fw w0 p F' n' rs W':=by
 obtain⟨G,h1,h2,h3,h4⟩:=h
 obtain⟨G',k1,k2,k3,k4⟩:=(hs G h1 h2).apart
 have z:=h3.size
 exact⟨G',k1,fun k hk=>(k3 k hk).elim (h2 k) fun h=>by omega,h3.trans (k2.below z fun k hk=>h2 k hk),fun r hr=>⟨k2.row (h4 r hr).1 (h4 r hr).2.1,k4 _ (h4 r hr).1.lt (h4 r hr).2.1,(h4 r hr).2.2⟩⟩
theorem Fw.call(h:Fw w0 p F n rs W){f:FuncId}{args:Array Value}{A:Ending→Prop}{F':Fs}{n':Nat}(hc:∀G,Sys W G p F n→(∀k,G k→w0.heap.size≤k)→Calls Tryz.prog f args W fun e w'=>A e∧AR W G p F' n' w'):
  Calls Tryz.prog f args W fun e w'=>A e∧Fw w0 p F' n' rs w':=by
 obtain⟨G,h1,h2,h3,h4⟩:=id h
 refine(hc G h1 h2).mono ?_
 rintro e w' ⟨ha,k⟩
 refine⟨ha,?_⟩
 obtain⟨G',k1,k2,k3,k4⟩:=k.apart
 have z:=h3.size
 exact⟨G',k1,fun k hk=>(k3 k hk).elim (h2 k) fun h=>by omega,h3.trans (k2.below z fun k hk=>h2 k hk),fun r hr=>⟨k2.row (h4 r hr).1 (h4 r hr).2.1,k4 _ (h4 r hr).1.lt (h4 r hr).2.1,(h4 r hr).2.2⟩⟩
theorem Fw.alloc(h:Fw w0 p F n rs W)(t:TypeId)(ht:t≠126)(cs:Array Value):Fw w0 p F n ((W.heap.size,t,cs.toList)::rs) (W.alloc (.cells cs t)):=by
 have hb:Below W.heap.size W (W.alloc (.cells cs t)):=(Below.refl _ _).alloc (Nat.le_refl _) _
 obtain⟨G,h1,h2,h3,h4⟩:=h
 refine⟨G,h1.below hb,h2,h3.trans (hb.mono h3.size),fun r hr=>?_⟩
 rcases List.mem_cons.1 hr with rfl|hr
 ·exact⟨heap_alloc_new _ _,fun hg=>Nat.lt_irrefl _ (h1.lt hg),ht⟩
 ·exact⟨(h4 r hr).1.below hb (h4 r hr).1.lt,(h4 r hr).2⟩
end
theorem Pb{S S1:Sp}{a m:Nat}(ht:G7 S S1 a m):Az S1.fr+m=Az S.fr:=by
 rcases ht with⟨rfl,_,rfl⟩|⟨hm,ht,_⟩
 ·rfl
 ·exact ht.sum
theorem Pq(n:Nat):Az (Be 0 n).fr=n:=by
 unfold Be Az
 simp only
 split<;>simp_all
theorem Sn{n a m:Nat}{S1:Sp}(ht:G7 (Be 0 n) S1 a m):a=0∧m≤n:=by
 rcases ht with⟨rfl,rfl,rfl⟩|⟨hm,ht,hl⟩
 ·exact⟨rfl,Nat.zero_le _⟩
 ·have h1:m≤n:=by
   rcases Nat.lt_or_ge n m with h|h
   ·exact absurd ht.room (Ui hm h)
   ·exact h
  exact⟨Nat.le_zero.1 (hl 0 (Jt h1)),h1⟩
theorem X9(F:Fs)(S':Sp)(b:Nat)(D':St):(L2 F S' b D').A.used=F.A.used:=by
 show F.A.used+F.D.size-F.D.size=F.A.used
 omega
theorem YA(F:Fs)(S':Sp)(b:Nat)(D':St):(L2 F S' b D').A.room=F.A.room:=rfl
theorem VH{w:World}{G:Nat→Prop}{p:Wp}{F:Fs}{n x:Nat}{r:Rt}{ws:List Nat}{l:List AB}(h:Sys w G p F n)(hn:n<1000000)(hok:Ft r F.D.size)(hm:DI w x p r F.D.size ws)(ho:J8 G x r)(hc:l.length=r.count)(B6:r.pos<r.count)
  (zI:r.pos%r.h=0→(read F.D ((r.first+r.pos/r.h:Nat):Int)).1=0∧F.D.now ((r.first+r.pos/r.h:Nat):Int)=DK F.D.size (r.first+r.pos/r.h) r.k (FG r.h r.k l (r.pos/r.h)))
  (N7:r.pos%r.h≠0→ws.take (min r.h (r.count-r.pos/r.h*r.h)*r.k)=FG r.h r.k l (r.pos/r.h)) {t:AB} (ht:l[r.pos]?=some t) (hto:BX t) (rR:Af r.k t=true):
  Calls Tryz.prog 52 #[.pointer (some ⟨x,0,none⟩)] w fun e w'=>e=.returned (.tuple #[.agg #[.int .i64 t.a,.int .i64 t.b,.int .i64 t.c,.int .i64 t.d,.int .i64 t.e],.bool true,.int .i64 0])∧
   ∃Bz,GU w G p {F with D:=V9 F.D r} (n+1) x {r with pos:=r.pos+1} Bz w'∧Bz.take (min r.h (r.count-r.pos/r.h*r.h)*r.k)=FG r.h r.k l (r.pos/r.h):=by
 unfold V9
 have hsz:=hok.sz
 by_cases D8:r.pos%r.h=0
 ·rw[if_pos D8]
  obtain⟨he,hs⟩:=zI D8
  have Bm:(FG r.h r.k l (r.pos/r.h)).length=min r.h (r.count-r.pos/r.h*r.h)*r.k:=by rw[Xr hok.k.2,hc]
  have hle:(FG r.h r.k l (r.pos/r.h)).length≤F.D.size-2:=Nat.le_trans (fq hok.k.2 l _) hok.h.2.1
  have g1:okW (F.D.now ((r.first+r.pos/r.h:Nat):Int)) (r.first+r.pos/r.h)=true:=by rw[hs];exact fW hle (by omega)
  have g2:LU (F.D.now ((r.first+r.pos/r.h:Nat):Int))=r.k:=by rw[hs];exact SN hle (by omega)
  have g3:Ce (F.D.now ((r.first+r.pos/r.h:Nat):Int))-1=min r.h (r.count-r.pos/r.h*r.h)*r.k:=by rw[hs,SO hle (by omega),Bm,Nat.add_sub_cancel]
  have g4:(F.D.now ((r.first+r.pos/r.h:Nat):Int)).take (min r.h (r.count-r.pos/r.h*r.h)*r.k)=FG r.h r.k l (r.pos/r.h):=by rw[hs,←Bm];exact Pm
  have hsp:(splice ws 0 ((F.D.now ((r.first+r.pos/r.h:Nat):Int)).take (min r.h (r.count-r.pos/r.h*r.h)*r.k))).take (min r.h (r.count-r.pos/r.h*r.h)*r.k)=FG r.h r.k l (r.pos/r.h):=by
   rw[g4];unfold splice
   rw[List.take_zero,List.nil_append,List.take_left' Bm]
  have D9:=VI h hok hm ho B6 (Fa F.D ((r.first+r.pos/r.h:Nat):Int) 0).2.1 D8 fun W hb=>Xo (h.below hb) hn hok (hm.below hb) ho B6 he g1 g2 g3
  rw[Re hok.k.2 hok.h.1 B6 hc hsp ht hto rR]at D9
  exact D9.mono fun e w' ⟨h1,h2⟩=>⟨h1,_,h2,hsp⟩
 ·rw[if_neg D8]
  have hb:=N7 D8
  have D9:=QH h hok hm ho B6 D8
  rw[Re hok.k.2 hok.h.1 B6 hc hb ht hto rR]at D9
  exact D9.mono fun e w' ⟨h1,G',k1,k2⟩=>⟨h1,_,⟨G',k1.mono (by omega) (by omega),k2⟩,hb⟩
def Ji(w0:World)(p:Wp)(F:Fs)(n:Nat)(rs:List (Nat×TypeId×List Value))(x:Nat)(r:Rt)(ws:List Nat)(W:World):Prop:=
 ∃G,Sys W G p F n∧(∀k,G k→w0.heap.size≤k)∧Below w0.heap.size w0 W∧(∀q∈rs,Row W q.1 q.2.1 q.2.2∧¬G q.1∧q.2.1≠126∧q.2.1≠127∧q.2.1≠140)∧DI W x p r F.D.size ws∧J8 G x r∧w0.heap.size≤x∧w0.heap.size≤r.b∧w0.heap.size≤r.g
section
variable {w0 W : World} {p : Wp} {F : Fs} {n x : Nat} {rs : List (Nat × TypeId × List Value)} {r : Rt} {ws : List Nat}
theorem Ji.below(h:Ji w0 p F n rs x r ws W){W':World}(hb:Below W.heap.size W W'):Ji w0 p F n rs x r ws W':=by
 obtain⟨G,h1,h2,h3,h4,h5,h6⟩:=h
 exact⟨G,h1.below hb,h2,h3.trans (hb.mono h3.size),fun q hq=>⟨(h4 q hq).1.below hb (h4 q hq).1.lt,(h4 q hq).2⟩,h5.below hb,h6⟩
theorem Ji.base(h:Ji w0 p F n rs x r ws W):Fw w0 p F n rs W:=by
 obtain⟨G,h1,h2,h3,h4,_⟩:=h
 exact⟨G,h1,h2,h3,fun q hq=>⟨(h4 q hq).1,(h4 q hq).2.1,(h4 q hq).2.2.1⟩⟩
theorem Ji.Cc{W':World}{G:Nat→Prop}(h3:Below w0.heap.size w0 W)(h2:∀k,G k→w0.heap.size≤k)(h4:∀q∈rs,Row W q.1 q.2.1 q.2.2∧¬G q.1∧q.2.1≠126∧q.2.1≠127∧q.2.1≠140)(h5:DI W x p r F.D.size ws)(h7:w0.heap.size≤x∧w0.heap.size≤r.b∧w0.heap.size≤r.g){R:Nat→Prop}
  (hf:AL R W W') (hR:∀k,R k→G k∨k=x∨k=r.b∨k=r.g):Below w0.heap.size w0 W'∧∀q∈rs,Row W' q.1 q.2.1 q.2.2:=by
 refine⟨h3.trans (hf.below h3.size fun k hk=>?_),fun q hq=>hf.row (h4 q hq).1 fun hk=>?_⟩
 ·rcases hR k hk with h|rfl|rfl|rfl
  ·exact h2 k h
  ·exact h7.1
  ·exact h7.2.1
  ·exact h7.2.2
 ·obtain⟨hr,hg,t1,t2,t3⟩:=h4 q hq
  rcases hR _ hk with h|h|h|h
  ·exact hg h
  ·exact t3 (hr.typed (h▸h5.row))
  ·exact t1 (hr.typed (h▸h5.buf))
  ·exact t2 (hr.typed (h▸h5.words))
theorem Ji.row(h:Ji w0 p F n rs x r ws W){q:Nat×TypeId×List Value}(hq:q∈rs):Row W q.1 q.2.1 q.2.2:=by obtain⟨G,_,_,_,h4,_⟩:=h;exact(h4 q hq).1
theorem Ji.O3(h:Ji w0 p F n rs x r ws W):Below w0.heap.size w0 W:=by obtain⟨G,_,_,h3,_⟩:=h;exact h3
end
theorem FV(l:List (Nat×Nat))(x y n m:Nat)(h:wordsAt l x=some n):wordsAt (l++[(y,m)]) x=some n:=by
 induction l with
 |nil=>simp[wordsAt]at h
 |cons q l ih=>
  simp only[List.cons_append,wordsAt]at h⊢
  split
  ·rename_i h1;rw[if_pos h1]at h;exact h
  ·rename_i h1;rw[if_neg h1]at h;exact ih h
theorem Bw:∀(l:List (Nat×Nat)) (x y n:Nat),wordsAt l x=some n→x≠y→wordsAt (CS l y) x=some n
 |[],x,y,n,h,_=>by simp[wordsAt]at h
 |q::l,x,y,n,h,hne=>by
  simp only[wordsAt]at h
  simp only[CS]
  by_cases h1:q.1=y
  ·rw[if_pos h1]
   rw[if_neg (by rw[h1];exact fun e=>hne e.symm)]at h;exact h
  ·rw[if_neg h1]
   simp only[wordsAt]
   by_cases h2:q.1=x
   ·rw[if_pos h2]at h⊢;exact h
   ·rw[if_neg h2]at h⊢;exact Bw l x y n h hne
structure qR (w0 W:World) (G:Nat→Prop) (p:Wp) (F:Fs) (x:Nat) (t:Wt):Prop where
 ok:Ca t F.D.size
 mem:Jf W x p t F.D.size
 out:PM G x t
 st:wordsAt F.A.st t.b=some F.D.size
 stand:D5 F.D t
 new:w0.heap.size≤x∧w0.heap.size≤t.b∧w0.heap.size≤t.g
 fit:∀u∈t.l,BX u∧Af t.k u=true
structure z8 (x:Nat) (t:Wt) (x':Nat) (t':Wt):Prop where
 x:x≠x'
 b:t.b≠t'.b
 g:t.g≠t'.g
 ext:∀i,t.first≤i→i<t.first+t.blocks→¬(t'.first≤i∧i<t'.first+t'.blocks)
theorem z8.symm{x x':Nat}{t t':Wt}(h:z8 x t x' t'):z8 x' t' x t:=⟨h.x.symm,h.b.symm,h.g.symm,fun i h1 h2 h3=>h.ext i h3.1 h3.2 ⟨h1,h2⟩⟩
section
variable {w0 W W' : World} {G G' : Nat → Prop} {p : Wp} {F F' : Fs} {n x : Nat} {t : Wt}
theorem qR.lt(h:qR w0 W G p F x t):x<W.heap.size∧t.b<W.heap.size∧t.g<W.heap.size:=by obtain⟨ws,hm,_⟩:=h.mem;exact hm.lt
theorem qR.CL(h:qR w0 W G p F x t){R:Nat→Prop}(hf:AL R W W')(hx:¬R x)(hb:¬R t.b)(hg:¬R t.g)(hG:∀k,G' k→G k∨W.heap.size≤k)(hs:F'.D.size=F.D.size)(hn:∀i:Nat,t.first≤i→i<t.first+t.blocks→F'.D.now i=F.D.now i)(hst:wordsAt F'.A.st t.b=some F.D.size):qR w0 W' G' p F' x t:=by
 obtain⟨l1,l2,l3⟩:=h.lt
 obtain⟨ws,hm,hh⟩:=h.mem
 refine⟨by rw[hs];exact h.ok,⟨ws,by rw[hs];exact hm.Cc hf hx hb hg,hh⟩,⟨fun k=>(hG _ k).elim h.out.x (Nat.not_le_of_lt l1),fun k=>(hG _ k).elim h.out.b (Nat.not_le_of_lt l2),fun k=>(hG _ k).elim h.out.g (Nat.not_le_of_lt l3)⟩,by rw[hs];exact hst,fun j hj=>?_,h.new,h.fit⟩
 have nP:j<t.blocks:=by
  have h1:=Aq (h:=t.h) h.ok.h.1 h.ok.bound.2
  rw[←h.ok.blocks.1]at h1
  have h2:t.l.length/t.h≤AA t.h t.l.length:=by unfold AA;split<;>omega
  omega
 rw[hn _ (by omega) (by omega),hs]
 exact h.stand j hj
theorem XF(h:Sys W G p F n)(width bound:Int)(hb0:Below w0.heap.size w0 W):Calls Tryz.prog 37 #[.pointer (some ⟨p.w,0,none⟩),.int .i64 width,.int .i64 bound] W fun e w'=>
  (∃er,e=.returned (.tuple #[.pointer none,.int .i64 er])∧oQ F width bound er∧AR W G p F n w')∨
  (∃x t S' G',e=.returned (.tuple #[.pointer (some ⟨x,0,none⟩),.int .i64 0])∧Fo F width bound∧F.D.size≤F.A.room-F.A.used∧(t.k:Int)=width∧(t.bound:Int)=bound∧t.h=AH F.D.size width∧t.l=[]∧G7 F.S S' t.first t.blocks∧(∀q∈F.A.st,q.1≠t.b)∧
   Sys w' G' p {F with S:=S',A:=Bv F.A t.b F.D.size} n∧qR w0 w' G' p {F with S:=S',A:=Bv F.A t.b F.D.size} x t∧AL G W w'∧(∀k,G' k→G k∨W.heap.size≤k)∧W.heap.size≤x∧W.heap.size≤t.b∧W.heap.size≤t.g):=by
 refine(OF h width bound).mono ?_
 rintro e w' (⟨er,he,hw,hs⟩|⟨x,t,S1,he,Y9,Ip,RN,gV,pq,bA,gU,ZB,hok,k1,k2,k3,G1,k4,k5,k6,k7,k8⟩)
 ·exact .inl ⟨er,he,hw,hs⟩
 ·have z:=hb0.size
  have hq:∀q∈F.A.st,q.1≠t.b:=fun q hq e=>by have:=(h.buf hq).1.lt;omega
  exact .inr ⟨x,t,S1,G1,he,Y9,Ip,RN,gV,pq,bA,ZB,hq,k4,⟨hok,k5,k6,Dd _ _ _ hq,NC bA,⟨by omega,by omega,by omega⟩,fun u hu=>by rw[bA]at hu;cases hu⟩,k7,k8,k1,k2,k3⟩
end
end Go.Proofs.YteldegofbbfaeaaGreat
