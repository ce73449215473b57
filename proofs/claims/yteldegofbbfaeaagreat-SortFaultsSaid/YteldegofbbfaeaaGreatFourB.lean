/- What the laws stand on. -/
import Derived.Test.YteldegofbbfaeaaGreatFourA
namespace Go.Proofs.YteldegofbbfaeaaGreat
set_option linter.unusedVariables false
set_option maxRecDepth 100000
set_option maxHeartbeats 8000000
open Go.ChangeShapes Go.WideShapes Go.ChangeAt Go.RowKit
open Go.Joins Go.Deep
open Go.ChangeShapes Go.WideShapes Go.ChangeAt Go.RowKit Go.Maps
open Go.ChangeMaps (setBlock heap_setBlock_same heap_setBlock_other)
theorem Next.refl{w:World}{G:Nat→Prop}{p:Nat}{s:Sp}(h:EZ w G p s):Next w G p s w:=Next.AJ h (Below.refl _ _)
theorem SR(p:Nat)(s:Sp)(G:Nat→Prop)(f n:Int)(w:World)(h:EZ w G p s)(hf:Ff f)(hn:Ff n):
  Calls Tryz.prog 78 #[.pointer (some ⟨p,0,none⟩),.int .i64 f,.int .i64 n] w fun e w'=>e=.returned (.int .i64 ((CO s f n).2:Nat))∧Next w G p (CO s f n).1 w':=by
 by_cases h1:n<1
 ·have g1:decide (n<1)=true:=by simpa using h1
  have Jp:CO s f n=(s,1):=by unfold CO;rw[if_pos (.inl h1)]
  rw[Jp]
  have HN:Hid (Next w G p s w):=Next.refl h
  clear h h1 Jp
  go_enter Tryz.func78,Tryz.ntmps78
  go_wp2
  go_ret
  exact⟨rfl,HN.out⟩
 have g1:decide (n<1)=false:=by simpa using h1
 obtain⟨hok,v,hr,ho,hG⟩:=id h
 obtain⟨A,c,rfl,hnc,DP,_⟩:=AS ho
 have hlen:=hok.len
 have Lx:s.first+s.blocks≤2000000:=by have:=hok.1;have:=hok.2.1;omega
 have c0:w.cell? ⟨p,0,none⟩=some (.int .i64 s.first):=hr.cell 0
 have c1:w.cell? ⟨p,1,none⟩=some (.int .i64 s.blocks):=hr.cell 1
 have c2:w.cell? ⟨p,2,none⟩=some (.slice A s.fr.length c):=hr.cell 2
 have Dy:=hr.lt
 have HH:Hid (∀W,Calls Tryz.prog 90 #[.agg #[.int .i64 s.first,.int .i64 s.blocks],.int .i64 f,.int .i64 n] W fun e w'=>e=.returned (.bool (decide ((s.first:Int)≤f)&&decide (n≤((s.first+s.blocks:Nat):Int)-f)))∧Below W.heap.size W w'):=fun W=>O5 s.first s.blocks f n W (by omega) hf
 by_cases h2:¬((s.first:Int)≤f∧n≤((s.first+s.blocks:Nat):Int)-f)
 ·have aK:(decide ((s.first:Int)≤f)&&decide (n≤((s.first+s.blocks:Nat):Int)-f))=false:=by
   cases hq:(decide ((s.first:Int)≤f)&&decide (n≤((s.first+s.blocks:Nat):Int)-f))with
   |false=>rfl
   |true=>simp only[Bool.and_eq_true,decide_eq_true_eq]at hq;exact absurd hq h2
  have Jp:CO s f n=(s,1):=by unfold CO;rw[if_pos (.inr (.inl h2))]
  rw[Jp]
  have YH:=Lib.hid aK
  have H:=Lib.hid h
  generalize s.fr.length=N at*
  clear h h1 h2 Jp aK hok hr ho hG
  go_enter Tryz.func78,Tryz.ntmps78
  go_wp2_with fail
  refine(HH.out _).mono ?_
  rintro e w2 ⟨rfl,AX⟩
  rw[YH.out]
  have HX:Hid (Next w G p s w2):=Next.AJ H.out AX
  clear AX
  go_wp2
  go_ret
  exact⟨rfl,HX.out⟩
 have h2:=Classical.not_not.1 h2
 obtain⟨f,rfl⟩:∃f':Nat,f=(f':Int):=⟨f.toNat,by omega⟩
 obtain⟨n',rfl⟩:∃n':Nat,n=(n':Int):=⟨n.toNat,by omega⟩
 have aK:(decide ((s.first:Int)≤(f:Int))&&decide ((n':Int)≤((s.first+s.blocks:Nat):Int)-(f:Int)))=true:=by simp only[Bool.and_eq_true,decide_eq_true_eq];exact h2
 have YH:=Lib.hid aK
 have Jp:CO s (f:Int) (n':Int)=if A8 s.fr f<s.fr.length∧(Ad s.fr (A8 s.fr f)).1<f+n' then (s,1)else ({s with fr:=CZ s.fr (A8 s.fr f) f n'},0):=by
  unfold CO
  simp only[Int.toNat_natCast]
  by_cases hq:A8 s.fr f<s.fr.length∧(Ad s.fr (A8 s.fr f)).1<f+n'
  ·rw[if_pos hq,if_pos (.inr (.inr hq))]
  ·rw[if_neg hq,if_neg (by rintro(h3|h3|h3);exact h1 h3;exact h3 h2;exact hq h3)]
 have IZ:s.first≤f:=by omega
 have DZ:f+n'≤s.first+s.blocks:=by omega
 have lN:1≤n':=by omega
 have AD4:f+n'≤2000000:=by omega
 have hno:=Iw hok.2.2 (f:=f) lN
 have uJ:A8 s.fr f≤s.fr.length:=List.findIdx_le_length
 have Q7:Hid (∀W,Below w.heap.size w W→Calls Tryz.prog 89 #[.pointer (some ⟨p,0,none⟩),.int .i64 (f:Int)] W fun e w'=>e=.returned (.int .i64 (A8 s.fr f:Nat))∧Below W.heap.size W w'):=fun W hb=>by
  have:=Ml p s G (f:Int) W (h.below hb)
  rw[Ov]at this
  exact this
 have HJ:Hid (¬(A8 s.fr f<s.fr.length∧(Ad s.fr (A8 s.fr f)).1<f+n')→∀W,Below w.heap.size w W→Calls Tryz.prog 97 #[.pointer (some ⟨p,0,none⟩),.int .i64 (A8 s.fr f:Nat),.agg #[.int .i64 (f:Int),.int .i64 (n':Int)]] W fun e w'=>e=.returned (.tuple #[])∧Next w G p {s with fr:=CZ s.fr (A8 s.fr f) f n'} w'):=fun hq W hb=>
  (Zj p s G (A8 s.fr f) f n' W (h.below hb) rfl IZ DZ lN (hno.2 fun hlt=>by
   rcases Nat.lt_or_ge (Ad s.fr (A8 s.fr f)).1 (f+n')with h3|h3
   ·exact absurd ⟨hlt,h3⟩ hq
   ·exact h3)).mono fun e w' ⟨G',h1,h2⟩=>⟨h1,Next.behind hb ⟨G',h2⟩⟩
 obtain⟨u,hu⟩:∃u,f+n'=u:=⟨_,rfl⟩
 have HE:Hid (∀W,Calls Tryz.prog 96 #[.agg #[.int .i64 (f:Int),.int .i64 (n':Int)]] W fun e w'=>e=.returned (.int .i64 (u:Nat))∧Below W.heap.size W w'):=fun W=>by have:=EF f n' W (by omega);rwa [hu]at this
 rw[hu]at Jp HJ
 have JO:Hid (∀k,k<s.fr.length→∃g,A=some ⟨g,0,none⟩∧g<w.heap.size∧w.cell? ⟨g,k*2,none⟩=some (.int .i64 (Ad s.fr k).1)∧w.cell? ⟨g,k*2+1,none⟩=some (.int .i64 (Ad s.fr k).2)):=fun k hk=>EA ho hk
 have H:=Lib.hid h
 obtain⟨N,hN⟩:∃N,N=s.fr.length:=⟨_,rfl⟩
 rw[←hN]at c2 hlen uJ Jp HJ JO
 have HN:=Lib.hid hN
 generalize CZ s.fr (A8 s.fr f) f n'=R at*
 generalize A8 s.fr f=i at*
 have L2:=fun(W:World) (hb:Below w.heap.size w W)=>(hb.alloc (o:=.cells #[.int .i64 (f:Int),.int .i64 (n':Int)] 80) hb.size)
 have Xx:=Lib.hid L2
 clear h h1 h2 aK hok hr ho hG hno hu Lx hN L2 IZ DZ
 by_cases hlt:i<N
 ·obtain⟨g,rfl,hg,Ht,Gx⟩:=JO.out i hlt
  generalize(Ad s.fr i).1=a at*
  have vp:(0:Int)≤(i:Int):=by omega
  have vo:(i:Int)<(N:Int):=by omega
  have gi:decide ((i:Int)<(N:Int))=true:=by simp;omega
  have gi2:decide (i<N)=true:=by simp;omega
  by_cases xm:a<u
  ·have ga:decide ((a:Int)<(u:Int))=true:=by simp;omega
   have ga2:decide (a<u)=true:=by simp;omega
   rw[if_pos ⟨hlt,xm⟩]at Jp
   rw[Jp]
   dsimp only
   clear Jp HJ
   go_enter Tryz.func78,Tryz.ntmps78
   go_wp2_with fail
   refine(HH.out _).mono ?_
   rintro e w2 ⟨rfl,AX⟩
   rw[YH.out]
   have Cd:=Lib.hid AX
   clear AX
   go_wp2_with fail
   refine(Q7.out _ (Xx.out _ Cd.out)).mono ?_
   rintro e w3 ⟨rfl,A9⟩
   have L2:Row (w2.alloc (.cells #[.int .i64 (f:Int),.int .i64 (n':Int)] 80)) w2.heap.size 80 [.int .i64 (f:Int),.int .i64 (n':Int)]:=heap_alloc_new _ _
   have IA:=L2.below A9 (by simp)
   have Bq:=Lib.hid ((Xx.out _ Cd.out).trans (A9.mono (Xx.out _ Cd.out).size))
   have b0:w3.cell? ⟨w2.heap.size,0,none⟩=some (.int .i64 (f:Int)):=IA.cell 0
   have b1:w3.cell? ⟨w2.heap.size,1,none⟩=some (.int .i64 (n':Int)):=IA.cell 1
   have Ve:=(Bq.out.cell (p:=⟨p,2,none⟩) Dy).trans c2
   have EB:w2.heap.size<w3.heap.size:=IA.lt
   have fA:p<w3.heap.size:=by have:=Bq.out.size;omega
   have d0:=(Bq.out.cell (p:=⟨g,i*2,none⟩) hg).trans Ht
   have Ds:g<w3.heap.size:=by have:=Bq.out.size;omega
   clear A9 L2 IA Cd Q7 HH YH c0 c1 c2 Ht Gx
   go_wp2
   go_region_held3 (fun w'=>Below w3.heap.size w3 w'∧w'.cell? ⟨p,2,none⟩=some (.slice (some ⟨g,0,none⟩) N c)∧w'.cell? ⟨w2.heap.size,0,none⟩=some (.int .i64 (f:Int))∧w'.cell? ⟨w2.heap.size,1,none⟩=some (.int .i64 (n':Int))∧w'.cell? ⟨g,i*2,none⟩=some (.int .i64 (a:Int)))
    (first
     |(exact⟨AG (Below.refl _ _) 1,Ve,b0,b1,d0⟩)
     |(exact⟨hacc,(hacc.cell fA).trans Ve,(hacc.cell EB).trans b0,(hacc.cell EB).trans b1,(hacc.cell Ds).trans d0⟩))
    ((go_split_ands;go_at_call 96;(with_reducible refine(HE.out _).mono ?_);rintro e w4 ⟨rfl,Dz⟩;have hacc:Below w3.heap.size w3 w4:=Below.trans (by assumption) (Below.mono Dz (Below.size (by assumption)))))
   have HX:Hid (Next w G p s w4):=Next.AJ H.out (Bq.out.trans (hacc.mono Bq.out.size))
   clear hacc
   go_wp2
   go_ret
   exact⟨rfl,HX.out⟩
  ·have ga:decide ((a:Int)<(u:Int))=false:=by simp;omega
   have ga2:decide (a<u)=false:=by simp;omega
   rw[if_neg (fun hh=>xm hh.2)]at Jp
   rw[Jp]
   dsimp only
   have HQ:Hid (¬(i<N∧a<u)):=fun hh=>xm hh.2
   clear Jp
   go_enter Tryz.func78,Tryz.ntmps78
   go_wp2_with fail
   refine(HH.out _).mono ?_
   rintro e w2 ⟨rfl,AX⟩
   rw[YH.out]
   have Cd:=Lib.hid AX
   clear AX
   go_wp2_with fail
   refine(Q7.out _ (Xx.out _ Cd.out)).mono ?_
   rintro e w3 ⟨rfl,A9⟩
   have L2:Row (w2.alloc (.cells #[.int .i64 (f:Int),.int .i64 (n':Int)] 80)) w2.heap.size 80 [.int .i64 (f:Int),.int .i64 (n':Int)]:=heap_alloc_new _ _
   have IA:=L2.below A9 (by simp)
   have Bq:=Lib.hid ((Xx.out _ Cd.out).trans (A9.mono (Xx.out _ Cd.out).size))
   have b0:w3.cell? ⟨w2.heap.size,0,none⟩=some (.int .i64 (f:Int)):=IA.cell 0
   have b1:w3.cell? ⟨w2.heap.size,1,none⟩=some (.int .i64 (n':Int)):=IA.cell 1
   have Ve:=(Bq.out.cell (p:=⟨p,2,none⟩) Dy).trans c2
   have EB:w2.heap.size<w3.heap.size:=IA.lt
   have fA:p<w3.heap.size:=by have:=Bq.out.size;omega
   have d0:=(Bq.out.cell (p:=⟨g,i*2,none⟩) hg).trans Ht
   have Ds:g<w3.heap.size:=by have:=Bq.out.size;omega
   clear A9 L2 IA Cd Q7 HH YH c0 c1 c2 Ht Gx
   go_wp2
   go_region_held3 (fun w'=>Below w3.heap.size w3 w'∧w'.cell? ⟨p,2,none⟩=some (.slice (some ⟨g,0,none⟩) N c)∧w'.cell? ⟨w2.heap.size,0,none⟩=some (.int .i64 (f:Int))∧w'.cell? ⟨w2.heap.size,1,none⟩=some (.int .i64 (n':Int))∧w'.cell? ⟨g,i*2,none⟩=some (.int .i64 (a:Int)))
    (first
     |(exact⟨AG (Below.refl _ _) 1,Ve,b0,b1,d0⟩)
     |(exact⟨hacc,(hacc.cell fA).trans Ve,(hacc.cell EB).trans b0,(hacc.cell EB).trans b1,(hacc.cell Ds).trans d0⟩))
    ((go_split_ands;go_at_call 96;(with_reducible refine(HE.out _).mono ?_);rintro e w4 ⟨rfl,Dz⟩;have hacc:Below w3.heap.size w3 w4:=Below.trans (by assumption) (Below.mono Dz (Below.size (by assumption)))))
   have zH:=Lib.hid (HJ.out HQ.out w4 (Bq.out.trans (hacc.mono Bq.out.size)))
   have b04:=(hacc.cell (p:=⟨w2.heap.size,0,none⟩) EB).trans b0
   have b14:=(hacc.cell (p:=⟨w2.heap.size,1,none⟩) EB).trans b1
   clear hacc b0 b1 Ve d0
   go_wp2_with fail
   refine zH.out.mono ?_
   rintro e w5 ⟨rfl,hx⟩
   have HX:=Lib.hid hx
   clear hx
   go_wp2
   go_ret
   exact⟨rfl,HX.out⟩
 ·have gi:decide ((i:Int)<(N:Int))=false:=by simp;omega
  have gi2:decide (i<N)=false:=by simp;omega
  rw[if_neg (fun hh=>hlt hh.1)]at Jp
  rw[Jp]
  dsimp only
  have HQ:Hid (¬(i<N∧(Ad s.fr i).1<u)):=fun hh=>hlt hh.1
  clear Jp
  go_enter Tryz.func78,Tryz.ntmps78
  go_wp2_with fail
  refine(HH.out _).mono ?_
  rintro e w2 ⟨rfl,AX⟩
  rw[YH.out]
  have Cd:=Lib.hid AX
  clear AX
  go_wp2_with fail
  refine(Q7.out _ (Xx.out _ Cd.out)).mono ?_
  rintro e w3 ⟨rfl,A9⟩
  have L2:Row (w2.alloc (.cells #[.int .i64 (f:Int),.int .i64 (n':Int)] 80)) w2.heap.size 80 [.int .i64 (f:Int),.int .i64 (n':Int)]:=heap_alloc_new _ _
  have IA:=L2.below A9 (by simp)
  have Bq:=Lib.hid ((Xx.out _ Cd.out).trans (A9.mono (Xx.out _ Cd.out).size))
  have b0:w3.cell? ⟨w2.heap.size,0,none⟩=some (.int .i64 (f:Int)):=IA.cell 0
  have b1:w3.cell? ⟨w2.heap.size,1,none⟩=some (.int .i64 (n':Int)):=IA.cell 1
  have Ve:=(Bq.out.cell (p:=⟨p,2,none⟩) Dy).trans c2
  have EB:w2.heap.size<w3.heap.size:=IA.lt
  have fA:p<w3.heap.size:=by have:=Bq.out.size;omega
  clear A9 L2 IA Cd Q7 HH YH c0 c1 c2
  go_wp2
  go_quiet (fail)
  have zH:=Lib.hid (HJ.out HQ.out (w3.drewN nq) (AG Bq.out nq))
  go_wp2_with fail
  refine zH.out.mono ?_
  rintro e w5 ⟨rfl,hx⟩
  have HX:=Lib.hid hx
  clear hx
  go_wp2
  go_ret
  exact⟨rfl,HX.out⟩
def JC(s:Sp)(k n:Nat):Prop:=∀b,k≤b→b<k+n→hasB s.fr b
structure Xn (s s':Sp) (a n:Nat):Prop where
 room:JC s a n
 first:s'.first=s.first
 blocks:s'.blocks=s.blocks
 has:∀b,hasB s'.fr b↔hasB s.fr b∧¬(a≤b∧b<a+n)
 sum:Ax s'.fr+n=Ax s.fr
 ok:s'.ok
theorem RL{s:Sp}{i a n:Nat}(h:s.ok)(hi:i<s.fr.length)(h1:(Ad s.fr i).1≤a)(h2:a+n≤(Ad s.fr i).1+(Ad s.fr i).2)(hn:1≤n):Xn s {s with fr:=Hj s.fr i a n} a n:=by
 obtain⟨c1,c2,c3⟩:=Sc h.2.2 hi h1 h2 hn
 exact⟨fun b hb AX=>⟨_,QZ hi,by omega,by omega⟩,rfl,rfl,c2,c3,h.1,h.2.1,c1⟩
theorem TR{s:Sp}(h:s.ok){n:Nat}(hn:1≤n):(∃s' a,Cg s n=(s',a,0)∧Xn s s' a n∧∀k,JC s k n→a≤k)∨(Cg s n=(s,0,5)∧∀k,¬JC s k n):=by
 unfold Cg
 rw[if_neg (by omega),Int.toNat_natCast]
 by_cases hl:EY s.fr n<s.fr.length
 ·rw[if_pos hl]
  obtain⟨h1,h2⟩:=Xa h.2.2 hn hl
  exact .inl ⟨_,_,rfl,RL h hl (Nat.le_refl _) (by omega) hn,h2⟩
 ·rw[if_neg hl]
  exact .inr ⟨rfl,fun k=>aj h.2.2 hn (by omega) k⟩
theorem T5{s:Sp}(h:s.ok)(f n:Int):(∃s' a m,f=(a:Nat)∧n=(m:Nat)∧1≤m∧IV s f n=(s',0)∧Xn s s' a m)∨(IV s f n=(s,1)∧∀a m:Nat,f=a→n=m→1≤m→¬JC s a m):=by
 unfold IV
 by_cases hn:n<1
 ·rw[if_pos hn]
  exact .inr ⟨rfl,fun a m _ e hm=>by omega⟩
 ·rw[if_neg hn]
  by_cases hx:DC s.fr f<s.fr.length∧((Ad s.fr (DC s.fr f)).1:Int)≤f∧n≤(((Ad s.fr (DC s.fr f)).1+(Ad s.fr (DC s.fr f)).2:Nat):Int)-f
  ·rw[if_pos hx]
   obtain⟨a,rfl⟩:∃a:Nat,f=(a:Int):=⟨f.toNat,by omega⟩
   obtain⟨m,rfl⟩:∃m:Nat,n=(m:Int):=⟨n.toNat,by omega⟩
   simp only[Int.toNat_natCast]
   exact .inl ⟨_,a,m,rfl,rfl,by omega,rfl,RL h hx.1 (by omega) (by omega) (by omega)⟩
  ·rw[if_neg hx]
   refine .inr ⟨rfl,fun a m ha hm h1 hr=>hx ?_⟩
   subst ha;subst hm
   rw[Ov]
   obtain⟨h2,h3,h4⟩:=Tp h.2.2 h1 hr
   exact⟨h2,by omega,by omega⟩
structure zX (s s':Sp) (a n:Nat):Prop where
 lo:s.first≤a
 hi:a+n≤s.first+s.blocks
 none:∀b,a≤b→b<a+n→¬hasB s.fr b
 first:s'.first=s.first
 blocks:s'.blocks=s.blocks
 has:∀b,hasB s'.fr b↔hasB s.fr b∨(a≤b∧b<a+n)
 sum:Ax s'.fr=Ax s.fr+n
 ok:s'.ok
theorem Hg{s:Sp}(h:s.ok)(f n:Int):(∃s' a m,f=(a:Nat)∧n=(m:Nat)∧1≤m∧CO s f n=(s',0)∧zX s s' a m)∨
  (CO s f n=(s,1)∧∀a m:Nat,f=a→n=m→1≤m→¬(s.first≤a∧a+m≤s.first+s.blocks∧∀b,a≤b→b<a+m→¬hasB s.fr b)):=by
 unfold CO
 by_cases hx:n<1∨¬((s.first:Int)≤f∧n≤((s.first+s.blocks:Nat):Int)-f)∨(A8 s.fr f.toNat<s.fr.length∧(Ad s.fr (A8 s.fr f.toNat)).1<f.toNat+n.toNat)
 ·rw[if_pos hx]
  refine .inr ⟨rfl,fun a m ha hm h1 hh=>?_⟩
  subst ha;subst hm
  simp only[Int.toNat_natCast]at hx
  rcases hx with hx|hx|hx
  ·omega
  ·exact hx ⟨by omega,by omega⟩
  ·have:=(Iw h.2.2 h1).1 hh.2.2 hx.1;omega
 ·rw[if_neg hx]
  have h1:¬n<1:=fun h=>hx (.inl h)
  have h2:(s.first:Int)≤f∧n≤((s.first+s.blocks:Nat):Int)-f:=Classical.not_not.1 fun h=>hx (.inr (.inl h))
  obtain⟨a,rfl⟩:∃a:Nat,f=(a:Int):=⟨f.toNat,by omega⟩
  obtain⟨m,rfl⟩:∃m:Nat,n=(m:Int):=⟨n.toNat,by omega⟩
  simp only[Int.toNat_natCast]at hx⊢
  have hno:∀b,a≤b→b<a+m→¬hasB s.fr b:=(Iw h.2.2 (by omega)).2 fun hlt=>by
   rcases Nat.lt_or_ge (Ad s.fr (A8 s.fr a)).1 (a+m)with h3|h3
   ·exact absurd (.inr (.inr ⟨hlt,h3⟩)) hx
   ·exact h3
  obtain⟨c1,c2,c3⟩:=Iy h.2.2 (show 1≤m by omega) (show s.first≤a by omega) (by omega) hno
  exact .inl ⟨_,a,m,rfl,rfl,by omega,rfl,⟨by omega,by omega,hno,rfl,rfl,c2,c3,h.1,h.2.1,c1⟩⟩
theorem Yj(k r:Nat):cL (k+1) r=st (cL k r):=by
 rw[show k+1=1+k by omega,Yk];rfl
theorem eR(r c:Nat)(w:World)(hr:r<4294967296)(hc:c<256):
  Calls Tryz.prog 134 #[.int .u32 r,.int .u32 c] w fun e w'=>e=.returned (.int .u32 (eS r c))∧w=w':=by
 have hx:=u32_xor_nat r c hr (by omega)
 have HX:=Lib.hid hx
 have h0:r^^^c<4294967296:=Nat.xor_lt_two_pow (n:=32) hr (by omega)
 clear hx
 go_enter Tryz.func134,Tryz.ntmps134
 go_wp2
 rw[HX.out]
 go_loop [0,9] (fun nv kv=>∃k n:Nat,k≤8∧n<4294967296∧kv=.int .i64 k∧nv=.int .u32 n∧Hid (n=cL k (r^^^c))) (fun _ kv=>8-(intOf kv).toNat)
 case atStart=>exact⟨0,_,by omega,h0,rfl,rfl,rfl⟩
 case round=>
  obtain⟨k,n,hk,hn,rfl,rfl,HN⟩:=hrel
  by_cases hlt:k<8
  ·have hand:bits .and .u32 (n:Int) 1=((n%2:Nat):Int):=by
    have h:=u32_and_nat n 1 hn (by decide)
    rwa [Nat.and_one_is_mod]at h
   have hdiv:IntKind.u32.wrap ((n:Int)/2)=((n/2:Nat):Int):=by rw[IntKind.wrap_u32'];omega
   have HX2:=Lib.hid (u32_xor_nat (n/2) 3988292384 (by omega) (by decide))
   have HS:Hid (∀m,m=st n→m=cL (k+1) (r^^^c)):=fun m hm=>by rw[hm,Yj,HN.out]
   have HL:Hid (st n<4294967296):=gn hn
   by_cases fD:n%2=1
   ·have g:(bits .and .u32 (n:Int) 1==1)=true:=by rw[hand,fD];rfl
    clear hand hdiv
    go_wp2
    go_round
    case rel=>exact⟨k+1,n/2^^^3988292384,by omega,by have:=HL.out;unfold st at this;rwa [if_pos fD]at this,by go_num,congrArg (Value.int .u32) HX2.out,HS.out _ (by unfold st;rw[if_pos fD])⟩
    case measure=>simp[intOf];omega
   ·have g:(bits .and .u32 (n:Int) 1==1)=false:=by rw[hand,show n%2=0 by omega];rfl
    clear hand hdiv
    go_wp2
    go_round
    case rel=>exact⟨k+1,n/2,by omega,by omega,by go_num,rfl,HS.out _ (by unfold st;rw[if_neg fD])⟩
    case measure=>simp[intOf];omega
  ·obtain rfl:k=8:=by omega
   go_wp2
   go_ret
   exact⟨MG (by rw[HN.out];rfl),rfl⟩
theorem Vg(s:Nat)(hs:s<4294967296):bits .xor .u32 IntKind.u32.max (s:Int)=(cm s:Int):=by
 rw[show IntKind.u32.max=4294967295 by decide]
 have h:=u32_xor_nat 4294967295 s (by decide) hs
 have e:cm s=4294967295^^^s:=by unfold cm og top;exact Eq.refl _
 rw[e];exact h
theorem KA(s x:Nat)(w:World)(hs:s<4294967296)(hx:x<18446744073709551616):
  Calls Tryz.prog 118 #[.int .u32 s,.int .u64 x] w fun e w'=>e=.returned (.int .u32 (nx s x))∧w=w':=by
 have HX:=Lib.hid (Vg s hs)
 have h0:cm s<4294967296:=VZ hs
 go_enter Tryz.func118,Tryz.ntmps118
 go_wp2
 rw[HX.out]
 go_loop [1,5,8] (fun xv rv kv=>∃k y r:Nat,k≤8∧r<4294967296∧y<18446744073709551616∧kv=.int .i64 k∧xv=.int .u64 y∧rv=.int .u32 r∧Hid (wd (8-k) r y=wd 8 (cm s) x)) (fun _ _ kv=>8-(intOf kv).toNat)
 case atStart=>exact⟨0,x,_,by omega,h0,hx,rfl,rfl,rfl,rfl⟩
 case round=>
  obtain⟨k,y,r,hk,hr,hy,rfl,rfl,rfl,HN⟩:=hrel
  by_cases hlt:k<8
  ·have hb:bits .and .u64 (y:Int) 255%4294967296=((y%256:Nat):Int):=by
    have h:=u64_and_nat y 255 hy (by decide)
    rw[show (255:Nat)=2^8-1 from rfl,Nat.and_two_pow_sub_one_eq_mod]at h
    have h2:bits .and .u64 (y:Int) 255=((y%256:Nat):Int):=h
    rw[h2];omega
   have HB:=Lib.hid hb
   clear hb
   have HS:Hid (wd (8-(k+1)) (eS r (y%256)) (y/256)=wd 8 (cm s) x):=by
    have h:=HN.out
    rw[show 8-k=(8-(k+1))+1 by omega]at h
    exact h
   have HL:=VD hr (show y%256<256 by omega)
   go_wp2_with fail
   rw[HB.out]
   refine(eR r (y%256) _ hr (by omega)).mono ?_;rintro e w' ⟨rfl,rfl⟩
   go_wp2
   go_round
   case rel=>exact⟨k+1,y/256,_,by omega,HL,by omega,by go_num,by go_num,rfl,HS.out⟩
   case measure=>simp[intOf];omega
  ·obtain rfl:k=8:=by omega
   have HC:Hid (bits .xor .u32 IntKind.u32.max (r:Int)=(nx s x:Int)):=by
    have h:=HN.out
    unfold Hid
    rw[Vg r hr]
    have h2:r=wd 8 (cm s) x:=h
    rw[h2];exact Eq.refl _
   go_wp2
   go_ret
   exact⟨MG HC.out,rfl⟩
theorem U2{l:List Nat}{n k c:Nat}(hl:l.length=n)(hk:k<n)(hc:c=l.getD k 0):nx (sm (l.take k)) c=sm (l.take (k+1)):=by
 rw[List.take_succ_eq_append_getElem (by omega),Pt,hc,List.getD_eq_getElem?_getD,List.getElem?_eq_getElem (by omega)]
 exact Eq.refl _
theorem dU(a:Option Addr)(n cap:Nat)(l:List Nat)(w:World){B:Nat}(hl:Reads .u64 w B a n l)(hn:n≤1000000):
  Calls Tryz.prog 117 #[.slice a n cap] w fun e w'=>e=.returned (.int .u32 (sm l))∧w=w':=by
 have Ew:=Lib.hid hl.1
 go_enter Tryz.func117,Tryz.ntmps117
 go_wp2
 go_loop [3,8] (fun sv kv=>∃k s:Nat,k≤n∧s<4294967296∧kv=.int .i64 k∧sv=.int .u32 s∧Hid (s=sm (l.take k))) (fun _ kv=>n-(intOf kv).toNat)
 case atStart=>exact⟨0,0,by omega,by omega,rfl,rfl,rfl⟩
 case round=>
  obtain⟨k,s,hk,hs,rfl,rfl,HN⟩:=hrel
  by_cases hlt:k<n
  ·obtain⟨b,o,c,rfl,hb,hc,hw,HC⟩:=hl.at_ hlt
   have l5:=Md hw
   have HS:Hid (nx s c=sm (l.take (k+1))):=by
    unfold Hid;rw[HN.out];exact U2 Ew.out hlt HC.out
   have HL:=Rs c hs
   go_wp2_with fail
   refine(KA s c _ hs l5).mono ?_;rintro e w' ⟨rfl,rfl⟩
   go_wp2
   go_round
   case rel=>exact⟨k+1,_,by omega,HL,by go_num,rfl,HS.out⟩
   case measure=>simp[intOf];omega
  ·obtain rfl:k=n:=by omega
   go_wp2
   go_ret
   exact⟨MG (by rw[HN.out,List.take_of_length_le (by have:=Ew.out;omega)]),rfl⟩
def M4(s a:Int):Bool:=decide (8≤s)&&decide (s≤256)&&decide (0≤a)
theorem VB(s a:Int)(w:World):Calls Tryz.prog 103 #[.int .i64 s,.int .i64 a] w fun e w'=>e=.returned (.bool (M4 s a))∧w=w':=by
 by_cases h1:8≤s
 ·have g1:decide (s≥8)=true:=by simpa using h1
  by_cases h2:s≤256
  ·have g2:decide (s≤256)=true:=by simpa using h2
   have HR:Hid (M4 s a=decide (a≥0)):=by unfold Hid M4;simp[h1,h2]
   rw[HR.out]
   go_enter Tryz.func103,Tryz.ntmps103
   go_wp2
   go_ret
   exact⟨rfl,rfl⟩
  ·have g2:decide (s≤256)=false:=by simp;omega
   have HR:Hid (M4 s a=false):=by unfold Hid M4;simp[h2]
   rw[HR.out]
   go_enter Tryz.func103,Tryz.ntmps103
   go_wp2
   go_ret
   exact⟨rfl,rfl⟩
 ·have g1:decide (s≥8)=false:=by simp;omega
  have HR:Hid (M4 s a=false):=by unfold Hid M4;simp[h1]
  rw[HR.out]
  go_enter Tryz.func103,Tryz.ntmps103
  go_wp2
  go_ret
  exact⟨rfl,rfl⟩
theorem kE(l:List Nat)(a b:Nat):nx (nx (sm l) a) b=sm (l++[a,b]):=by
 rw[←Pt,←Pt];simp
theorem Ow(a:Option Addr)(n cap:Nat)(l:List Nat)(num ad:Nat)(w:World){B:Nat}(hl:Reads .u64 w B a n l)(hn:n≤1000000)(SI:num<4294967296)(had:ad≤9223372036854775807):
  Calls Tryz.prog 104 #[.slice a n cap,.int .u64 num,.int .i64 ad] w fun e w'=>e=.returned (.int .u64 (DY l num ad))∧w=w':=by
 have Ew:=Lib.hid hl.1
 have hs0:=On l
 have EP:=Rs num hs0
 have EB:=Rs ad EP
 have JN:Hid (nx (nx (sm l) num) ad=sm (l++[num,ad])):=kE l num ad
 have HOR:Hid (bits .or .u64 ((num:Int)*4294967296) (IntKind.u64.wrap ((sm (l++[num,ad]):Nat):Int))=(DY l num ad:Int)):=by
  unfold Hid
  have e:IntKind.u64.wrap ((sm (l++[num,ad]):Nat):Int)=((sm (l++[num,ad]):Nat):Int):=by
   have:=On (l++[num,ad]);exact IntWalk.u64_in _ (by omega)
  rw[e]
  have h:=u64_or_nat (num*4294967296) (sm (l++[num,ad])) (by omega) (by have:=On (l++[num,ad]);omega)
  rw[eU]at h
  rw[←h];simp
 go_enter Tryz.func104,Tryz.ntmps104
 go_wp2_with fail
 refine(dU none 0 0 [] w (B:=0) ⟨rfl,by simp,fun h=>absurd h (by omega)⟩ (by omega)).mono ?_;rintro e w' ⟨rfl,rfl⟩
 go_wp2
 go_loop [7,13] (fun sv kv=>∃k s:Nat,k≤n∧s<4294967296∧kv=.int .i64 k∧sv=.int .u32 s∧Hid (s=sm (l.take k))) (fun _ kv=>n-(intOf kv).toNat)
 case atStart=>exact⟨0,0,by omega,by omega,rfl,rfl,rfl⟩
 case round=>
  obtain⟨k,s,hk,hs,rfl,rfl,HN⟩:=hrel
  by_cases hlt:k<n
  ·obtain⟨b,o,c,rfl,hb,hc,hw,HC⟩:=hl.at_ hlt
   have l5:=Md hw
   have HS:Hid (nx s c=sm (l.take (k+1))):=by
    unfold Hid;rw[HN.out];exact U2 Ew.out hlt HC.out
   have HL:=Rs c hs
   go_wp2_with fail
   refine(KA s c _ hs l5).mono ?_;rintro e w' ⟨rfl,rfl⟩
   go_wp2
   go_round
   case rel=>exact⟨k+1,_,by omega,HL,by go_num,rfl,HS.out⟩
   case measure=>simp[intOf];omega
  ·obtain rfl:k=n:=by omega
   have oq:Hid (s=sm l):=by
    unfold Hid;rw[HN.out,List.take_of_length_le (by have:=Ew.out;omega)]
   go_wp2_with fail
   refine(KA s num _ hs (by omega)).mono ?_;rintro e w' ⟨rfl,rfl⟩
   go_wp2_with fail
   refine(KA (nx s num) ad _ (Rs num hs) (by omega)).mono ?_;rintro e w' ⟨rfl,rfl⟩
   have HF:Hid (nx (nx s num) ad=sm (l++[num,ad])):=by unfold Hid;rw[oq.out];exact JN.out
   rw[HF.out]
   go_wp2
   go_ret
   exact⟨MG HOR.out,rfl⟩
theorem Vx(x:Nat)(w:World):Calls Tryz.prog 133 #[.int .u64 x] w fun e w'=>e=.returned (.bool (decide (x≠0)))∧w=w':=by
 by_cases h:x=0
 ·subst h
  go_enter Tryz.func133,Tryz.ntmps133
  go_wp2
  go_ret
  exact⟨rfl,rfl⟩
 ·have HR:Hid (decide (x≠0)=true):=by unfold Hid;simpa using h
  rw[HR.out]
  have g:((x:Int) !=0)=true:=by simp;omega
  go_enter Tryz.func133,Tryz.ntmps133
  go_wp2
  go_ret
  exact⟨rfl,rfl⟩
def Fi(l:List Nat):Bool:=decide (∀x∈l,x=0)
theorem Zq(a:Option Addr)(n cap:Nat)(l:List Nat)(w:World){B:Nat}(hl:Reads .u64 w B a n l)(hn:n≤1000000):
  Calls Tryz.prog 138 #[.slice a n cap,.func (.func 133) #[] #[]] w fun e w'=>(Fi l=true∧e=.returned (.int .i64 (-1))∧w=w')∨(Fi l=false∧∃i:Nat,e=.returned (.int .i64 i)∧w=w'):=by
 have Ew:=Lib.hid hl.1
 go_enter Tryz.func138,Tryz.ntmps138
 go_wp2
 go_loop [5,8] (fun _ kv=>∃k:Nat,k≤n∧kv=.int .i64 k∧Hid (∀x∈l.take k,x=0)) (fun _ kv=>n-(intOf kv).toNat)
 case atStart=>exact⟨0,by omega,rfl,by unfold Hid;simp⟩
 case round=>
  obtain⟨k,hk,rfl,HN⟩:=hrel
  by_cases hlt:k<n
  ·obtain⟨b,o,c,rfl,hb,hc,hw,HC⟩:=hl.at_ hlt
   have K2:=Vx c w
   by_cases h0:c=0
   ·have HS:Hid (∀x∈l.take (k+1),x=0):=by
     intro x hx
     have cQ:k<l.length:=by have:=Ew.out;omega
     rw[List.take_succ_eq_append_getElem cQ]at hx
     rcases List.mem_append.1 hx with hx|hx
     ·exact HN.out x hx
     ·simp at hx
      have:=HC.out
      rw[List.getD_eq_getElem?_getD,List.getElem?_eq_getElem cQ]at this
      rw[hx,←h0,this];rfl
    have hd:decide (c≠0)=false:=by simpa using h0
    rw[hd]at K2
    have Ct:=Lib.hid K2
    clear K2 hd h0
    go_wp2_with fail
    refine Ct.out.mono ?_;rintro e w' ⟨rfl,rfl⟩
    go_wp2
    go_round
    case rel=>exact⟨k+1,by omega,by go_num,HS.out⟩
    case measure=>simp[intOf];omega
   ·have HZ:Hid (Fi l=false):=by
     unfold Hid Fi
     rw[decide_eq_false_iff_not]
     intro h
     have cQ:k<l.length:=by have:=Ew.out;omega
     have h1:=h l[k] (List.getElem_mem cQ)
     have:=HC.out
     rw[List.getD_eq_getElem?_getD,List.getElem?_eq_getElem cQ]at this
     exact h0 (by rw[this];exact h1)
    have hd:decide (c≠0)=true:=by simpa using h0
    rw[hd]at K2
    have Ct:=Lib.hid K2
    clear K2 hd h0
    go_wp2_with fail
    refine Ct.out.mono ?_;rintro e w' ⟨rfl,rfl⟩
    go_wp2
    go_ret
    exact .inr ⟨HZ.out,k,rfl,rfl⟩
  ·have HZ:Hid (Fi l=true):=by
    unfold Hid Fi
    rw[decide_eq_true_eq]
    have h:=HN.out
    rwa [List.take_of_length_le (by have:=Ew.out;omega)]at h
   go_wp2
   go_ret
   exact .inl ⟨HZ.out,rfl,rfl⟩
theorem bB(a:Option Addr)(n cap:Nat)(l:List Nat)(w:World){B:Nat}(hl:Reads .u64 w B a n l)(hn:n≤1000000):
  Calls Tryz.prog 132 #[.slice a n cap,.func (.func 133) #[] #[]] w fun e w'=>e=.returned (.bool (!Fi l))∧w=w':=by
 have hx:=Zq a n cap l w hl hn
 cases hz:Fi l with
 |true=>
  rw[hz]at hx
  have HX:=Lib.hid hx
  clear hx hz
  go_enter Tryz.func132,Tryz.ntmps132
  go_wp2_with fail
  refine HX.out.mono ?_
  rintro e w' (⟨_,rfl,rfl⟩|⟨hz,_⟩)
  ·go_wp2
   go_ret
   exact⟨rfl,rfl⟩
  ·cases hz
 |false=>
  rw[hz]at hx
  have HX:=Lib.hid hx
  clear hx hz
  go_enter Tryz.func132,Tryz.ntmps132
  go_wp2_with fail
  refine HX.out.mono ?_
  rintro e w' (⟨hz,_⟩|⟨_,i,rfl,rfl⟩)
  ·cases hz
  ·have hi:decide ((i:Int)≥0)=true:=by simp
   go_wp2
   go_ret
   exact⟨rfl,rfl⟩
theorem bK(a:Option Addr)(n cap:Nat)(l:List Nat)(w:World){B:Nat}(hl:Reads .u64 w B a n l)(hn:n≤1000000):
  Calls Tryz.prog 116 #[.slice a n cap] w fun e w'=>e=.returned (.bool (Fi l))∧w=w':=by
 have hx:=bB a n cap l w hl hn
 cases hz:Fi l with
 |true=>
  rw[hz]at hx
  have HX:=Lib.hid hx
  clear hx hz
  go_enter Tryz.func116,Tryz.ntmps116
  go_wp2_with fail
  refine HX.out.mono ?_
  rintro e w' ⟨rfl,rfl⟩
  go_wp2
  go_ret
  exact⟨rfl,rfl⟩
 |false=>
  rw[hz]at hx
  have HX:=Lib.hid hx
  clear hx hz
  go_enter Tryz.func116,Tryz.ntmps116
  go_wp2_with fail
  refine HX.out.mono ?_
  rintro e w' ⟨rfl,rfl⟩
  go_wp2
  go_ret
  exact⟨rfl,rfl⟩
theorem LV:(Tryz.prog.info? 127).map (fun i=>(i.zero,i.size,i.bytes))=some (some (.int .u64 0),1,8):=by kernel_rfl
theorem gu:(Tryz.prog.info? 127).map (·.size)=some 1:=by kernel_rfl
theorem Wh(w:World)(e:TypeId):(w.alloc (.cells #[] e)).ownsRow w.heap.size e 1 (.slice (some ⟨w.heap.size,0,none⟩) 0 0) 0 []:=
 ⟨rfl,.inr ⟨w.heap.size,0,#[],rfl,Nat.le_refl _,heap_alloc_new _ _,Nat.le_refl _,Nat.zero_le _,rfl,rfl⟩⟩
theorem TP(A:Option Addr)(n c:Nat)(l:List Nat)(w:World){B:Nat}(hl:Reads .u64 w B A n l)(hA:A≠none)(QS:n≤1000000)(hB:B≤w.heap.size):
  Calls Tryz.prog 107 #[.slice A n c] w fun e w'=>∃v,e=.returned v∧w'.ownsRow w.heap.size 127 1 v n (l.map fun x:Nat=>Value.int .u64 x)∧Below w.heap.size w w':=by
 obtain⟨i0,hi,Cy,CM,GJ⟩:=info_parts LV
 rcases A with _|⟨b,off,z⟩
 ·exact absurd rfl hA
 have HL:=Lib.hid hl
 have ux:=Lib.hid hl.1
 clear hl hA
 have hq:=fun w=>Go.Lib.run_eql_slice_nil (P:=Tryz.prog) w 123 127 (some ⟨b,off,z⟩) n c 0 0 Tryz.underlying123
 go_enter Tryz.func107,Tryz.ntmps107
 go_wp2_with (with_reducible refine BX 7 ?_)
 unfold Hid
 refine E7 _ rfl _ _ 123 rfl w.heap.size 127 i0 (.int .u64 0) 8 Tryz.underlying123 hi Cy CM GJ rfl _ 0 [] rfl (Wh w 127) (some ⟨b,off,z⟩) n c (l.map fun x:Nat=>Value.int .u64 x) rfl (by rw[List.length_map];exact ux.out) (HL.out.CL ((Below.refl _ w).alloc (by omega) _:Below B w _)).source PW (by omega) (by omega) (by simp) ?_
 intro v' w' BG hb
 rw[Nat.zero_add,List.nil_append]at BG
 have HO:=Lib.hid BG
 have HB:=Lib.hid (((Below.refl w.heap.size w).alloc (Nat.le_refl _) _).trans hb)
 clear BG hb
 go_wp2
 go_ret
 exact⟨v',rfl,HO.out,HB.out⟩
def vw(x:Nat):Value:=.int .u64 x
theorem map_set(l:List Nat)(k x:Nat):(l.map vw).set k (vw x)=(l.set k x).map vw:=by rw[List.map_set]
theorem Wu(size:Nat)(l:List Nat):splice (List.replicate size (Value.int .u64 0)) 0 (l.map vw)=(l++List.replicate (size-l.length) 0).map vw:=by
 unfold splice
 rw[List.take_zero,List.nil_append,Nat.zero_add,List.length_map,List.drop_replicate,List.map_append,List.map_replicate];rfl
theorem eM{size tag:Nat}{l:List Nat}(h:l.length≤size-2)(h2:2≤size):(l++List.replicate (size-l.length) 0).set (size-2) tag=Bi size tag l++[0]:=by
 have e:List.replicate (size-l.length) 0=List.replicate (size-2-l.length) 0++[0,0]:=by
  rw[show size-l.length=size-2-l.length+2 by omega,←List.replicate_append_replicate];rfl
 rw[e,←List.append_assoc,List.set_append_right _ _ (by simp;omega)]
 have e2:size-2-(l++List.replicate (size-2-l.length) 0).length=0:=by rw[List.length_append,List.length_replicate];omega
 rw[e2]
 unfold Bi
 rw[List.append_assoc (l++ _)];rfl
theorem Zc{size z:Nat}{F:List Nat}(h:F.length=size-1):(F++[0]).set (size-1) z=F++[z]:=by
 rw[List.set_append_right _ _ (by omega),h,Nat.sub_self];rfl
theorem IS{l:List Nat}{k:Nat}(h:k<l.length):(l.map vw)[k]?=some (.int .u64 (l.getD k 0:Nat)):=by
 rw[List.getElem?_map,List.getElem?_eq_getElem h,List.getD_eq_getElem?_getD,List.getElem?_eq_getElem h];rfl
theorem Row.words{w:World}{g n:Nat}{t:TypeId}{l:List Nat}(h:Row w g t (l.map vw))(hn:n≤l.length)(hu:∀x∈l,(Lit.int .u64 (x:Nat)).wf=true):Reads .u64 w w.heap.size (some ⟨g,0,none⟩) n (l.take n):=
 h.reads (by rw[List.length_take];omega) (fun x hx=>hu x (List.mem_of_mem_take hx)) (fun i hi=>by
  rw[IS (by omega)]
  congr 2
  rw[List.getD_eq_getElem?_getD,List.getD_eq_getElem?_getD,List.getElem?_take,if_pos hi]) h.lt
theorem kN(size ad tag:Nat)(a:Option Addr)(n c:Nat)(l:List Nat)(w:World){B:Nat}(hl:Reads .u64 w B a n l)(hB:B≤w.heap.size)(h8:8≤size)(yC:size≤256)(had:ad≤9223372036854775807)(ht:tag<18446744073709551616)(hn:n≤size-2):
  Calls Tryz.prog 86 #[.int .i64 size,.int .i64 ad,.int .u64 tag,.slice a n c] w fun e w'=>e=.returned (.tuple #[.slice (some ⟨w.heap.size,0,none⟩) size size,.int .i64 0])∧Row w' w.heap.size 127 ((DB size ad tag l).map vw)∧Below w.heap.size w w':=by
 obtain⟨i0,hi,Cy,CM,GJ⟩:=info_parts LV
 have hlen:=hl.1
 have hu:I6 l:=fun x hx=>Md (hl.2.1 x hx)
 have HM:Hid (∀w,Calls Tryz.prog 103 #[.int .i64 size,.int .i64 ad] w fun e w'=>e=.returned (.bool true)∧w=w'):=fun w=>by
  have h:=VB size ad w
  have e:M4 size ad=true:=by unfold M4;simp;omega
  rwa [e]at h
 obtain⟨s1,EP⟩:∃s1,s1=size-1:=⟨_,rfl⟩
 obtain⟨s2,EB⟩:∃s2,s2=size-2:=⟨_,rfl⟩
 obtain⟨num,SI⟩:∃num,num=n+1:=⟨_,rfl⟩
 have b1:s1+1≤size∧size≤s1+1:=by omega
 have b2:s2+2≤size∧size≤s2+2:=by omega
 have b3:num≤n+1∧n+1≤num:=by omega
 have qG:(size:Int)-1=(s1:Int):=by omega
 have qF:(size:Int)-2=(s2:Int):=by omega
 have K5:(n:Int)+1=(num:Int):=by omega
 have hg:decide ((n:Int)>(s2:Int))=false:=by simp;omega
 have sQ:Hid (∀cs:List Value,cs=l.map vw→splice (List.replicate size (Value.int .u64 0)) 0 cs=(l++List.replicate (size-l.length) 0).map vw):=by
  rintro cs rfl;exact Wu size l
 have yX:Hid (((l++List.replicate (size-l.length) 0).map vw).set s2 (vw tag)=(Bi size tag l++[0]).map vw):=by
  unfold Hid;rw[map_set,EB,eM (by omega) (by omega)]
 have hF:=K9 (tag:=tag) (pl:=l) (size:=size) (by omega) (by omega)
 have Lj:Hid (∀z,((Bi size tag l++[0]).map vw).set s1 (vw z)=(Bi size tag l++[z]).map vw):=by
  intro z;rw[map_set,EP,Zc hF]
 have jP:Hid (DB size ad tag l=Bi size tag l++[DY (Bi size tag l) num ad]):=by
  unfold Hid DB;rw[hlen,SI]
 have HFU:=Lib.hid (PJ (size:=size) hu ht)
 have sr:Hid ((l++List.replicate (size-l.length) 0).length=size):=by unfold Hid;simp;omega
 have cA:Hid ((Bi size tag l).length=s1):=by unfold Hid;rw[hF,EP]
 have HL:=Lib.hid hl
 have oz:=Lib.hid hlen
 rw[jP.out]
 generalize hZE:DY (Bi size tag l) num ad=z
 have HZE:=Lib.hid hZE
 clear hZE
 generalize l++List.replicate (size-l.length) 0=L1 at*
 generalize Bi size tag l=F at*
 clear hF EP EB SI hlen hl hu jP
 have hcut:=fun W=>B7 (P:=Tryz.prog) W 123 127 i0 Tryz.underlying123 hi (some ⟨w.heap.size,0,none⟩) size size s1 (by omega) .i64 (s1:Int) rfl
 go_enter Tryz.func86,Tryz.ntmps86
 go_wp2_with fail
 refine(HM.out _).mono ?_;rintro e w1 ⟨rfl,rfl⟩
 go_wp2_with (with_reducible refine BX 23 ?_)
 unfold Hid
 refine ET _ rfl _ _ 123 rfl 127 i0 (.int .u64 0) Tryz.underlying123 hi Cy CM rfl .i64 .i64 _ _ size rfl rfl rfl rfl (by rw[GJ];omega) (by omega) ?_
 intro w2 Ap AX EB
 have Ka:=Lib.hid Ap
 have Cd:=Lib.hid AX
 clear Ap AX EB
 go_wp2_with (with_reducible refine BX 26 ?_)
 unfold Hid
 have LJ:=Lib.hid ((HL.out.CL (B:=B) (w':=w2) ⟨Cd.out.os,Cd.out.tape,Cd.out.output,by have:=Cd.out.size;omega,fun k hk=>Cd.out.block k (by omega)⟩).source)
 refine BU rfl _ _ 123 123 rfl 127 Tryz.underlying123 gu (by decide) (some ⟨w.heap.size,0,none⟩) a size size n c rfl rfl w.heap.size 0 _ 127 Ka.out (l.map vw) (by rw[List.length_map,oz.out,Nat.mul_one];exact(Nat.min_eq_left (by omega)).symm) (fun h0=>⟨rfl,LJ.out (by have:=oz.out;rw[List.length_map]at h0;omega)⟩) (by rw[List.length_map,List.length_replicate,oz.out];omega) (fun v hv=>by obtain⟨x,_,rfl⟩:=List.mem_map.1 hv;rfl) ?_
 intro w3 Cm KL
 have Hq:Hid (Row w3 w.heap.size 127 (L1.map vw)):=by
  have h:=Cm.out
  rwa [sQ.out _ rfl]at h
 have Bq:=Lib.hid (Cd.out.trans (KL.out.below (by have:=Cd.out.size;exact this) (fun b hb=>by rw[hb];exact Nat.le_refl _)))
 clear Cm KL
 have xY:w3.cell? ⟨w.heap.size,s2,none⟩=some (.int .u64 (L1.getD s2 0:Nat)):=by
  rw[Hq.out.cell];exact IS (by have:=sr.out;omega)
 have Zt:=Hq.out.free s2
 have i20:(0:Int)≤(s2:Int):=by omega
 have i21:(s2:Int)<(size:Int):=by omega
 have i10:(0:Int)≤(s1:Int):=by omega
 have i11:(s1:Int)<(size:Int):=by omega
 have bW:Hid (Row (w3.setCell ⟨w.heap.size,s2,none⟩ (.int .u64 tag)) w.heap.size 127 ((F++[0]).map vw)):=by
  have h:=Hq.out.set s2 (vw tag)
  rw[yX.out]at h;exact h
 have Vv:Hid (Below w.heap.size w (w3.setCell ⟨w.heap.size,s2,none⟩ (.int .u64 tag))):=Bq.out.setCell (Nat.le_refl _) _
 go_wp2_with fail
 have Nu:=Lib.hid (bW.out.words (n:=s1) (by have:=cA.out;simp;omega) (fun x hx=>by
  rcases List.mem_append.1 hx with hx|hx
  ·exact Kk (HFU.out x hx)
  ·simp at hx;subst hx;exact Kk (by decide)))
 have Kg:Hid ((F++[0]).take s1=F):=by unfold Hid;rw[←cA.out];exact List.take_left' rfl
 generalize w3.setCell ⟨w.heap.size,s2,none⟩ (.int .u64 tag)=w4 at*
 rw[Kg.out]at Nu
 refine(Ow (some ⟨w.heap.size,0,none⟩) s1 size F num ad w4 Nu.out (by omega) (by omega) had).mono ?_;rintro e w5 ⟨rfl,rfl⟩
 rw[HZE.out]
 have HZ:=Lib.hid (Lj.out z)
 have UF:w4.cell? ⟨w.heap.size,s1,none⟩=some (.int .u64 ((F++[0]).getD s1 0:Nat)):=by
  rw[bW.out.cell];exact IS (by have:=cA.out;simp;omega)
 have oF:=bW.out.free s1
 have Cc:Hid (Row (w4.setCell ⟨w.heap.size,s1,none⟩ (.int .u64 z)) w.heap.size 127 ((F++[z]).map vw)):=by
  have h:=bW.out.set s1 (vw z)
  rw[HZ.out]at h;exact h
 have BW:Hid (Below w.heap.size w (w4.setCell ⟨w.heap.size,s1,none⟩ (.int .u64 z))):=Vv.out.setCell (Nat.le_refl _) _
 go_wp2
 go_ret2
 exact⟨rfl,Cc.out,BW.out⟩
theorem Reads.mid{k:IntKind}{w:World}{B b off n i m:Nat}{l:List Nat}(h:Reads k w B (some ⟨b,off,none⟩) n l)(UA:i+m≤n):Reads k w B (some ⟨b,off+i,none⟩) m ((l.drop i).take m):=by
 obtain⟨h1,h2,h3⟩:=h
 refine⟨by rw[List.length_take,List.length_drop];omega,fun x hx=>h2 x (List.mem_of_mem_drop (List.mem_of_mem_take hx)),fun hp=>?_⟩
 obtain⟨b',Rr,e,hb,hc⟩:=h3 (by omega)
 injection e with e;injection e with e1 e2;subst e1;subst e2
 refine⟨b,off+i,rfl,hb,fun j hj=>?_⟩
 rw[Nat.add_assoc,hc (i+j) (by omega)]
 congr 3
 rw[List.getD_eq_getElem?_getD,List.getD_eq_getElem?_getD,List.getElem?_take,if_pos hj,List.getElem?_drop]
theorem fR(a:Option Addr)(n c ad:Nat)(l:List Nat)(w:World){B:Nat}(hl:Reads .u64 w B a n l)(hB:B≤w.heap.size)(hc:n≤c)(h8:8≤n)(yC:n≤256)(had:ad≤9223372036854775807):
  Calls Tryz.prog 99 #[.slice a n c,.int .i64 ad] w fun e w'=>(okW l ad=false∧e=.returned (.tuple #[.slice none 0 0,.int .u64 0,.int .i64 6])∧Below w.heap.size w w')∨
   (okW l ad=true∧∃v,e=.returned (.tuple #[v,.int .u64 (Kl l),.int .i64 0])∧w'.ownsRow w.heap.size 127 1 v (CW l-1) ((l.take (CW l-1)).map vw)∧Below w.heap.size w w'):=by
 obtain⟨i0,hi,Cy,CM,GJ⟩:=info_parts LV
 have hlen:=hl.1
 have HM:Hid (∀w,Calls Tryz.prog 103 #[.int .i64 n,.int .i64 ad] w fun e w'=>e=.returned (.bool true)∧w=w'):=fun w=>by
  have h:=VB n ad w
  have e:M4 n ad=true:=by unfold M4;simp;omega
  rwa [e]at h
 obtain⟨b,o,rfl,MK,Be⟩:=hl.2.2 (by omega)
 obtain⟨s1,EP⟩:∃s1,s1=n-1:=⟨_,rfl⟩
 obtain⟨s2,EB⟩:∃s2,s2=n-2:=⟨_,rfl⟩
 obtain⟨num,SI⟩:∃num,num=CW l:=⟨_,rfl⟩
 obtain⟨tag,kz⟩:∃tag,tag=Kl l:=⟨_,rfl⟩
 obtain⟨z,hz⟩:∃z,z=l.getD s1 0:=⟨_,rfl⟩
 have c1:w.cell? ⟨b,o+s1,none⟩=some (.int .u64 (z:Nat)):=by rw[hz];exact Be s1 (by omega)
 have c2:w.cell? ⟨b,o+s2,none⟩=some (.int .u64 (tag:Nat)):=by
  rw[kz];unfold Kl;rw[hlen,←EB];exact Be s2 (by omega)
 have hnz:num=z/4294967296:=by rw[SI,hz];unfold CW;rw[hlen,EP]
 have AA5:z<18446744073709551616:=by
  rw[hz];exact Md (hl.2.1 _ (by rw[List.getD_eq_getElem?_getD,List.getElem?_eq_getElem (by omega)];exact List.getElem_mem _))
 have hdiv:(z:Int)/4294967296=(num:Int):=by omega
 have qm:num<4294967296:=by omega
 have b1:s1+1≤n∧n≤s1+1:=by omega
 have b2:s2+2≤n∧n≤s2+2:=by omega
 have qG:(n:Int)-1=(s1:Int):=by omega
 have qF:(n:Int)-2=(s2:Int):=by omega
 have i10:(0:Int)≤(s1:Int):=by omega
 have i11:(s1:Int)<(n:Int):=by omega
 have i20:(0:Int)≤(s2:Int):=by omega
 have i21:(s2:Int)<(n:Int):=by omega
 have HL:=Lib.hid hl
 have oz:=Lib.hid hlen
 have HB:=Lib.hid hB
 rw[←kz]
 rw[←SI]
 have bZ:=Lib.hid SI
 have HZ:=Lib.hid hz
 have bS:=Lib.hid EP
 have JN:=Lib.hid EB
 clear Be hlen hl EP EB SI kz hz hnz
 by_cases h1:num<1
 ·have Kh:Hid (okW l ad=false):=by
   unfold Hid okW;rw[←bZ.out];simp;omega
  have g1:decide ((num:Int)<1)=true:=by simp;omega
  go_enter Tryz.func99,Tryz.ntmps99
  go_wp2_with fail
  refine(HM.out _).mono ?_;rintro e w1 ⟨rfl,rfl⟩
  go_wp2
  go_ret3
  exact .inl ⟨Kh.out,rfl,Below.refl _ _⟩
 have g1:decide ((num:Int)<1)=false:=by simp;omega
 by_cases h2:s1<num
 ·have Kh:Hid (okW l ad=false):=by
   unfold Hid okW;rw[←bZ.out,oz.out,←bS.out];simp;omega
  have g2:decide ((num:Int)>(s1:Int))=true:=by simp;omega
  go_enter Tryz.func99,Tryz.ntmps99
  go_wp2_with fail
  refine(HM.out _).mono ?_;rintro e w1 ⟨rfl,rfl⟩
  go_wp2
  go_ret3
  exact .inl ⟨Kh.out,rfl,Below.refl _ _⟩
 have g2:decide ((num:Int)>(s1:Int))=false:=by simp;omega
 obtain⟨p,hp⟩:∃p,p=num-1:=⟨_,rfl⟩
 obtain⟨m,hm⟩:∃m,m=s2-p:=⟨_,rfl⟩
 obtain⟨cp,hcp⟩:∃cp,cp=c-p:=⟨_,rfl⟩
 have bp:p+1≤num∧num≤p+1:=by omega
 have bm:p+m≤s2∧s2≤p+m:=by omega
 have AA0:(num:Int)-1=(p:Int):=by omega
 have Xt:Hid (okW l ad=true↔Fi ((l.drop p).take m)=true∧z=DY (l.take s1) num ad):=by
  have h:=kT (ad:=ad) oz.out (by omega) (show 1≤CW l by rw[←bZ.out];omega) (by rw[←bZ.out];omega)
  rw[←bZ.out,←hp,←JN.out,←bS.out,←hm,←HZ.out]at h
  unfold Hid Fi
  rw[decide_eq_true_eq];exact h
 have k1:=fun W=>B7 (P:=Tryz.prog) W 123 127 i0 Tryz.underlying123 hi (some ⟨b,o,none⟩) n c p (by omega) .u64 (p:Int) rfl
 have k2:=fun W=>dw (P:=Tryz.prog) W 123 127 i0 Tryz.underlying123 hi CM b o n c p s2 (by omega) (by omega) (by omega) .u64 .i64 (p:Int) (s2:Int) rfl rfl
 have k3:=fun W=>B7 (P:=Tryz.prog) W 123 127 i0 Tryz.underlying123 hi (some ⟨b,o,none⟩) n c s1 (by omega) .i64 (s1:Int) rfl
 rw[←hm,←hcp]at k2
 have HZR:=Lib.hid (HL.out.mid (i:=p) (m:=m) (by omega))
 have cq:=Lib.hid (HL.out.take (m:=s1) (by omega))
 have sU:=Lib.hid (HL.out.take (m:=p) (by omega))
 rw[←hp]
 have H1:Hid (∀r q,Calls Tryz.prog 116 #[.slice (some ⟨b,o+p,none⟩) m cp] (w.drewN (r+q)) fun e w'=>e=.returned (.bool (Fi ((l.drop p).take m)))∧∃j,w'=w.drewN (r+j)):=fun r q=>
  ((bK _ m cp _ _ (HZR.out.drewN (r+q)) (by omega)).mono fun _ _ h=>⟨h.1,q,h.2.symm⟩)
 have H2:Hid (∀r q,Calls Tryz.prog 104 #[.slice (some ⟨b,o,none⟩) s1 c,.int .u64 num,.int .i64 ad] (w.drewN (r+q)) fun e w'=>e=.returned (.int .u64 (DY (l.take s1) num ad))∧∃j,w'=w.drewN (r+j)):=fun r q=>
  ((Ow _ s1 c _ num ad _ (cq.out.drewN (r+q)) (by omega) qm had).mono fun _ _ h=>⟨h.1,q,h.2.symm⟩)
 generalize DY (l.take s1) num ad=zz at*
 have c1':∀q,(w.drewN q).cell? ⟨b,o+s1,none⟩=some (.int .u64 (z:Nat)):=fun _=>c1
 clear hp hm hcp
 cases hzz:Fi ((l.drop p).take m)with
 |false=>
  rw[hzz]at H1
  have Kh:Hid (okW l ad=false):=by
   unfold Hid
   rw[Bool.eq_false_iff];intro h
   have:=(Xt.out.1 h).1
   rw[hzz]at this;cases this
  clear hzz Xt
  go_enter Tryz.func99,Tryz.ntmps99
  go_wp2_with fail
  refine(HM.out _).mono ?_;rintro e w1 ⟨rfl,rfl⟩
  go_wp2
  go_quiet (fail)
  go_wp2
  go_quiet (with_reducible first|exact H1.out _ _|exact H2.out _ _)
  go_wp2
  go_ret3
  exact .inl ⟨Kh.out,rfl,AG (AG (Below.refl _ _) _) _⟩
 |true=>
  rw[hzz]at H1
  by_cases he:z=zz
  ·subst he
   have Xp:Hid (okW l ad=true):=Xt.out.2 ⟨hzz,rfl⟩
   clear hzz Xt
   have Ct:Hid (∀q,Calls Tryz.prog 107 #[.slice (some ⟨b,o,none⟩) p c] (w.drewN q) fun e w'=>∃v,e=.returned v∧w'.ownsRow w.heap.size 127 1 v p ((l.take p).map vw)∧Below w.heap.size w w'):=fun q=>
    (TP (some ⟨b,o,none⟩) p c (l.take p) (w.drewN q) (sU.out.drewN q) (by simp) (by omega) HB.out).mono fun e w' ⟨v,h1,h2,h3⟩=>⟨v,h1,h2,(AG (Below.refl w.heap.size w) q).trans h3⟩
   have Ve:∀q,(w.drewN q).cell? ⟨b,o+s2,none⟩=some (.int .u64 (tag:Nat)):=fun _=>c2
   go_enter Tryz.func99,Tryz.ntmps99
   go_wp2_with fail
   refine(HM.out _).mono ?_;rintro e w1 ⟨rfl,rfl⟩
   go_wp2
   go_quiet (fail)
   go_wp2
   go_quiet (with_reducible first|exact H1.out _ _|exact H2.out _ _)
   go_wp2
   have Ja:IntKind.i64.wrap (s2:Int)=(s2:Int):=IntWalk.i64_in _ (by omega)
   go_region_held3 (fun w'=>w'.cell? ⟨b,o+s2,none⟩=some (.int .u64 (tag:Nat)))
    (first|exact c2|exact e2) ((go_at_call 107;refine(Ct.out _).mono ?_;rintro e w2 ⟨v,rfl,ho3,A9⟩;have e2:w2.cell? ⟨b,o+s2,none⟩=some (.int .u64 (tag:Nat)):=(A9.cell (p:=⟨b,o+s2,none⟩) (Nat.lt_of_lt_of_le MK HB.out)).trans c2))
   have HO:=Lib.hid ho3
   have Bq:=Lib.hid A9
   clear ho3 A9
   go_wp2
   go_ret3
   exact .inr ⟨Xp.out,v,rfl,HO.out,Bq.out⟩
  ·have Kh:Hid (okW l ad=false):=by
    unfold Hid
    rw[Bool.eq_false_iff];intro h
    exact he (Xt.out.1 h).2
   have g3:((z:Int) !=(zz:Int))=true:=by simp;omega
   clear hzz Xt
   go_enter Tryz.func99,Tryz.ntmps99
   go_wp2_with fail
   refine(HM.out _).mono ?_;rintro e w1 ⟨rfl,rfl⟩
   go_wp2
   go_quiet (fail)
   go_wp2
   go_quiet (with_reducible first|exact H1.out _ _|exact H2.out _ _)
   go_wp2
   go_ret3
   exact .inl ⟨Kh.out,rfl,AG (AG (Below.refl _ _) _) _⟩
def R8(v:Value):Option (DataW Value×List MemPlace):=some (.held v,[])
theorem law:Maps.Keyed Tryz.prog 3:=Maps.int_keyed Tryz.underlying3
theorem kY{x:Int}(h:Ff x):keyOf Tryz.prog 3 (.int .i64 x)=some (.int .i64 x):=Maps.keyOf_int_mk Tryz.underlying3 h
theorem pn{x:Int}(h:Ff x):WideAt.IsKeyLit (.int .i64 x):=law.key (kY h)
def Fn(D:DataW Value)(f:Int→Option Value):Prop:=
 Maps.IsMap D∧(∀x,Ff x→f x=none→Maps.has D (.int .i64 x)=false)∧∀x v,Ff x→f x=some v→Maps.has D (.int .i64 x)=true∧∀zd,D.atKey (.int .i64 x) zd=.held v
theorem Fn.empty:Fn (.map []) nothing:=⟨Maps.isMap_empty,fun _ _ _=>rfl,fun _ _ _ h=>by cases h⟩
theorem Fn.put{D:DataW Value}{f:Int→Option Value}(h:Fn D f){i:Int}(hi:Ff i)(v:Value):Fn (D.put (.int .i64 i) (.held v)) (Qt f i v):=by
 obtain⟨h0,h1,h2⟩:=h
 have hne:∀{x:Int},x≠i→(Lit.int .i64 x)≠.int .i64 i:=fun hx e=>hx (by injection e)
 refine⟨h0.put _ _,fun x hx hn=>?_,fun x u hx hu=>?_⟩
 ·by_cases e:x=i
  ·subst e;rw[GR]at hn;cases hn
  ·rw[E0 _ _ e]at hn
   rw[Maps.has_put_other (hne e)];exact h1 x hx hn
 ·by_cases e:x=i
  ·subst e;rw[GR]at hu;injection hu with hu;subst hu
   exact⟨Maps.has_put_same h0 (pn hx) _,fun zd=>Maps.atKey_put_same h0 (pn hx) _ _⟩
  ·rw[E0 _ _ e]at hu
   rw[Maps.has_put_other (hne e)]
   exact⟨(h2 x u hx hu).1,fun zd=>by rw[Maps.atKey_put_other (hne e)];exact(h2 x u hx hu).2 zd⟩
def GN(w:World)(b n:Nat)(f:Int→Option Value):Prop:=∃D:DataW Value,w.ownsMap Tryz.prog 3 R8 b n D∧Fn D f
theorem GN.lt{w:World}{b n:Nat}{f:Int→Option Value}(h:GN w b n f):b<w.heap.size:=by obtain⟨D,h,_⟩:=h;exact h.lt
theorem GN.mono{w:World}{b n n':Nat}{f:Int→Option Value}(h:GN w b n f)(hn:n≤n'):GN w b n' f:=by obtain⟨D,h,k⟩:=h;exact⟨D,h.mono hn,k⟩
theorem GN.same{w w':World}{b n:Nat}{f:Int→Option Value}(h:GN w b n f)(hb:w'.heap[b]?=w.heap[b]?):GN w' b n f:=by
 obtain⟨D,⟨es,clock,h1,h2⟩,k⟩:=h
 exact⟨D,⟨es,clock,hb.trans h1,h2⟩,k⟩
theorem GN.made(w:World):GN (w.alloc (.map #[] 0)) w.heap.size 0 nothing:=⟨_,World.ownsMap_made w Tryz.prog 3 R8,Fn.empty⟩
theorem GN.Ay{w:World}{b n g:Nat}{f:Int→Option Value}{t:TypeId}{cs:List Value}(h:GN w b n f)(hr:Row w g t cs):g≠b:=by
 obtain⟨D,⟨es,clock,h1,_⟩,_⟩:=h
 intro e;subst e;unfold Row at hr;rw[h1]at hr;cases hr
def Words(w:World)(G:Nat→Prop)(v:Value)(l:List Nat):Prop:=
 ∃g c cs,v=.slice (some ⟨g,0,none⟩) l.length c∧Row w g 127 cs∧G g∧l.length≤c∧c≤maxLen∧0<l.length∧(∀x∈l,(Lit.int .u64 (x:Nat)).wf=true)∧cs.take l.length=l.map fun x:Nat=>Value.int .u64 x
theorem Words.CL{w w':World}{G G':Nat→Prop}{v:Value}{l:List Nat}(h:Words w G v l)(hG:∀k cs,Row w k 127 cs→G k→w'.heap[k]?=w.heap[k]?)(mI:∀k cs,Row w k 127 cs→G k→G' k):Words w' G' v l:=by
 obtain⟨g,c,cs,rfl,hr,hg,h1⟩:=h
 exact⟨g,c,cs,rfl,(hG g cs hr hg).trans hr,mI g cs hr hg,h1⟩
theorem Words.reads{w:World}{G:Nat→Prop}{v:Value}{l:List Nat}(h:Words w G v l):∃A c,v=.slice A l.length c∧A≠none∧Reads .u64 w w.heap.size A l.length l:=by
 obtain⟨g,c,cs,rfl,hr,hg,_,_,hp,hw,ht⟩:=h
 refine⟨_,c,rfl,by simp,hr.reads rfl hw (fun i hi=>?_) hr.lt⟩
 have h1:(cs.take l.length)[i]?=cs[i]?:=by rw[List.getElem?_take,if_pos hi]
 rw[←h1,ht,List.getElem?_map,List.getElem?_eq_getElem hi,List.getD_eq_getElem?_getD,List.getElem?_eq_getElem hi];rfl
def Rel(w:World)(G:Nat→Prop):Option Value→Option (List Nat)→Prop
 |none,none=>True
 |some v,some l=>Words w G v l
 | _,_=>False
theorem Rel.CL{w w':World}{G G':Nat→Prop}{v:Option Value}{l:Option (List Nat)}(h:Rel w G v l)(hG:∀k cs,Row w k 127 cs→G k→w'.heap[k]?=w.heap[k]?)(mI:∀k cs,Row w k 127 cs→G k→G' k):Rel w' G' v l:=by
 match v,l,h with
 |none,none,_=>trivial
 |some v,some l,h=>exact Words.CL h hG mI
def Eg(w:World)(G:Nat→Prop)(b n:Nat)(fl:Int→Option (List Nat)):Prop:=∃f,GN w b n f∧∀x,Rel w G (f x) (fl x)
def JH:List (Int×Value)→List Value
 |[]=>[]
 |e::l=>.int .i64 e.1::e.2::JH l
theorem KU:∀l m,JH (l++m)=JH l++JH m
 |[],_=>rfl
 |e::l,m=>by show _:: _::JH (l++m)= _;rw[KU l m];rfl
def GB(w:World)(G:Nat→Prop)(v:Value)(l:List (Int×List Nat)):Prop:=
 ∃rs:List (Int×Value),w.ownsRow 0 177 2 v l.length (JH rs)∧rs.length=l.length∧(∀(i:Nat) (r:Int×Value) (e:Int×List Nat),rs[i]?=some r→l[i]?=some e→r.1=e.1∧Words w G r.2 e.2)∧∀k,v.ownBlock=some k→G k
def cellsOf(s:St)(bl bf:Nat)(v:Value):List Value:=
 [.int .i64 (s.size:Int),.int .i64 s.blocks,.map (some bl),.map (some bf),v,.bool s.fb,.int .i64 s.fn,.bool s.tb,.int .i64 s.tn,.bool s.down,.int .i64 s.Ab]
structure Fits (s:St) (n:Nat):Prop where
 size:8≤s.size∧s.size≤256
 blocks:0≤s.blocks∧s.blocks≤1000000
 fn:0≤s.fn∧s.fn≤1000000
 tn:0≤s.tn∧s.tn≤1000000
 Ab:0≤s.Ab∧s.Ab≤n
 small:n≤1000000
 Ah:∀e∈s.Ah,Ff e.1∧e.2.length=s.size
 fl:∀x l,s.fl x=some l→l.length=s.size
def cK(w:World)(G:Nat→Prop)(p:Nat)(s:St)(n m:Nat):Prop:=
 Fits s n∧∃bl bf v nl,Row w p 90 (cellsOf s bl bf v)∧Eg w G bl nl s.fl∧Eg w G bf s.Ah.length (lay nothing s.Ah)∧GB w G v s.Ah∧bl≠bf∧G p∧G bl∧G bf∧(∀k,G k→k<w.heap.size)∧nl+s.Ah.length≤m
def Gu(w:World)(G:Nat→Prop)(p:Nat)(s:St)(n:Nat):Prop:=cK w G p s n n
section
variable {w w' : World} {G G' : Nat → Prop}
theorem Eg.CL{b n:Nat}{fl:Int→Option (List Nat)}(h:Eg w G b n fl)(hb:w'.heap[b]?=w.heap[b]?)(hG:∀k cs,Row w k 127 cs→G k→w'.heap[k]?=w.heap[k]?)(mI:∀k cs,Row w k 127 cs→G k→G' k):Eg w' G' b n fl:=by
 obtain⟨f,h1,h2⟩:=h
 exact⟨f,h1.same hb,fun x=>(h2 x).CL hG mI⟩
theorem Eg.lt{b n:Nat}{fl:Int→Option (List Nat)}(h:Eg w G b n fl):b<w.heap.size:=by obtain⟨f,h1,_⟩:=h;exact h1.lt
theorem Eg.Ay{b n g:Nat}{fl:Int→Option (List Nat)}{t:TypeId}{cs:List Value}(h:Eg w G b n fl)(hr:Row w g t cs):g≠b:=by obtain⟨f,h1,_⟩:=h;exact h1.Ay hr
theorem Eg.mono{b n n':Nat}{fl:Int→Option (List Nat)}(h:Eg w G b n fl)(hn:n≤n'):Eg w G b n' fl:=by obtain⟨f,h1,h2⟩:=h;exact⟨f,h1.mono hn,h2⟩
theorem GB.CL{v:Value}{l:List (Int×List Nat)}(h:GB w G v l)(hv:∀k,v.ownBlock=some k→G k→w'.heap[k]?=w.heap[k]?∧G' k)(hG:∀k cs,Row w k 127 cs→G k→w'.heap[k]?=w.heap[k]?)(mI:∀k cs,Row w k 127 cs→G k→G' k):GB w' G' v l:=by
 obtain⟨rs,h1,h2,h3,h4⟩:=h
 exact⟨rs,CK h1 fun k hk=>(hv k hk (h4 k hk)).1,h2,fun i r e hr he=>⟨(h3 i r e hr he).1,(h3 i r e hr he).2.CL hG mI⟩,fun k hk=>(hv k hk (h4 k hk)).2⟩
theorem GB.nil(w:World)(G:Nat→Prop):GB w G (.slice none 0 0) []:=⟨[],World.ownsRow_nil _ _ _ _,rfl,fun i r e h=>by simp at h,fun k h=>by simp[Value.ownBlock]at h⟩
theorem GB.Ay{v:Value}{l:List (Int×List Nat)}(h:GB w G v l){g:Nat}{t:TypeId}{cs:List Value}(hr:Row w g t cs)(ht:t≠177):v.ownBlock≠some g:=by
 obtain⟨rs,⟨_,h1⟩,_⟩:=h
 rcases h1 with⟨rfl,_⟩|⟨g',cap,cur,rfl,_,hh,_⟩
 ·simp[Value.ownBlock]
 ·simp only[Value.ownBlock]
  intro e;injection e with e;subst e
  unfold Row at hr;rw[hh]at hr;injection hr with hr;injection hr with _ hr;exact ht hr.symm
theorem GB.QD{v:Value}{l:List (Int×List Nat)}(h:GB w G v l){b n:Nat}{fl:Int→Option (List Nat)}(hs:Eg w G b n fl):v.ownBlock≠some b:=by
 obtain⟨rs,⟨_,h1⟩,_⟩:=h
 rcases h1 with⟨rfl,_⟩|⟨g',cap,cur,rfl,_,hh,_⟩
 ·simp[Value.ownBlock]
 ·simp only[Value.ownBlock]
  intro e;injection e with e;subst e
  obtain⟨f,⟨D,⟨es,clock,h1,_⟩,_⟩,_⟩:=hs
  rw[h1]at hh;cases hh
theorem GB.form{v:Value}{l:List (Int×List Nat)}(h:GB w G v l):∃A c,v=.slice A l.length c:=by
 obtain⟨rs,⟨_,h1⟩,_⟩:=h
 rcases h1 with⟨rfl,h0⟩|⟨g,cap,cur,rfl,_⟩
 ·exact⟨none,0,by rw[h0]⟩
 ·exact⟨_,_,rfl⟩
theorem Gu.CL{p:Nat}{s:St}{n:Nat}(h:Gu w G p s n)(hG:∀k,G k→w'.heap[k]?=w.heap[k]?)(hs:w.heap.size≤w'.heap.size):Gu w' G p s n:=by
 obtain⟨h0,bl,bf,v,nl,h1,h2,h3,h4,h5,h6,h7,h8,h9,ID⟩:=h
 exact⟨h0,bl,bf,v,nl,(hG p h6).trans h1,h2.CL (hG bl h7) (fun k _ _ hk=>hG k hk) (fun k _ _ hk=>hk),h3.CL (hG bf h8) (fun k _ _ hk=>hG k hk) (fun k _ _ hk=>hk),h4.CL (fun k _ hk=>⟨hG k hk,hk⟩) (fun k _ _ hk=>hG k hk) (fun k _ _ hk=>hk),h5,h6,h7,h8,fun k hk=>Nat.lt_of_lt_of_le (h9 k hk) hs,ID⟩
theorem Gu.below{p:Nat}{s:St}{n:Nat}(h:Gu w G p s n)(hb:Below w.heap.size w w'):Gu w' G p s n:=
 h.CL (fun k hk=>hb.block k (by obtain⟨_,_,_,_,_,_,_,_,_,_,_,_,_,h9,_⟩:=h;exact h9 k hk)) hb.size
theorem Gu.lt{p:Nat}{s:St}{n:Nat}(h:Gu w G p s n){k:Nat}(hk:G k):k<w.heap.size:=by obtain⟨_,_,_,_,_,_,_,_,_,_,_,_,_,h9,_⟩:=h;exact h9 k hk
theorem Gu.CU{F:Nat→Prop}{p:Nat}{s:St}{n:Nat}(h:Gu w G p s n)(hb:AK F w w')(hF:∀k,G k→¬F k):Gu w' G p s n:=
 h.CL (fun k hk=>hb.block k (h.lt hk) (hF k hk)) hb.size
theorem Gu.fits{p:Nat}{s:St}{n:Nat}(h:Gu w G p s n):Fits s n:=h.1
theorem Gu.I3{p:Nat}{s:St}{n:Nat}(h:Gu w G p s n):G p:=by obtain⟨_,_,_,_,_,_,_,_,_,_,h6,_⟩:=h;exact h6
theorem Fits.mono{s:St}{n n':Nat}(h:Fits s n)(hn:n≤n')(h6:n'≤1000000):Fits s n':=⟨h.size,h.blocks,h.fn,h.tn,⟨h.Ab.1,by have:=h.Ab.2;omega⟩,h6,h.Ah,h.fl⟩
theorem Gu.mono{p:Nat}{s:St}{n n':Nat}(h:Gu w G p s n)(hn:n≤n')(h6:n'≤1000000):Gu w G p s n':=by
 obtain⟨h0,bl,bf,v,nl,h1,h2,h3,h4,h5,rX,h7,h8,h9,ID⟩:=h
 exact⟨h0.mono hn h6,bl,bf,v,nl,h1,h2,h3,h4,h5,rX,h7,h8,h9,by omega⟩
theorem cK.up{p:Nat}{s:St}{n m:Nat}(h:cK w G p s n m)(hm:m≤n):Gu w G p s n:=by
 obtain⟨h0,bl,bf,v,nl,h1,h2,h3,h4,h5,rX,h7,h8,h9,ID⟩:=h
 exact⟨h0,bl,bf,v,nl,h1,h2,h3,h4,h5,rX,h7,h8,h9,by omega⟩
theorem Gu.begin{p:Nat}{s:St}{n:Nat}(h:Gu w G p s n){b:Bool}{bl bf:Nat}{v:Value}(h1:Row w p 90 (cellsOf s bl bf v))(h2:Row w' p 90 (cellsOf (begin s b).2 bl bf v))(hf:AK (fun k=>k=p) w w')(rA:Fits (begin s b).2 (n+1)):cK w' G p (begin s b).2 (n+1) n:=by
 obtain⟨h0,rz,r9,v',nl,k1,k2,k3,k4,k5,k6,k7,k8,k9,eY⟩:=h
 obtain⟨e1,e2,e3,e4⟩:=Cs s b
 have e0:cellsOf s bl bf v=cellsOf s rz r9 v':=by
  unfold Row at h1 k1;rw[h1]at k1;injection k1 with k1;injection k1 with k1;simpa using k1
 obtain⟨rfl,rfl,rfl⟩:bl=rz∧bf=r9∧v=v':=by simpa [cellsOf]using e0
 have hne:∀k cs,Row w k 127 cs→k≠p:=by
  intro k cs hk e;subst e
  unfold Row at h1 hk;rw[h1]at hk;injection hk with hk;injection hk with _ hk;exact absurd hk (by decide)
 have Aj:bl≠p:=fun e=>k2.Ay h1 e.symm
 have AX:bf≠p:=fun e=>k3.Ay h1 e.symm
 have IX:∀k cs,Row w k 127 cs→G k→w'.heap[k]?=w.heap[k]?:=fun k cs hk hg=>hf.block k hk.lt (hne k cs hk)
 refine⟨rA,bl,bf,v,nl,h2,?_,?_,?_,k5,k6,k7,k8,fun k hk=>Nat.lt_of_lt_of_le (k9 k hk) hf.size,by rw[e4];omega⟩
 ·rw[e3];exact k2.CL (hf.block bl k2.lt Aj) IX (fun k _ _ hk=>hk)
 ·rw[e4];exact k3.CL (hf.block bf k3.lt AX) IX (fun k _ _ hk=>hk)
 ·rw[e4];exact k4.CL (fun k hk hg=>⟨hf.block k (k9 k hg) fun e=>k4.Ay h1 (by decide) (by rw[←e];exact hk),hg⟩) IX (fun k _ _ hk=>hk)
end
theorem Uc{s:St}{n:Nat}(h:Fits s n)(hn:n<1000000)(b:Bool):Fits (begin s b).2 (n+1):=by
 obtain⟨e1,e2,e3,e4⟩:=Cs s b
 have ha:=Ue s b
 have hf:(0≤(begin s b).2.fn∧(begin s b).2.fn≤1000000)∧(0≤(begin s b).2.tn∧(begin s b).2.tn≤1000000):=by
  have h1:=h.fn
  have h2:=h.tn
  unfold begin
  by_cases hd:s.down=true
  ·rw[if_pos hd];exact⟨h1,h2⟩
  rw[if_neg hd]
  by_cases hb:b=false
  ·rw[if_pos hb];exact⟨h1,h2⟩
  rw[if_neg hb]
  by_cases hA:s.fb=true∧s.fn=0
  ·rw[if_pos hA];exact⟨h1,h2⟩
  rw[if_neg hA]
  have xV:0≤(if s.fb=true then s.fn-1 else s.fn)∧(if s.fb=true then s.fn-1 else s.fn)≤1000000:=by
   split
   ·rename_i hB;have:s.fn≠0:=fun e=>hA ⟨hB,e⟩;omega
   ·exact h1
  by_cases hC:s.tb=true∧s.tn=0
  ·dsimp only;rw[if_pos hC];exact⟨xV,by dsimp only;omega⟩
  ·dsimp only;rw[if_neg hC]
   refine⟨xV,?_⟩
   show 0≤(if s.tb=true then s.tn-1 else s.tn)∧(if s.tb=true then s.tn-1 else s.tn)≤1000000
   split
   ·rename_i hB;have:s.tn≠0:=fun e=>hC ⟨hB,e⟩;omega
   ·exact h2
 refine⟨by rw[e1];exact h.size,by rw[e2];exact h.blocks,hf.1,hf.2,?_,by omega,by rw[e4,e1];exact h.Ah,by rw[e3,e1];exact h.fl⟩
 have:=h.Ab
 rcases ha with ha|ha<;>rw[ha]<;>omega
section
variable (p : Nat) (s : St) (bl bf : Nat) (v : Value) (w : World)
theorem bA(hr:Row w p 90 (cellsOf s bl bf v)):Calls Tryz.prog 119 #[.pointer (some ⟨p,0,none⟩)] w fun e w'=>e=.returned (.bool s.down)∧w'=w:=by
 have c9:w.cell? ⟨p,9,none⟩=some (.bool s.down):=hr.cell 9
 go_enter Tryz.func119,Tryz.ntmps119
 go_wp2
 go_ret
 exact⟨rfl,rfl⟩
theorem Yu(hr:Row w p 90 (cellsOf s bl bf v)):Calls Tryz.prog 44 #[.pointer (some ⟨p,0,none⟩)] w fun e w'=>e=.returned (.int .i64 (s.size:Int))∧w'=w:=by
 have c0:w.cell? ⟨p,0,none⟩=some (.int .i64 (s.size:Int)):=hr.cell 0
 go_enter Tryz.func44,Tryz.ntmps44
 go_wp2
 go_ret
 exact⟨rfl,rfl⟩
theorem Ub(hr:Row w p 90 (cellsOf s bl bf v)):Calls Tryz.prog 122 #[.pointer (some ⟨p,0,none⟩)] w fun e w'=>e=.returned (.int .i64 s.blocks)∧w'=w:=by
 have c1:w.cell? ⟨p,1,none⟩=some (.int .i64 s.blocks):=hr.cell 1
 go_enter Tryz.func122,Tryz.ntmps122
 go_wp2
 go_ret
 exact⟨rfl,rfl⟩
theorem bL(hr:Row w p 90 (cellsOf s bl bf v)):Calls Tryz.prog 26 #[.pointer (some ⟨p,0,none⟩)] w fun e w'=>e=.returned (.int .i64 s.Ab)∧w'=w:=by
 have c1:w.cell? ⟨p,10,none⟩=some (.int .i64 s.Ab):=hr.cell 10
 go_enter Tryz.func26,Tryz.ntmps26
 go_wp2
 go_ret
 exact⟨rfl,rfl⟩
theorem VU(i:Int)(hr:Row w p 90 (cellsOf s bl bf v)):Calls Tryz.prog 106 #[.pointer (some ⟨p,0,none⟩),.int .i64 i] w fun e w'=>e=.returned (.bool (right s i))∧w'=w:=by
 have hb:=Ub p s bl bf v w hr
 have HX:Hid (right s i=(decide (0≤i)&&decide (i<s.blocks))):=rfl
 by_cases h0:0≤i
 ·have rY:decide (i≥0)=true:=by simpa using h0
  have mM:decide (0≤i)=true:=by simpa using h0
  go_enter Tryz.func106,Tryz.ntmps106
  go_wp2_with fail
  refine hb.mono ?_
  rintro e w1 ⟨rfl,rfl⟩
  go_wp2
  go_ret
  exact⟨Di (by rw[HX.out,mM];simp),rfl⟩
 ·have rY:decide (i≥0)=false:=by simpa using h0
  have mM:decide (0≤i)=false:=by simpa using h0
  go_enter Tryz.func106,Tryz.ntmps106
  go_wp2
  go_ret
  exact⟨Di (by rw[HX.out,mM];simp),rfl⟩
theorem Kx(b o:Nat)(isSet:Bool)(left:Int)(c0:w.cell? ⟨b,o,none⟩=some (.bool isSet))(c1:w.cell? ⟨b,o+1,none⟩=some (.int .i64 left)):
  Calls Tryz.prog 120 #[.pointer (some ⟨b,o,none⟩)] w fun e w'=>e=.returned (.bool (isSet&&left==0))∧w'=w:=by
 cases isSet
 ·go_enter Tryz.func120,Tryz.ntmps120
  go_wp2
  go_ret
  exact⟨rfl,rfl⟩
 ·go_enter Tryz.func120,Tryz.ntmps120
  go_wp2
  go_ret
  exact⟨rfl,rfl⟩
theorem M5(b o:Nat)(isSet:Bool)(left:Int)(c0:w.cell? ⟨b,o,none⟩=some (.bool isSet))(c1:w.cell? ⟨b,o+1,none⟩=some (.int .i64 left))(f1:w.frozen? ⟨b,o+1,none⟩=false)(hl:0≤left∧left≤1000000):
  Calls Tryz.prog 121 #[.pointer (some ⟨b,o,none⟩)] w fun e w'=>e=.returned (.tuple #[])∧w'=if isSet then w.setCell ⟨b,o+1,none⟩ (.int .i64 (left-1))else w:=by
 cases isSet
 ·go_enter Tryz.func121,Tryz.ntmps121
  go_wp2
  go_end0
  exact⟨rfl,rfl⟩
 ·go_enter Tryz.func121,Tryz.ntmps121
  go_wp2
  go_end0
  exact⟨rfl,rfl⟩
end
theorem Row.DK{w:World}{p:Nat}{s s':St}{bl bf:Nat}{v:Value}(hr:Row w p 90 (cellsOf s bl bf v))(i:Nat)(u:Value)(he:(cellsOf s bl bf v).set i u=cellsOf s' bl bf v):Row (w.setCell ⟨p,i,none⟩ u) p 90 (cellsOf s' bl bf v):=by
 have:=hr.set i u
 rw[he]at this;exact this
theorem Fy{w w1:World}{p:Nat}(h:AK (fun k=>k=p) w w1)(i:Nat)(u:Value):AK (fun k=>k=p) w (w1.setCell ⟨p,i,none⟩ u):=h.set (.inl rfl) u
theorem St.fX(s:St)(h:s.fb=false):({s with fn:=if s.fb then s.fn-1 else s.fn}:St)=s:=by cases s;simp_all
theorem St.dM(s:St)(h:s.tb=false):({s with tn:=if s.tb then s.tn-1 else s.tn}:St)=s:=by cases s;simp_all
theorem St.fY(s:St)(h:s.fb=true):({s with fn:=if s.fb then s.fn-1 else s.fn}:St)={s with fn:=s.fn-1}:=by cases s;simp_all
theorem St.dN(s:St)(h:s.tb=true):({s with tn:=if s.tb then s.tn-1 else s.tn}:St)={s with tn:=s.tn-1}:=by cases s;simp_all
theorem Xk(p:Nat)(s:St)(n:Nat)(bl bf:Nat)(v:Value)(b:Bool)(w:World)(hf:Fits s n)(hr:Row w p 90 (cellsOf s bl bf v)):
  Calls Tryz.prog 105 #[.pointer (some ⟨p,0,none⟩),.bool b] w fun e w'=>e=.returned (.int .i64 (begin s b).1)∧Row w' p 90 (cellsOf (begin s b).2 bl bf v)∧AK (fun k=>k=p) w w':=by
 have hd:=bA p s bl bf v w hr
 by_cases SN:s.down=true
 ·have HX:=Lib.hid (Ud s b SN)
  rw[SN]at hd
  go_enter Tryz.func105,Tryz.ntmps105
  go_wp2_with fail
  refine hd.mono ?_
  rintro e w1 ⟨rfl,rfl⟩
  go_wp2
  go_ret
  rw[HX.out]
  exact⟨rfl,hr,AK.refl _ _⟩
 have UE:s.down=false:=by simpa using SN
 rw[UE]at hd
 cases b
 ·have HX:Hid (begin s false=(1,s)):=by unfold Hid begin;simp[UE]
  go_enter Tryz.func105,Tryz.ntmps105
  go_wp2_with fail
  refine hd.mono ?_
  rintro e w1 ⟨rfl,rfl⟩
  go_wp2
  go_ret
  rw[HX.out]
  exact⟨rfl,hr,AK.refl _ _⟩
 have hi:=Kx w p 5 s.fb s.fn (hr.cell 5) (hr.cell 6)
 by_cases hA:s.fb=true∧s.fn=0
 ·have HX:Hid (begin s true=(8,{s with down:=true})):=by unfold Hid begin;simp[UE,hA]
  rw[show (s.fb&&s.fn==0)=true by simp[hA]]at hi
  have f9:=hr.free 9
  have c9:w.cell? ⟨p,9,none⟩=some (.bool s.down):=hr.cell 9
  go_enter Tryz.func105,Tryz.ntmps105
  go_wp2_with fail
  refine hd.mono ?_
  rintro e w1 ⟨rfl,rfl⟩
  go_wp2_with fail
  refine hi.mono ?_
  rintro e w1 ⟨rfl,rfl⟩
  go_wp2
  go_ret
  rw[HX.out]
  exact⟨rfl,hr.DK 9 _ rfl,Fy (AK.refl _ _) _ _⟩
 rw[show (s.fb&&s.fn==0)=false by rw[Bool.eq_false_iff];simpa using hA]at hi
 have hl:=M5 w p 5 s.fb s.fn (hr.cell 5) (hr.cell 6) (hr.free 6) hf.fn
 obtain⟨s1,EP⟩:∃s1:St,s1={s with fn:=if s.fb then s.fn-1 else s.fn}:=⟨_,rfl⟩
 have BS:∀w',w'=(if s.fb=true then w.setCell ⟨p,5+1,none⟩ (.int .i64 (s.fn-1))else w)→Row w' p 90 (cellsOf s1 bl bf v)∧AK (fun k=>k=p) w w':=by
  intro w' Tz
  subst EP
  by_cases O8:s.fb=false
  ·rw[St.fX s O8]
   rw[O8]at Tz
   simp at Tz;subst Tz
   exact⟨hr,AK.refl _ _⟩
  ·have O8:s.fb=true:=by simpa using O8
   rw[St.fY s O8]
   rw[O8]at Tz
   simp at Tz;subst Tz
   exact⟨hr.DK 6 _ rfl,Fy (AK.refl _ _) _ _⟩
 have qX:=Lib.hid BS
 have ep:s1.tb=s.tb:=by rw[EP]
 have ku:s1.tn=s.tn:=by rw[EP]
 by_cases hC:s.tb=true∧s.tn=0
 ·have HX:Hid (begin s true=(6,{s1 with tb:=false,tn:=0})):=by
   subst EP;unfold Hid begin;rw[if_neg SN,if_neg (by decide),if_neg hA];dsimp only;rw[if_pos hC]
  clear BS EP
  go_enter Tryz.func105,Tryz.ntmps105
  go_wp2_with fail
  refine hd.mono ?_
  rintro e w1 ⟨rfl,rfl⟩
  go_wp2_with fail
  refine hi.mono ?_
  rintro e w1 ⟨rfl,rfl⟩
  go_wp2_with fail
  refine hl.mono ?_
  rintro e w2 ⟨rfl,EV⟩
  obtain⟨Ap,DZ⟩:=qX.out w2 EV
  have Ka:=Lib.hid Ap
  have Q8:=Lib.hid DZ
  clear EV DZ hl hi hd
  have hi2:=Kx w2 p 7 s1.tb s1.tn (Ap.cell 7) (Ap.cell 8)
  rw[show (s1.tb&&s1.tn==0)=true by simp[ep,ku,hC]]at hi2
  have f7:=Ap.free 7
  have f8:=Ap.free 8
  have c7:w2.cell? ⟨p,7,none⟩=some (.bool s1.tb):=Ap.cell 7
  have c8:w2.cell? ⟨p,8,none⟩=some (.int .i64 s1.tn):=Ap.cell 8
  clear Ap hC ep ku
  go_wp2_with fail
  refine hi2.mono ?_
  rintro e w3 ⟨rfl,rfl⟩
  go_wp2
  go_ret
  rw[HX.out]
  exact⟨rfl,(Ka.out.DK (s':={s1 with tb:=false}) 7 _ rfl).DK 8 _ rfl,Fy (Fy Q8.out _ _) _ _⟩
 ·have HX:Hid (begin s true=(0,{s1 with tn:=if s1.tb then s1.tn-1 else s1.tn,Ab:=s1.Ab+1})):=by
   subst EP;unfold Hid begin;rw[if_neg SN,if_neg (by decide),if_neg hA];dsimp only;rw[if_neg hC]
  have hts:0≤s1.tn∧s1.tn≤1000000:=by rw[ku];exact hf.tn
  have has:0≤s1.Ab∧s1.Ab≤n:=by rw[EP];exact hf.Ab
  have h6:=hf.small
  clear BS EP
  go_enter Tryz.func105,Tryz.ntmps105
  go_wp2_with fail
  refine hd.mono ?_
  rintro e w1 ⟨rfl,rfl⟩
  go_wp2_with fail
  refine hi.mono ?_
  rintro e w1 ⟨rfl,rfl⟩
  go_wp2_with fail
  refine hl.mono ?_
  rintro e w2 ⟨rfl,EV⟩
  obtain⟨Ap,DZ⟩:=qX.out w2 EV
  have Ka:=Lib.hid Ap
  have Q8:=Lib.hid DZ
  clear EV DZ hl hi hd
  have hi2:=Kx w2 p 7 s1.tb s1.tn (Ap.cell 7) (Ap.cell 8)
  rw[show (s1.tb&&s1.tn==0)=false by rw[Bool.eq_false_iff,ep,ku];simpa using hC]at hi2
  have lT:=M5 w2 p 7 s1.tb s1.tn (Ap.cell 7) (Ap.cell 8) (Ap.free 8) hts
  have Cm:∀w',w'=(if s1.tb=true then w2.setCell ⟨p,7+1,none⟩ (.int .i64 (s1.tn-1))else w2)→Row w' p 90 (cellsOf {s1 with tn:=if s1.tb then s1.tn-1 else s1.tn} bl bf v)∧AK (fun k=>k=p) w1 w':=by
   intro w' Tz
   by_cases O8:s1.tb=false
   ·rw[St.dM s1 O8]
    rw[O8]at Tz
    simp at Tz;subst Tz
    exact⟨Ap,Q8.out⟩
   ·have O8:s1.tb=true:=by simpa using O8
    rw[St.dN s1 O8]
    rw[O8]at Tz
    simp at Tz;subst Tz
    exact⟨Ap.DK 8 _ rfl,Fy Q8.out _ _⟩
  have Hq:=Lib.hid Cm
  clear Ap Cm hC ep ku hts
  go_wp2_with fail
  refine hi2.mono ?_
  rintro e w3 ⟨rfl,rfl⟩
  go_wp2_with fail
  refine lT.mono ?_
  rintro e w4 ⟨rfl,Ty⟩
  obtain⟨FZ,L0⟩:=Hq.out w4 Ty
  have bW:=Lib.hid FZ
  have zM:=Lib.hid L0
  have f10:=FZ.free 10
  have c10:w4.cell? ⟨p,10,none⟩=some (.int .i64 s1.Ab):=FZ.cell 10
  clear Ty FZ L0 hi2 lT
  go_wp2
  go_ret
  rw[HX.out]
  exact⟨rfl,bW.out.DK 10 _ rfl,Fy zM.out _ _⟩
theorem Vj(p:Nat)(s:St)(n:Nat)(G:Nat→Prop)(b:Bool)(w:World)(h:Gu w G p s n)(hn:n<1000000):
  Calls Tryz.prog 105 #[.pointer (some ⟨p,0,none⟩),.bool b] w fun e w'=>e=.returned (.int .i64 (begin s b).1)∧cK w' G p (begin s b).2 (n+1) n∧AK (fun k=>k=p) w w':=by
 obtain⟨bl,bf,v,nl,hr,_⟩:=id h.2
 refine(Xk p s n bl bf v b w h.1 hr).mono ?_
 rintro e w' ⟨he,h2,h3⟩
 exact⟨he,h.begin hr h2 h3 (Uc h.1 hn b),h3⟩
theorem Gu.Jz{w w':World}{G:Nat→Prop}{p:Nat}{s s':St}{n n':Nat}{bl bf:Nat}{v:Value}(h:Gu w G p s n)(h1:Row w p 90 (cellsOf s bl bf v))(h2:Row w' p 90 (cellsOf s' bl bf v))(hf:AK (fun k=>k=p) w w')(rA:Fits s' n')(hn:n≤n')(e3:s'.fl=s.fl)(e4:s'.Ah=s.Ah):Gu w' G p s' n':=by
 obtain⟨h0,rz,r9,v',nl,k1,k2,k3,k4,k5,k6,k7,k8,k9,eY⟩:=h
 have e0:cellsOf s bl bf v=cellsOf s rz r9 v':=by
  unfold Row at h1 k1;rw[h1]at k1;injection k1 with k1;injection k1 with k1;simpa using k1
 obtain⟨rfl,rfl,rfl⟩:bl=rz∧bf=r9∧v=v':=by simpa [cellsOf]using e0
 have hne:∀k cs,Row w k 127 cs→k≠p:=by
  intro k cs hk e;subst e
  unfold Row at h1 hk;rw[h1]at hk;injection hk with hk;injection hk with _ hk;exact absurd hk (by decide)
 have Aj:bl≠p:=fun e=>k2.Ay h1 e.symm
 have AX:bf≠p:=fun e=>k3.Ay h1 e.symm
 have IX:∀k cs,Row w k 127 cs→G k→w'.heap[k]?=w.heap[k]?:=fun k cs hk _=>hf.block k hk.lt (hne k cs hk)
 refine⟨rA,bl,bf,v,nl,h2,?_,?_,?_,k5,k6,k7,k8,fun k hk=>Nat.lt_of_lt_of_le (k9 k hk) hf.size,by rw[e4];omega⟩
 ·rw[e3];exact k2.CL (hf.block bl k2.lt Aj) IX (fun k _ _ hk=>hk)
 ·rw[e4];exact k3.CL (hf.block bf k3.lt AX) IX (fun k _ _ hk=>hk)
 ·rw[e4];exact k4.CL (fun k hk hg=>⟨hf.block k (k9 k hg) fun e=>k4.Ay h1 (by decide) (by rw[←e];exact hk),hg⟩) IX (fun k _ _ hk=>hk)
theorem Rx(n:Int)(w:World)(h0:0≤n):Calls Tryz.prog 41 #[.int .i64 n] w fun e w'=>e=.returned (.agg #[.bool true,.int .i64 n])∧Below w.heap.size w w':=by
 have g:decide (n<0)=false:=by simpa using h0
 go_enter Tryz.func41,Tryz.ntmps41
 go_wp2
 refine bodyPost_ret (v:=.agg #[.bool true,.int .i64 n]) (by simp[results,Tryz.results41,go_sem]) rfl ?_
 exact⟨rfl,(Below.refl _ w).alloc (Nat.le_refl _) _⟩
theorem Pw(p:Nat)(s:St)(n:Nat)(G:Nat→Prop)(m:Int)(w:World)(h:Gu w G p s n)(h0:0≤m)(h1:m≤1000000):
  Calls Tryz.prog 19 #[.pointer (some ⟨p,0,none⟩),.int .i64 m] w fun e w'=>e=.returned (.tuple #[])∧Gu w' G p {s with tb:=true,tn:=m} n∧AK (fun k=>k=p) w w':=by
 obtain⟨bl,bf,v,nl,hr,_⟩:=id h.2
 have hfit:Fits {s with tb:=true,tn:=m} n:=⟨h.1.size,h.1.blocks,h.1.fn,⟨h0,h1⟩,h.1.Ab,h.1.small,h.1.Ah,h.1.fl⟩
 have hd:=Lib.hid h
 clear h
 have hb:=Rx m w h0
 go_enter Tryz.func19,Tryz.ntmps19
 go_wp2_with fail
 refine hb.mono ?_
 rintro e w1 ⟨rfl,Aj⟩
 have BS:=hr.below Aj hr.lt
 have IF:=Lib.hid (hd.out.below Aj)
 have c5:w1.cell? ⟨p,7,none⟩=some (.bool s.tb):=BS.cell 7
 have c6:w1.cell? ⟨p,8,none⟩=some (.int .i64 s.tn):=BS.cell 8
 have f5:=BS.free 7
 have f6:=BS.free 8
 have OH:=Lib.hid (AK.AJ Aj (fun k=>k=p))
 have Dr:=Lib.hid BS
 clear Aj BS hb
 go_wp2
 go_end0
 exact⟨rfl,IF.out.Jz Dr.out ((Dr.out.DK (s':={s with tb:=true}) 7 _ rfl).DK (s':={s with tb:=true,tn:=m}) 8 _ rfl) (Fy (Fy (AK.refl _ _) _ _) _ _) hfit (Nat.le_refl _) rfl rfl,Fy (Fy OH.out _ _) _ _⟩
theorem iE:(Tryz.prog.info? 127).map (fun i=>(i.zero,i.size,i.bytes))=some (some (.int .u64 0),1,8):=by kernel_rfl
theorem ownsRow_made(w:World)(e:TypeId):(w.alloc (.cells #[] e)).ownsRow w.heap.size e 1 (.slice (some ⟨w.heap.size,0,none⟩) 0 0) 0 []:=
 ⟨rfl,.inr ⟨w.heap.size,0,#[],rfl,Nat.le_refl _,heap_alloc_new _ _,Nat.le_refl _,Nat.zero_le _,rfl,rfl⟩⟩
theorem Wi{w:World}{base:Nat}{v:Value}{n:Nat}{l:List Nat}(h:w.ownsRow base 127 1 v n (l.map fun x:Nat=>Value.int .u64 x))(hl:l.length=n)(hp:0<n)(hw:∀x∈l,(Lit.int .u64 (x:Nat)).wf=true):Words w (fun k=>base≤k) v l:=by
 subst hl
 obtain⟨g,cap,cs,rfl,hg,hr,hc,hm,_,ht⟩:=eD h hp
 exact⟨g,cap,cs,rfl,hr,hg,hc,hm,hp,hw,ht⟩
theorem JT(A:Option Addr)(n c:Nat)(l:List Nat)(w:World){B:Nat}(hl:Reads .u64 w B A n l)(hn:0<n)(QS:n≤1000000)(hB:B≤w.heap.size):
  Calls Tryz.prog 107 #[.slice A n c] w fun e w'=>∃v,e=.returned v∧Words w' (fun k=>w.heap.size≤k) v l∧Below w.heap.size w w':=by
 obtain⟨i0,hi,Cy,CM,GJ⟩:=info_parts iE
 obtain⟨Jc,QT,lT⟩:=id hl
 obtain⟨b,off,rfl,MK,_⟩:=lT hn
 have HL:=Lib.hid hl
 have ux:=Lib.hid Jc
 have OG:=Lib.hid QT
 clear hl Jc QT lT
 have hq:=fun w=>Go.Lib.run_eql_slice_nil (P:=Tryz.prog) w 123 127 (some ⟨b,off,none⟩) n c 0 0 Tryz.underlying123
 go_enter Tryz.func107,Tryz.ntmps107
 go_wp2_with (with_reducible refine BX 7 ?_)
 unfold Hid
 refine E7 _ rfl _ _ 123 rfl w.heap.size 127 i0 (.int .u64 0) 8 Tryz.underlying123 hi Cy CM GJ rfl _ 0 [] rfl (ownsRow_made w 127) (some ⟨b,off,none⟩) n c (l.map fun x:Nat=>Value.int .u64 x) rfl (by rw[List.length_map];exact ux.out) (HL.out.CL ((Below.refl _ w).alloc (by omega) _:Below B w _)).source PW (by omega) (by omega) (by simp) ?_
 intro v' w' BG hb
 rw[Nat.zero_add,List.nil_append]at BG
 have HO:=Lib.hid BG
 have HB:=Lib.hid (((Below.refl w.heap.size w).alloc (Nat.le_refl _) _).trans hb)
 clear BG hb
 go_wp2
 go_ret
 exact⟨v',rfl,Wi HO.out ux.out hn OG.out,HB.out⟩
theorem jl(w:World):(zeroValue 123).run Tryz.prog w=.ok (.slice none 0 0) w:=by kernel_rfl
theorem Cf(w:World){ops:Array Oper}{rest:List Oper}{o:Oper}{a:Act}{Q:Exit→Act→World→Prop}
  (hg:o.guard=none) (m x:Operand) (fC:o.op=Op.lookup 87 m x true) (b n:Nat) (f:Int→Option Value) (hm:a.eval m=.map (some b)) (h:GN w b n f) (i:Int) (hi:Ff i) (hx:a.eval x=.int .i64 i)
  (u:Value) (k:Bool) (hu:(u=.slice none 0 0∧k=false∧f i=none)∨(f i=some u∧k=true)) (hK:wpList Tryz.prog ops Q rest (a.put o.dst (.tuple #[u,.bool k])) w):
  wpList Tryz.prog ops Q (o::rest) a w:=by
 obtain⟨D,BG,h0,h1,h2⟩:=h
 refine wpList_lookup_own_ok w hg m x 87 fC 3 123 law Tryz.underlying87 R8 (jl w) (.held (.slice none 0 0)) [] rfl b n D hm BG _ (.int .i64 i) hx (kY hi) ?_
 intro v ps hv
 have Zv:DataW.held v=D.atKey (.int .i64 i) (.held (.slice none 0 0)):=by unfold R8 at hv;injection hv with hv;injection hv
 rcases hu with⟨rfl,rfl,hn⟩|⟨hs,rfl⟩
 ·have hh:=h1 i hi hn
  rw[Maps.atKey_of_not_has hh]at Zv
  injection Zv with Zv
  rw[hh,Zv];exact hK
 ·obtain⟨hh,ha⟩:=h2 i u hi hs
  rw[ha]at Zv
  injection Zv with Zv
  rw[hh,Zv];exact hK
theorem SH(size:Nat)(blocks:Int)(b:Nat)(w:World):
  Calls Tryz.prog 57 #[.int .i64 (size:Int),.int .i64 blocks,.map (some b)] w fun e w'=>e=.returned (.pointer (some ⟨w.heap.size+1,0,none⟩))∧GN w' w.heap.size 0 nothing∧
   Row w' (w.heap.size+1) 90 (cellsOf (fresh size blocks) b w.heap.size (.slice none 0 0))∧Below w.heap.size w w'∧w'.heap.size=w.heap.size+2:=by
 have hmm:=@run_makeMap Tryz.prog
 have H1:=Lib.hid ((GN.made w).same (w':=(w.alloc (.map #[] 0)).alloc (.cells (cellsOf (fresh size blocks) b w.heap.size (.slice none 0 0)).toArray 90)) (Below.heap_alloc _ _ _ (by simp)))
 have H2:Hid (Row ((w.alloc (.map #[] 0)).alloc (.cells (cellsOf (fresh size blocks) b w.heap.size (.slice none 0 0)).toArray 90)) (w.heap.size+1) 90 (cellsOf (fresh size blocks) b w.heap.size (.slice none 0 0))):=by
  unfold Hid
  have:=heap_alloc_new (w.alloc (.map #[] 0)) (.cells (cellsOf (fresh size blocks) b w.heap.size (.slice none 0 0)).toArray 90)
  simp only[World.alloc,Array.size_push]at this⊢
  exact this
 go_enter Tryz.func57,Tryz.ntmps57
 go_wp2
 go_ret
 exact⟨rfl,H1.out,H2.out,((Below.refl _ w).alloc (Nat.le_refl _) _).alloc (by simp) _,by simp⟩
theorem UM{size:Nat}{blocks:Int}(h1:8≤size∧size≤256)(h2:0≤blocks∧blocks≤1000000):Fits (fresh size blocks) 0:=
 ⟨h1,h2,⟨Int.le_refl 0,(by decide:(0:Int)≤1000000)⟩,⟨Int.le_refl 0,(by decide:(0:Int)≤1000000)⟩,⟨Int.le_refl 0,Int.le_refl 0⟩,by decide,fun e he=>(by cases he),fun x l h=>(by cases h)⟩
theorem eH(size:Nat)(blocks:Int)(w:World)(h1:8≤size∧size≤256)(h2:0≤blocks∧blocks≤1000000):
  Calls Tryz.prog 29 #[.int .i64 (size:Int),.int .i64 blocks] w fun e w'=>∃p G,e=.returned (.tuple #[.pointer (some ⟨p,0,none⟩),.int .i64 0])∧Gu w' G p (fresh size blocks) 0∧(∀k,G k→w.heap.size≤k)∧Below w.heap.size w w':=by
 have hmm:=@run_makeMap Tryz.prog
 have g1:decide ((size:Int)<8)=false:=by simp;omega
 have g2:decide ((size:Int)>256)=false:=by simp;omega
 have g3:decide (blocks<0)=false:=by simp;omega
 have g4:decide (blocks>1000000)=false:=by simp;omega
 have hh:=SH size blocks w.heap.size (w.alloc (.map #[] 0))
 have HM:=Lib.hid (GN.made w)
 have HF:=Lib.hid (UM h1 h2)
 clear h1 h2
 go_enter Tryz.func29,Tryz.ntmps29
 go_wp2_with fail
 refine hh.mono ?_
 rintro e w1 ⟨rfl,Qy,BS,Aj,CM⟩
 have hz:(w.alloc (.map #[] 0)).heap.size=w.heap.size+1:=by simp
 rw[hz]at Qy BS Aj CM
 have hm0:=HM.out.same (Aj.block w.heap.size (by omega))
 have HD:Hid (Gu w1 (fun k=>w.heap.size≤k∧k<w1.heap.size) (w.heap.size+1+1) (fresh size blocks) 0):=
  ⟨HF.out,w.heap.size,w.heap.size+1,.slice none 0 0,0,BS,⟨nothing,hm0,fun x=>trivial⟩,⟨nothing,Qy,fun x=>trivial⟩,GB.nil _ _,by omega,⟨by omega,by omega⟩,⟨by omega,by omega⟩,⟨by omega,by omega⟩,fun k hk=>hk.2,Nat.le_refl _⟩
 have HB:=Lib.hid (((Below.refl w.heap.size w).alloc (Nat.le_refl _) (.map #[] 0)).trans (Aj.mono (by omega)))
 clear Qy BS Aj hm0 hz hh
 go_wp2
 go_ret2
 exact⟨w.heap.size+1+1,_,rfl,HD.out,fun k hk=>hk.1,HB.out⟩
theorem Lp{w:World}{g:Nat}{n:Nat}(h:Row w g 127 (List.replicate n (.int .u64 0)))(hn:0<n)(hm:n≤maxLen){G:Nat→Prop}(hg:G g):Words w G (.slice (some ⟨g,0,none⟩) n n) (List.replicate n 0):=by
 refine⟨g,n,_,by rw[List.length_replicate],h,hg,by simp,hm,by simpa using hn,fun x hx=>by rw[List.eq_of_mem_replicate hx];decide,?_⟩
 simp
theorem ZG(p:Nat)(s:St)(n:Nat)(G:Nat→Prop)(i:Int)(w:World)(h:Gu w G p s n)(hn:n<1000000)(hi:Ff i):
  Calls Tryz.prog 98 #[.pointer (some ⟨p,0,none⟩),.int .i64 i] w fun e w'=>∃v,e=.returned (.tuple #[v,.int .i64 (read s i).1])∧((read s i).1≠0→v=.slice none 0 0)∧((read s i).1=0→Words w' (fun k=>w.heap.size≤k) v (s.now i))∧
   Gu w' G p (read s i).2 (n+1)∧AK (fun k=>k=p) w w':=by
 obtain⟨_,yR,yS,v0,nl0,hr,_⟩:=id h
 have hh:=VU p s yR yS v0 w i hr
 have ha:=Vj p s n G (right s i) w h hn
 have HR:Hid (read s i=begin s (right s i)):=rfl
 rw[HR.out]
 obtain⟨e1,e2,e3,e4⟩:=Cs s (right s i)
 have HE:=Lib.hid e1
 have gX:=Lib.hid e3
 have pE:=Lib.hid e4
 clear e1 e2 e3 e4 hr h HR
 generalize begin s (right s i)=r at*
 obtain⟨er,s'⟩:=r
 simp only at ha HE gX pE⊢
 by_cases he:er=0
 ·subst he
  go_enter Tryz.func98,Tryz.ntmps98
  go_wp2_with fail
  refine hh.mono ?_
  rintro e w1 ⟨rfl,rfl⟩
  go_wp2_with fail
  refine ha.mono ?_
  rintro e Pk ⟨rfl,IF,IZ⟩
  obtain⟨hfit,bl,bf,v,nl,k1,k2,k3,k4,k5,k6,k7,k8,k9,eY⟩:=id IF
  have c0:Pk.cell? ⟨p,0,none⟩=some (.int .i64 (s'.size:Int)):=k1.cell 0
  have c2:Pk.cell? ⟨p,2,none⟩=some (.map (some bl)):=k1.cell 2
  have c3:Pk.cell? ⟨p,3,none⟩=some (.map (some bf)):=k1.cell 3
  obtain⟨ff,hmf,NG⟩:=k3
  obtain⟨fl,lQ,hrl⟩:=k2
  have sn:=Lib.hid hmf
  have HML:=Lib.hid lQ
  have NG:=NG i
  have hrl:=hrl i
  have nj:=Lib.hid (IF.up (Nat.le_succ n))
  have OH:=Lib.hid IZ
  have hsz:=hfit.size
  have fE:s.now i=blk s'.size (over (lay nothing s'.Ah) s'.fl i):=by unfold St.now;rw[HE.out,gX.out,pE.out,kX]
  have nT:=Lib.hid fE
  have VN:∀l,lay nothing s'.Ah i=some l→l.length=s'.size:=fun l hl=>QG (fun l=>l.length=s'.size) s'.Ah nothing (fun _ _ h=>by cases h) (fun e he=>(hfit.Ah e he).2) i l hl
  have KH:∀l,s'.fl i=some l→l.length=s'.size:=fun l hl=>hfit.fl i l hl
  clear k1 k4 k5 k6 k7 k8 k9 eY hmf lQ IF IZ hh ha fE hfit HE gX pE
  have Ia:∀(v':Value) (w2:World) (l:List Nat),Below Pk.heap.size Pk w2→Words w2 (fun k=>Pk.heap.size≤k) v' l→s.now i=l→
    ((0:Int)=0→Words w2 (fun k=>w1.heap.size≤k) v' (s.now i))∧Gu w2 G p s' (n+1)∧AK (fun k=>k=p) w1 w2:=by
   intro v' w2 l hb hw hl
   refine⟨fun _=>?_,nj.out.below hb,OH.out.trans (AK.AJ hb fun _=>False) fun _ hf=>hf.elim⟩
   rw[hl]
   exact hw.CL (fun _ _ _ _=>rfl) fun k _ _ hk=>Nat.le_trans OH.out.size hk
  have Aq:=Lib.hid Ia
  clear Ia
  rcases aO:ff i with _|vf
  ·
   rcases VM:lay nothing s'.Ah i with _|l
   ·rcases ED:fl i with _|vl
    ·
     rcases MJ:s'.fl i with _|l
     ·have HL:Hid (s.now i=List.replicate s'.size 0):=by unfold Hid;rw[nT.out];simp[over,VM,MJ,blk]
      have Jw:=Lib.hid aO
      have jZ:=Lib.hid ED
      obtain⟨i0,CA,Cy,CM,GJ⟩:=info_parts iE
      clear aO ED NG hrl VM MJ VN KH
      go_wp2_with (with_reducible refine BX 25 ?_)
      unfold Hid
      refine Cf _ rfl _ _ rfl bf _ ff rfl sn.out i hi rfl (.slice none 0 0) false (.inl ⟨rfl,rfl,Jw.out⟩) ?_
      go_wp2_with (with_reducible refine BX 37 ?_)
      unfold Hid
      refine Cf _ rfl _ _ rfl bl _ fl rfl HML.out i hi rfl (.slice none 0 0) false (.inl ⟨rfl,rfl,jZ.out⟩) ?_
      go_wp2_with (with_reducible refine BX 47 ?_)
      unfold Hid
      refine ET _ rfl _ _ 123 rfl 127 i0 (.int .u64 0) Tryz.underlying123 CA Cy CM rfl .i64 .i64 _ _ s'.size rfl rfl rfl rfl (by rw[GJ];omega) (by omega) ?_
      intro w2 Ap AX EB
      obtain⟨x1,x2,x3⟩:=Aq.out _ w2 _ AX (Lp Ap (by omega) (by unfold maxLen;omega) (Nat.le_refl _)) HL.out
      have X1:=Lib.hid x1
      have X2:=Lib.hid x2
      have X3:=Lib.hid x3
      clear x1 x2 x3 Ap AX EB
      go_wp2
      go_ret2
      exact⟨_,rfl,fun h=>absurd rfl h,X1.out,X2.out,X3.out⟩
     ·rw[ED,MJ]at hrl;exact hrl.elim
    ·
     rcases MJ:s'.fl i with _|l
     ·rw[ED,MJ]at hrl;exact hrl.elim
     ·rw[ED,MJ]at hrl
      have HL:Hid (s.now i=l):=by unfold Hid;rw[nT.out];simp[over,VM,MJ,blk]
      have lS:=KH l MJ
      obtain⟨A,c,rfl,hA,NH⟩:=Words.reads hrl
      have Jw:=Lib.hid aO
      have jZ:=Lib.hid ED
      have hsc:=JT A l.length c l Pk NH (by omega) (by omega) (Nat.le_refl _)
      clear aO ED NG hrl VM MJ VN KH NH lS
      go_wp2_with (with_reducible refine BX 25 ?_)
      unfold Hid
      refine Cf _ rfl _ _ rfl bf _ ff rfl sn.out i hi rfl (.slice none 0 0) false (.inl ⟨rfl,rfl,Jw.out⟩) ?_
      go_wp2_with (with_reducible refine BX 37 ?_)
      unfold Hid
      refine Cf _ rfl _ _ rfl bl _ fl rfl HML.out i hi rfl _ true (.inr ⟨jZ.out,rfl⟩) ?_
      go_wp2_with fail
      refine hsc.mono ?_
      rintro e w2 ⟨v',rfl,EV,AX⟩
      obtain⟨x1,x2,x3⟩:=Aq.out _ w2 _ AX EV HL.out
      have X1:=Lib.hid x1
      have X2:=Lib.hid x2
      have X3:=Lib.hid x3
      clear x1 x2 x3 EV AX
      go_wp2
      go_ret2
      exact⟨_,rfl,fun h=>absurd rfl h,X1.out,X2.out,X3.out⟩
   ·rw[aO,VM]at NG;exact NG.elim
  ·
   rcases VM:lay nothing s'.Ah i with _|l
   ·rw[aO,VM]at NG;exact NG.elim
   ·rw[aO,VM]at NG
    have HL:Hid (s.now i=l):=by unfold Hid;rw[nT.out];simp[over,VM,blk]
    have lS:=VN l VM
    obtain⟨A,c,rfl,hA,NH⟩:=Words.reads NG
    have Jw:=Lib.hid aO
    have hsc:=JT A l.length c l Pk NH (by omega) (by omega) (Nat.le_refl _)
    clear aO NG hrl VM VN KH NH lS
    go_wp2_with (with_reducible refine BX 25 ?_)
    unfold Hid
    refine Cf _ rfl _ _ rfl bf _ ff rfl sn.out i hi rfl _ true (.inr ⟨Jw.out,rfl⟩) ?_
    go_wp2_with fail
    refine hsc.mono ?_
    rintro e w2 ⟨v',rfl,EV,AX⟩
    obtain⟨x1,x2,x3⟩:=Aq.out _ w2 _ AX EV HL.out
    have X1:=Lib.hid x1
    have X2:=Lib.hid x2
    have X3:=Lib.hid x3
    clear x1 x2 x3 EV AX
    go_wp2
    go_ret2
    exact⟨_,rfl,fun h=>absurd rfl h,X1.out,X2.out,X3.out⟩
 ·have g:(er !=0)=true:=by simpa using he
  have HE:=Lib.hid he
  clear he
  go_enter Tryz.func98,Tryz.ntmps98
  go_wp2_with fail
  refine hh.mono ?_
  rintro e w1 ⟨rfl,rfl⟩
  go_wp2_with fail
  refine ha.mono ?_
  rintro e Pk ⟨rfl,IF,IZ⟩
  have nj:=Lib.hid (IF.up (Nat.le_succ n))
  have OH:=Lib.hid IZ
  clear IF IZ hh ha
  go_wp2
  go_ret2
  exact⟨_,rfl,fun _=>rfl,fun h=>absurd h HE.out,nj.out,OH.out⟩
theorem kZ:(Tryz.prog.info? 177).map (fun i=>(i.zero,i.size,i.bytes))=some (some (.agg #[.int .i64 0,.slice none 0 0]),2,32):=by kernel_rfl
theorem Vz{G:Nat→Prop}{p n bl bf nl:Nat}{s:St}{v v' u:Value}{i:Int}{l:List Nat}{w1 w2 w3 w5:World}{o:Obj}{ff:Int→Option Value}{rs:List (Int×Value)}
  (hfit:Fits s n) (hi:Ff i) (hl:l.length=s.size)
  (k1:Row w1 p 90 (cellsOf s bl bf v)) (k2:Eg w1 G bl nl s.fl) (k4:GB w1 G v s.Ah) (M9:GN w1 bf s.Ah.length ff) (k5:bl≠bf) (k6:G p) (k7:G bl) (k8:G bf) (k9:∀k,G k→k<w1.heap.size) (eY:nl+s.Ah.length+1≤n)
  (hrel:∀x,Rel w1 G (ff x) (lay nothing s.Ah x)) (AX:Below w1.heap.size w1 w2) (hu:Words w2 (fun k=>w1.heap.size≤k) u l)
  (uG:GN w3 bf (s.Ah.length+1) (Qt ff i u)) (Ds:w2.grownBy w3 (some bf))
  (qO:rs.length=s.Ah.length) (wY:∀(j:Nat) (r:Int×Value) (e:Int×List Nat),rs[j]?=some r→s.Ah[j]?=some e→r.1=e.1∧Words w1 G r.2 e.2) (BG:∀k,v.ownBlock=some k→G k)
  (LY:w5.ownsRow 0 177 2 v' (s.Ah.length+1) (JH (rs++[(i,u)]))) (UC:(w3.alloc o).grownBy w5 v.ownBlock) (Bp:v'.ownBlock=v.ownBlock∨v'.ownBlock=some (w3.alloc o).heap.size):
  ∃G',Gu (w5.setCell ⟨p,4,none⟩ v') G' p {s with Ah:=s.Ah++[(i,l)]} n∧AK G w1 (w5.setCell ⟨p,4,none⟩ v')∧∀k,G' k→G k∨w1.heap.size≤k:=by
 have hpv:v.ownBlock≠some p:=k4.Ay k1 (by decide)
 have hbv:v.ownBlock≠some bl:=k4.QD k2
 have hst:Eg w1 G bf s.Ah.length (lay nothing s.Ah):=⟨ff,M9,hrel⟩
 have hfv:v.ownBlock≠some bf:=k4.QD hst
 have lK:p≠bl:=k2.Ay k1
 have hpf:p≠bf:=hst.Ay k1
 have qP:∀k cs,Row w1 k 127 cs→k≠p∧k≠bf∧v.ownBlock≠some k:=fun k cs hk=>by
  refine⟨fun e=>?_,hst.Ay hk,k4.Ay hk (by decide)⟩
  subst e;unfold Row at k1 hk;rw[k1]at hk;injection hk with hk;injection hk with _ hk;exact absurd hk (by decide)
 have F2:AK (fun k=>k=p∨k=bf∨v.ownBlock=some k) w1 w2:=AK.AJ AX _
 have F3:AK (fun k=>k=p∨k=bf∨v.ownBlock=some k) w1 w3:=F2.grown Ds fun k hk=>by injection hk with hk;exact .inl (.inr (.inl hk.symm))
 have F5:AK (fun k=>k=p∨k=bf∨v.ownBlock=some k) w1 w5:=(F3.alloc o).grown UC fun k hk=>.inl (.inr (.inr hk))
 have F6:AK (fun k=>k=p∨k=bf∨v.ownBlock=some k) w1 (w5.setCell ⟨p,4,none⟩ v'):=F5.set (.inl (.inl rfl)) _
 have E3:AK (fun k=>v.ownBlock=some k) w3 w5:=((AK.refl _ w3).alloc o).grown UC fun k hk=>.inl hk
 have E2:AK (fun k=>k=bf∨v.ownBlock=some k) w2 w5:=(((AK.refl _ w2).grown Ds fun k hk=>by injection hk with hk;exact .inl (.inl hk.symm)).alloc o).grown UC fun k hk=>.inl (.inr hk)
 have vq:=AX.size
 have AA9:=F3.size
 have AA8:=F5.size
 have h5p:Row w5 p 90 (cellsOf s bl bf v):=F2.row k1|>fun _=>by
  have h1:Row w3 p 90 (cellsOf s bl bf v):=(Ds.block p (Nat.lt_of_lt_of_le k1.lt vq) (by intro e;injection e with e;exact hpf e)).trans (k1.below AX k1.lt)
  exact E3.row h1 (fun e=>hpv e)
 have h6p:Row (w5.setCell ⟨p,4,none⟩ v') p 90 (cellsOf {s with Ah:=s.Ah++[(i,l)]} bl bf v'):=by
  have:=h5p.set 4 v'
  exact this
 have z6:(w5.setCell ⟨p,4,none⟩ v').heap.size=w5.heap.size:=by simp
 have IX:∀k cs,Row w1 k 127 cs→G k→(w5.setCell ⟨p,4,none⟩ v').heap[k]?=w1.heap[k]?:=fun k cs hk _=>F6.block k hk.lt fun hf=>by
  obtain⟨a1,a2,a3⟩:=qP k cs hk
  rcases hf with hf|hf|hf
  ·exact a1 hf
  ·exact a2 hf
  ·exact a3 hf
 have hu6:Words (w5.setCell ⟨p,4,none⟩ v') (fun k=>G k∨(w1.heap.size≤k∧k<w5.heap.size)) u l:=by
  refine hu.CL (fun k cs hk hg=>?_) (fun k cs hk hg=>.inr ⟨hg,Nat.lt_of_lt_of_le hk.lt (by have:=E2.size;omega)⟩)
  have xF:k≠p:=by have:=k9 p k6;omega
  have h1:w5.heap[k]?=w2.heap[k]?:=E2.block k hk.lt fun hf=>by
   rcases hf with hf|hf
   ·have:=k9 bf k8;omega
   ·have:=k9 k (BG k hf);omega
  rw[heap_setCell_other w5 ⟨p,4,none⟩ k v' (by simpa using xF)];exact h1
 have KK:AK G w1 (w5.setCell ⟨p,4,none⟩ v'):=F6.mono fun b hb=>by
  rcases hb with hb|hb|hb
  ·subst hb;exact k6
  ·subst hb;exact k8
  ·exact BG b hb
 refine⟨fun k=>G k∨(w1.heap.size≤k∧k<w5.heap.size),⟨?_,bl,bf,v',nl,h6p,?_,?_,?_,k5,.inl k6,.inl k7,.inl k8,fun k hk=>?_,by simp only[List.length_append,List.length_singleton];omega⟩,KK,fun k hk=>hk.imp_right (·.1)⟩
 ·refine⟨hfit.size,hfit.blocks,hfit.fn,hfit.tn,hfit.Ab,hfit.small,fun e he=>?_,hfit.fl⟩
  rcases List.mem_append.1 he with he|he
  ·exact hfit.Ah e he
  ·rw[List.mem_singleton.1 he];exact⟨hi,hl⟩
 ·refine k2.CL (F6.block bl (k9 bl k7) fun hf=>?_) IX (fun k _ _ hk=>.inl hk)
  rcases hf with hf|hf|hf
  ·exact lK hf.symm
  ·exact k5 hf
  ·exact hbv hf
 ·refine⟨Qt ff i u,?_,fun x=>?_⟩
  ·rw[List.length_append,List.length_singleton]
   refine uG.same ?_
   rw[heap_setCell_other w5 ⟨p,4,none⟩ bf v' (by simpa using hpf.symm)]
   exact E3.block bf uG.lt fun e=>hfv e
  ·show Rel _ _ _ (lay nothing (s.Ah++[(i,l)]) x)
   rw[M6]
   by_cases e:x=i
   ·subst e;rw[GR,GR];exact hu6
   ·rw[E0 _ _ e,E0 _ _ e]
    exact(hrel x).CL IX (fun k _ _ hk=>.inl hk)
 ·have wI:v'.ownBlock≠some p:=by
   rcases Bp with h|h
   ·rw[h];exact hpv
   ·rw[h];intro e;injection e with e
    have:=k9 p k6
    simp only[World.alloc,Array.size_push]at e;omega
  refine⟨rs++[(i,u)],?_,by simp[qO],fun j r e hr he=>?_,fun k hk=>?_⟩
  ·rw[List.length_append,List.length_singleton]
   exact CK LY fun k hk=>heap_setCell_other w5 ⟨p,4,none⟩ k v' (by intro e;simp only at e;subst e;exact wI hk)
  ·by_cases hj:j<rs.length
   ·rw[List.getElem?_append_left hj]at hr
    rw[List.getElem?_append_left (by omega)]at he
    obtain⟨a1,a2⟩:=wY j r e hr he
    exact⟨a1,a2.CL IX (fun k _ _ hk=>.inl hk)⟩
   ·rw[List.getElem?_append_right (by omega)]at hr
    rw[List.getElem?_append_right (by omega)]at he
    have NK:j=rs.length:=by
     rcases Nat.lt_or_ge (j-rs.length) 1 with h1|h1
     ·omega
     ·rw[List.getElem?_eq_none (by simpa using h1)]at hr;cases hr
    subst NK
    rw[Nat.sub_self]at hr
    rw[qO,Nat.sub_self]at he
    simp at hr he
    subst hr;subst he
    exact⟨rfl,hu6⟩
  ·rcases Bp with h|h
   ·exact .inl (BG k (by rw[←h];exact hk))
   ·refine .inr ⟨?_,?_⟩
    ·rw[h]at hk;injection hk with hk;subst hk
     simp only[World.alloc,Array.size_push];omega
    ·exact(LY.lt k hk).2
 ·rcases hk with hk|hk
  ·have:=k9 k hk;rw[z6];omega
  ·rw[z6];exact hk.2
theorem Row.ZW{w:World}{p:Nat}{s:St}{bl bf:Nat}{A:Option Addr}{n c:Nat}(hr:Row w p 90 (cellsOf s bl bf (.slice A n c)))(i:Nat)(x:Int):w.cell? ⟨p,i,none⟩≠some (.int .u64 x):=by
 intro h
 rw[hr.cell i]at h
 have:=List.mem_of_getElem? h
 simp[cellsOf]at this
theorem Reads.CU{k:IntKind}{w w1:World}{B:Nat}{A:Option Addr}{n:Nat}{l:List Nat}{F:Nat→Prop}(h:Reads k w B A n l)(hB:B≤w.heap.size)(hf:AK F w w1)(hF:0<n→∀b off,A=some ⟨b,off,none⟩→¬F b):Reads k w1 B A n l:=by
 obtain⟨h1,h2,h3⟩:=h
 refine⟨h1,h2,fun hn=>?_⟩
 obtain⟨b,off,hA,hb,hc⟩:=h3 hn
 refine⟨b,off,hA,hb,fun i hi=>?_⟩
 rw[World.cell?_of_block (w:=w) (w':=w1) (hf.block b (by omega) (hF hn b off hA))]
 exact hc i hi
theorem Si(s:St):(begin s false).1≠0:=by
 unfold begin
 by_cases h:s.down=true
 ·rw[if_pos h];exact fun h=>absurd h (by decide:¬((8:Int)=0))
 ·rw[if_neg h,if_pos rfl];exact fun h=>absurd h (by decide:¬((1:Int)=0))
theorem V0(p:Nat)(s:St)(n:Nat)(G:Nat→Prop)(i:Int)(A:Option Addr)(m c:Nat)(l:List Nat)(w:World){B:Nat}(h:Gu w G p s n)(hn:n<1000000)(hi:Ff i)(hl:Reads .u64 w B A m l)(hB:B≤w.heap.size):
  Calls Tryz.prog 88 #[.pointer (some ⟨p,0,none⟩),.int .i64 i,.slice A m c] w fun e w'=>e=.returned (.int .i64 (write s i l).1)∧∃G',Gu w' G' p (write s i l).2 (n+1)∧AK G w w'∧∀k,G' k→G k∨w.heap.size≤k:=by
 obtain⟨_,yR,yS,v0,nl0,hr,_,_,hla,_⟩:=id h
 obtain⟨A0,q0,rfl⟩:=hla.form
 have hh:=VU p s yR yS _ w i hr
 have c0:w.cell? ⟨p,0,none⟩=some (.int .i64 (s.size:Int)):=hr.cell 0
 have hlen:=hl.1
 have ha:=Vj p s n G (right s i&&decide (l.length=s.size)) w h hn
 have br:=Lib.hid h.I3
 have Li:=Lib.hid h.fits.size
 have HR:Hid (write s i l=if (begin s (right s i&&decide (l.length=s.size))).1=0 then (0,{(begin s (right s i&&decide (l.length=s.size))).2 with Ah:=s.Ah++[(i,l)]})else begin s (right s i&&decide (l.length=s.size))):=rfl
 rw[HR.out]
 obtain⟨e1,e2,e3,e4⟩:=Cs s (right s i&&decide (l.length=s.size))
 have HE:=Lib.hid e1
 have gX:=Lib.hid e3
 have pE:=Lib.hid e4
 have H0:Hid ((begin s (right s i&&decide (l.length=s.size))).1=0→right s i=true∧l.length=s.size):=by
  intro h0
  rcases hb:(right s i&&decide (l.length=s.size))with _| _
  ·rw[hb]at h0;exact absurd h0 (Si s)
  ·simpa using hb
 have Nu:Hid (∀w1,AK (fun k=>k=p) w w1→Reads .u64 w1 B A m l):=fun w1 hf=>hl.CU hB hf fun hm b off hA hb=>by
  obtain⟨_,_,h3⟩:=hl
  obtain⟨b',Rr,uU,_,hc⟩:=h3 hm
  rw[hA]at uU;injection uU with uU;injection uU with oX OC;subst oX;subst OC
  subst hb
  exact hr.ZW _ _ (hc 0 hm)
 clear e1 e2 e3 e4 hr h HR hla
 generalize KR:(right s i&&decide (l.length=s.size))=b at*
 generalize begin s b=r at*
 obtain⟨er,s'⟩:=r
 simp only at ha HE gX pE H0⊢
 have Ew:=Lib.hid hlen
 have pH:=Lib.hid KR
 clear hl hlen KR
 by_cases qQ:right s i=true
 ·rw[qQ]at hh
  have gb:((m:Int)==(s.size:Int))=b:=by
   rw[←pH.out,qQ,Ew.out]
   by_cases e:m=s.size
   ·subst e;simp
   ·have:¬((m:Int)=(s.size:Int)):=by omega
    simp[e,this]
  clear qQ pH
  by_cases he:er=0
  ·subst he
   rw[if_pos rfl]
   go_enter Tryz.func88,Tryz.ntmps88
   go_wp2_with fail
   refine hh.mono ?_
   rintro e w1 ⟨rfl,rfl⟩
   go_wp2_with fail
   refine ha.mono ?_
   rintro e Pk ⟨rfl,IF,IZ⟩
   obtain⟨hfit,bl,bf,v,nl,k1,k2,k3,k4,k5,k6,k7,k8,k9,eY⟩:=id IF
   have hsz:=Li.out
   have KH:=(H0.out (by trivial)).2
   have hm:=Ew.out
   have hsc:=JT A m c l Pk (Nu.out _ IZ) (by omega) (by omega) (Nat.le_trans hB IZ.size)
   obtain⟨ff,M9,hrel⟩:=k3
   obtain⟨A1,q1,rfl⟩:=k4.form
   obtain⟨rs,o1,o2,o3,o4⟩:=id k4
   have c3:Pk.cell? ⟨p,3,none⟩=some (.map (some bf)):=k1.cell 3
   have Aq:=Lib.hid (fun(w2 w3 w5:World) (o:Obj) (v' u:Value) (AX:Below Pk.heap.size Pk w2) (hu:Words w2 (fun k=>Pk.heap.size≤k) u l) (uG:GN w3 bf (s'.Ah.length+1) (Qt ff i u)) (Ds:w2.grownBy w3 (some bf)) (LY:w5.ownsRow 0 177 2 v' (s'.Ah.length+1) (JH (rs++[(i,u)]))) (UC:(w3.alloc o).grownBy w5 (Value.slice A1 s'.Ah.length q1).ownBlock) Bp=>Vz hfit hi (by rw[HE.out];exact KH) k1 k2 k4 M9 k5 k6 k7 k8 k9 (by omega) hrel AX hu uG Ds o2 o3 o4 LY UC Bp)
   have jX:=Lib.hid k1
   have HOW:=Lib.hid o1
   have zP:Hid ((Value.slice A1 s'.Ah.length q1).ownBlock≠some bf∧bf≠p∧bf<Pk.heap.size):=⟨k4.QD (⟨ff,M9,hrel⟩:Eg Pk G bf _ _),fun e=>M9.Ay k1 e.symm,k9 bf k8⟩
   have sn:=Lib.hid M9
   have OH:=Lib.hid IZ
   have AD1:s'.Ah.length≤1000000:=by omega
   have HVP:Hid ((Value.slice A1 s'.Ah.length q1).ownBlock≠some p):=k4.Ay k1 (by decide)
   have sd:=Lib.hid o1.lt
   clear k1 k2 M9 k4 k5 k6 k7 k8 k9 eY hrel o1 o2 o3 o4 IF IZ hfit
   go_wp2_with fail
   refine hsc.mono ?_
   rintro e w2 ⟨u,rfl,EV,AX⟩
   have gQ:=Lib.hid (jX.out.below AX jX.out.lt)
   have c3:w2.cell? ⟨p,3,none⟩=some (.map (some bf)):=gQ.out.cell 3
   have hm2:=sn.out.same (AX.block bf zP.out.2.2)
   have HO2:=Lib.hid (CK HOW.out fun k hk=>AX.block k (sd.out k hk).2)
   have Cd:=Lib.hid AX
   have m9:=Lib.hid EV
   obtain⟨D,hD,hFn⟩:=hm2
   have HD:=Lib.hid hD
   have cC:=Lib.hid hFn
   obtain⟨Au,mu,cu,hu⟩:∃Au mu cu,u=.slice Au mu cu:=by obtain⟨g,cc,cs,hv,_⟩:=EV;exact⟨_,_,_,hv⟩
   subst hu
   clear hsc AX EV hD hFn
   go_wp2_with (with_reducible refine Pq ?_)
   unfold Hid
   refine wpList_mapUpdate_own _ rfl _ _ _ 87 rfl 3 123 law Tryz.underlying87 R8 bf _ D rfl HD.out (by unfold maxLen;omega) _ _ _ rfl rfl (kY hi) (.held _) [] rfl ?_
   intro w3 hD3 Ds
   have HM3:Hid (GN w3 bf (s'.Ah.length+1) (Qt ff i (.slice Au mu cu))):=⟨_,hD3,cC.out.put hi _⟩
   have s9:=Lib.hid Ds
   have Cm:Row w3 p 90 (cellsOf s' bl bf (.slice A1 s'.Ah.length q1)):=(Ds.block p gQ.out.lt (by intro e;injection e with e;exact zP.out.2.1 e.symm)).trans gQ.out
   have c4:w3.cell? ⟨p,4,none⟩=some (.slice A1 s'.Ah.length q1):=Cm.cell 4
   have f4:=Cm.free 4
   have Hq:=Lib.hid Cm
   have HO3:=Lib.hid (CK HO2.out fun k hk=>Ds.block k (Nat.lt_of_lt_of_le (sd.out k hk).2 Cd.out.size) (by intro e;injection e with e;subst e;exact zP.out.1 hk))
   clear hD3 Ds Cm c3
   obtain⟨i0,CA,Cy,CM,GJ⟩:=info_parts kZ
   go_wp2_with (with_reducible refine BX 43 ?_)
   unfold Hid
   refine wpList_append_own_at _ rfl _ _ 88 rfl 0 177 i0 (.agg #[.int .i64 0,.slice none 0 0]) 2 32 Tryz.underlying88 CA Cy CM GJ rfl (by omega) (.slice A1 s'.Ah.length q1) s'.Ah.length (JH rs) rfl (HO3.out.alloc _) ⟨w3.heap.size,0,none⟩ 1 1 [.int .i64 i,.slice Au mu cu] rfl rfl ?_ (by simp[Value.oneCell']) (by unfold maxLen;omega) (by omega) (by omega) ?_
   ·intro j v hj
    match j,hj with
    |0,hj=>simp at hj;subst hj;simp[Addr.add]
    |1,hj=>simp at hj;subst hj;simp[Addr.add]
   intro v' w5 LY UC _ Bp
   have aC:w5.ownsRow 0 177 2 v' (s'.Ah.length+1) (JH (rs++[(i,.slice Au mu cu)])):=by rw[KU];exact LY
   obtain⟨G',rD,Ju,qy⟩:=Aq.out w2 w3 w5 _ v' _ Cd.out m9.out HM3.out s9.out aC UC Bp
   have GQ:Row w5 p 90 (cellsOf s' bl bf (.slice A1 s'.Ah.length q1)):=(UC.block p (by have:=Hq.out.lt;simp only[World.alloc,Array.size_push];omega) (fun e=>HVP.out e.symm)).trans (Hq.out.alloc _)
   have c4:w5.cell? ⟨p,4,none⟩=some (.slice A1 s'.Ah.length q1):=GQ.cell 4
   have f4:=GQ.free 4
   obtain⟨A5,c5,rfl⟩:∃A5 c5,v'=.slice A5 (s'.Ah.length+1) c5:=by
    rcases LY.2 with⟨rfl,h0⟩|⟨g,cap,cur,rfl,_⟩
    ·omega
    ·exact⟨_,_,rfl⟩
   have ji:=Lib.hid rD
   have gV:=Lib.hid Ju
   have HG6:=Lib.hid qy
   clear rD Ju qy GQ LY aC UC Bp
   go_wp2
   go_ret
   refine⟨rfl,G',?_,?_,fun k hk=>?_⟩
   ·rw[←pE.out];exact ji.out
   ·exact(OH.out.mono fun b hb=>by subst hb;exact br.out).trans gV.out fun b hb=>.inl hb
   ·rcases HG6.out k hk with h|h
    ·exact .inl h
    ·exact .inr (Nat.le_trans OH.out.size h)
  ·have g:(er !=0)=true:=by simpa using he
   rw[if_neg he]
   clear he
   go_enter Tryz.func88,Tryz.ntmps88
   go_wp2_with fail
   refine hh.mono ?_
   rintro e w1 ⟨rfl,rfl⟩
   go_wp2_with fail
   refine ha.mono ?_
   rintro e Pk ⟨rfl,IF,IZ⟩
   have nj:=Lib.hid (IF.up (Nat.le_succ n))
   have OH:=Lib.hid IZ
   clear IF IZ hh ha
   go_wp2
   go_ret
   exact⟨rfl,G,nj.out,OH.out.mono fun b hb=>by subst hb;exact br.out,fun k hk=>.inl hk⟩
 ·have ez:right s i=false:=by simpa using qQ
  have hb0:b=false:=by rw[←pH.out,ez];rfl
  have he:er≠0:=fun e=>by have:=(H0.out e).1;rw[ez]at this;cases this
  have g:(er !=0)=true:=by simpa using he
  rw[if_neg he]
  subst hb0
  rw[ez]at hh
  clear he qQ ez pH
  go_enter Tryz.func88,Tryz.ntmps88
  go_wp2_with fail
  refine hh.mono ?_
  rintro e w1 ⟨rfl,rfl⟩
  go_wp2_with fail
  refine ha.mono ?_
  rintro e Pk ⟨rfl,IF,IZ⟩
  have nj:=Lib.hid (IF.up (Nat.le_succ n))
  have OH:=Lib.hid IZ
  clear IF IZ hh ha
  go_wp2
  go_ret
  exact⟨rfl,G,nj.out,OH.out.mono fun b hb=>by subst hb;exact br.out,fun k hk=>.inl hk⟩
def findAt:List (Nat×Nat)→Nat→Nat→Option (Nat×Nat)
 |[],_,_=>none
 |q::l,x,i=>if q.1=x then some (i,q.2)else findAt l x (i+1)
def wordsAt:List (Nat×Nat)→Nat→Option Nat
 |[],_=>none
 |q::l,x=>if q.1=x then some q.2 else wordsAt l x
def CH:List (Nat×Nat)→Nat→List (Nat×Nat)
 |[],_=>[]
 |q::l,x=>if q.1=x then l else q::CH l x
def total:List (Nat×Nat)→Nat
 |[]=>0
 |q::l=>q.2+total l
theorem Ih:∀(l:List (Nat×Nat)) (x i:Nat),wordsAt l x=none→findAt l x i=none
 |[],_,_,_=>rfl
 |q::l,x,i,h=>by
  unfold wordsAt at h;unfold findAt
  by_cases e:q.1=x
  ·rw[if_pos e]at h;cases h
  ·rw[if_neg e]at h⊢;exact Ih l x _ h
theorem Ig:∀(l:List (Nat×Nat)) (x i n:Nat),wordsAt l x=some n→∃j,findAt l x i=some (i+j,n)∧j<l.length∧l.eraseIdx j=CH l x
 |[],_,_,_,h=>by cases h
 |q::l,x,i,n,h=>by
  unfold wordsAt at h;unfold findAt CH
  by_cases e:q.1=x
  ·rw[if_pos e]at h⊢
   injection h with h;subst h
   exact⟨0,rfl,by simp,by simp[e]⟩
  ·rw[if_neg e]at h⊢
   obtain⟨j,h1,h2,h3⟩:=Ig l x (i+1) n h
   refine⟨j+1,by rw[h1];congr 2;omega,by simp;omega,?_⟩
   rw[if_neg e,List.eraseIdx_cons_succ,h3]
theorem JS:∀(l:List (Nat×Nat)) (x n:Nat),wordsAt l x=some n→total (CH l x)+n=total l
 |[],_,_,h=>by cases h
 |q::l,x,n,h=>by
  unfold wordsAt at h;unfold CH
  by_cases e:q.1=x
  ·rw[if_pos e]at h⊢
   injection h with h;subst h
   show total l+q.2=q.2+total l;omega
  ·rw[if_neg e]at h⊢
   have:=JS l x n h
   show q.2+total (CH l x)+n=q.2+total l;omega
theorem Mh:∀(l:List (Nat×Nat)) (x n:Nat),total (l++[(x,n)])=total l+n
 |[],_,n=>by show n+0=0+n;omega
 |q::l,x,n=>by show q.2+total (l++[(x,n)])=q.2+total l+n;rw[Mh l x n];omega
theorem EH:∀(l:List (Nat×Nat)) (x n:Nat),wordsAt l x=some n→(x,n)∈l
 |[],_,_,h=>by cases h
 |q::l,x,n,h=>by
  unfold wordsAt at h
  by_cases e:q.1=x
  ·rw[if_pos e]at h;injection h with h;subst h;subst e;exact List.mem_cons_self
  ·rw[if_neg e]at h;exact List.mem_cons_of_mem _ (EH l x n h)
theorem I7:∀(l:List (Nat×Nat)) (x:Nat),(∀q∈l,q.1≠x)→wordsAt l x=none
 |[],_,_=>rfl
 |q::l,x,h=>by
  unfold wordsAt
  rw[if_neg (h q List.mem_cons_self)]
  exact I7 l x fun r hr=>h r (List.mem_cons_of_mem _ hr)
theorem DW:∀(l:List (Nat×Nat)) (x:Nat) (q:Nat×Nat),q∈CH l x→q∈l
 |[],_,_,h=>h
 |r::l,x,q,h=>by
  unfold CH at h
  by_cases e:r.1=x
  ·rw[if_pos e]at h;exact List.mem_cons_of_mem _ h
  ·rw[if_neg e]at h
   rcases List.mem_cons.1 h with h|h
   ·rw[h];exact List.mem_cons_self
   ·exact List.mem_cons_of_mem _ (DW l x q h)
structure Ar where
 room:Nat
 used:Nat
 Cj:Nat
 st:List (Nat×Nat)
def empty(room:Nat):Ar:=⟨room,0,0,[]⟩
def Bo(s:Ar)(b n:Nat):Ar:={s with used:=s.used+n,Cj:=if s.Cj<s.used+n then s.used+n else s.Cj,st:=s.st++[(b,n)]}
def release(s:Ar)(b n:Nat):Ar:={s with used:=s.used-n,st:=CH s.st b}
structure Sound (s:Ar):Prop where
 used:s.used=total s.st
 Cj:s.used≤s.Cj∧s.Cj≤s.room
 room:s.room≤9223372036854775807
theorem Sb{room:Nat}(h:room≤9223372036854775807):Sound (empty room):=⟨rfl,⟨Nat.le_refl _,Nat.zero_le _⟩,h⟩
theorem SQ{s:Ar}(h:Sound s)(b:Nat){n:Nat}(hn:n≤s.room-s.used):Sound (Bo s b n):=by
 have h1:=h.Cj
 refine⟨?_,⟨?_,?_⟩,h.room⟩
 ·show s.used+n=total (s.st++[(b,n)]);rw[Mh,h.used]
 ·show s.used+n≤if s.Cj<s.used+n then s.used+n else s.Cj
  split<;>omega
 ·show (if s.Cj<s.used+n then s.used+n else s.Cj)≤s.room
  split<;>omega
theorem JD{s:Ar}(h:Sound s){b n:Nat}(hb:wordsAt s.st b=some n):Sound (release s b n):=by
 have h1:=h.Cj
 have h2:=JS s.st b n hb
 have h3:=h.used
 refine⟨?_,⟨?_,h1.2⟩,h.room⟩
 ·show s.used-n=total (CH s.st b);omega
 ·show s.used-n≤s.Cj;omega
theorem Mr{s:Ar}(h:Sound s){b n:Nat}(hb:wordsAt s.st b=some n):n≤s.used:=by
 have h2:=JS s.st b n hb
 have h3:=h.used
 omega
def ptr(b:Nat):Value:=.pointer (some ⟨b,0,none⟩)
def Gv(w:World)(b:Nat):Prop:=∃v,Row w b 126 [v]
def Fe(w:World)(b:Nat)(l:List (Nat×Nat)):Prop:=
 ∃(es:Array MapEntry) (clock:Nat),w.heap[b]?=some (.map es clock)∧es.toList.map (fun e=>(e.key,e.val))=l.map fun q=>(ptr q.1,Value.int .i64 (q.2:Int))
theorem eg:(Tryz.prog.info? 126).map (fun i=>i.size)=some 1:=by kernel_rfl
theorem fc(w:World){x b:Nat}(hx:Gv w x)(hb:Gv w b):(Op.equal 117 (ptr x) (ptr b)).run Tryz.prog w=.ok (decide (b=x)) w:=by
 obtain⟨j,hj,hs⟩:∃j,Tryz.prog.info? 126=some j∧j.size=1:=by
  have h:=eg
  rcases hi:Tryz.prog.info? 126 with _|i
  ·rw[hi]at h;cases h
  ·rw[hi]at h;simp at h;exact⟨i,rfl,h⟩
 obtain⟨v,hx⟩:=hx
 obtain⟨u,hb⟩:=hb
 by_cases e:b=x
 ·subst e
  have h:∀d:Nat,(Op.equalIn (d+1) 117 (ptr b) (ptr b)).run Tryz.prog w=.ok true w:=fun d=>by
   simp[ptr,Op.equalIn,run_underlying Tryz.underlying117,sizeOf,typeInfo,hj,run_sameAddr_same]
  simp[Op.equal,Op.maxDepth,h 9999]
 ·have hne:(⟨x,0,none⟩:Addr)≠⟨b,0,none⟩:=fun h=>e (by injection h with h;exact h.symm)
  have wB:w.heap[(⟨x,0,none⟩:Addr).block]?=some (.cells #[v] 126 (0,0)):=hx
  have hb':w.heap[(⟨b,0,none⟩:Addr).block]?=some (.cells #[u] 126 (0,0)):=hb
  have h:∀d:Nat,(Op.equalIn (d+1) 117 (ptr x) (ptr b)).run Tryz.prog w=.ok false w:=fun d=>by
   simp[ptr,Op.equalIn,run_underlying Tryz.underlying117,sizeOf,typeInfo,hj,hs,run_sameAddr_other w hne wB hb']
  simp[Op.equal,Op.maxDepth,h 9999,e]
theorem IP(w:World){x:Nat}(hx:Gv w x):∀(es:List MapEntry) (l:List (Nat×Nat)) (i:Nat),es.map (fun e=>(e.key,e.val))=l.map (fun q=>(ptr q.1,Value.int .i64 (q.2:Int)))→(∀q∈l,Gv w q.1)→
  (Instr.findAsking 117 (ptr x) es i).run Tryz.prog w=.ok ((findAt l x i).map fun r=>(r.1,Value.int .i64 (r.2:Int))) w
 |[],[],i,_,_=>by simp[Instr.findAsking,findAt]
 |[],q::l,i,h,_=>by cases h
 |e::es,[],i,h,_=>by cases h
 |e::es,q::l,i,h,hl=>by
  have h0:(e.key,e.val)=(ptr q.1,Value.int .i64 (q.2:Int)):=by injection h
  have h1:es.map (fun e=>(e.key,e.val))=l.map (fun q=>(ptr q.1,Value.int .i64 (q.2:Int))):=by injection h
  have hk:e.key=ptr q.1:=by injection h0
  have hv:e.val=Value.int .i64 (q.2:Int):=by injection h0
  have hq:=fc w hx (hl q List.mem_cons_self)
  have ih:=IP w hx es l (i+1) h1 fun r hr=>hl r (List.mem_cons_of_mem _ hr)
  unfold Instr.findAsking findAt
  rw[hk]
  by_cases he:q.1=x
  ·rw[he]at hq⊢
   simp[hq,hv,Result.andThen]
  ·simp[hq,he,ih,Result.andThen]
theorem run_findKey(w:World){x:Nat}(hx:Gv w x)(es:List MapEntry)(l:List (Nat×Nat))(h:es.map (fun e=>(e.key,e.val))=l.map (fun q=>(ptr q.1,Value.int .i64 (q.2:Int))))(hl:∀q∈l,Gv w q.1):
  (Instr.findKey 117 (ptr x) es).run Tryz.prog w=.ok ((findAt l x 0).map fun r=>(r.1,Value.int .i64 (r.2:Int))) w:=by
 have hf:=IP w hx es l 0 h hl
 unfold Instr.findKey
 rcases es with _|⟨e,es⟩
 ·match l,h with
  |[],_=>simp[run_underlying Tryz.underlying117,Instr.findNow,findAt,Result.andThen]
 ·have hn:∀k i,Instr.findNow (.pointer k) (ptr x) (e::es) i=none:=fun k i=>by simp[Instr.findNow,Instr.sameNow]
  simp[run_underlying Tryz.underlying117,hn,hf,Result.andThen]
theorem Ek(w:World)(em:Bool)(b:Nat):(Instr.checkKey em 10000 117 (ptr b)).run Tryz.prog w=.ok () w:=by
 unfold Instr.checkKey
 simp[run_underlying Tryz.underlying117,Result.andThen]
theorem Ra(w:World){b x:Nat}{l:List (Nat×Nat)}(h:Fe w b l)(hx:Gv w x)(hl:∀q∈l,Gv w q.1):
  (Instr.lookup 71 (.map (some b)) (ptr x) true).run Tryz.prog w=.ok (.tuple #[.int .i64 ((wordsAt l x).getD 0:Nat),.bool (wordsAt l x).isSome]) w:=by
 obtain⟨es,clock,hb,he⟩:=h
 have hf:=run_findKey w hx es.toList l he hl
 unfold Instr.lookup
 rcases hw:wordsAt l x with _|n
 ·rw[Ih l x 0 hw]at hf
  simp[run_underlying Tryz.underlying71,MapKept.run_getObj_map hb,Ek,hf,Result.andThen]
 ·obtain⟨j,h1,_⟩:=Ig l x 0 n hw
  rw[h1]at hf
  simp[run_underlying Tryz.underlying71,MapKept.run_getObj_map hb,Ek,hf,Result.andThen]
theorem dj(w:World){b x n:Nat}{l:List (Nat×Nat)}(h:Fe w b l)(hx:Gv w x)(hl:∀q∈l,Gv w q.1)(hn:wordsAt l x=none):
  ∃w',(Instr.mapUpdate 71 (.map (some b)) (ptr x) (.int .i64 (n:Nat))).run Tryz.prog w=.ok () w'∧Fe w' b (l++[(x,n)])∧w.grownBy w' (some b):=by
 obtain⟨es,clock,hb,he⟩:=h
 have hf:=run_findKey w hx es.toList l he hl
 rw[Ih l x 0 hn]at hf
 refine⟨setBlock w b (.map (es.push ⟨ptr x,.int .i64 (n:Nat),clock⟩) (clock+1)),?_,⟨_,_,heap_setBlock_same hb _,?_⟩,⟨rfl,rfl,rfl,by simp[setBlock],fun i _ hi=>heap_setBlock_other hb _ (fun e=>hi (by rw[e]))⟩⟩
 ·unfold Instr.mapUpdate
  simp[run_underlying Tryz.underlying71,MapKept.run_getObj_map hb,Ek,hf,MapKept.run_setObj_map _ hb,Result.andThen,setBlock]
 ·simp[he]
theorem dr(w:World){b x n:Nat}{l:List (Nat×Nat)}(h:Fe w b l)(hx:Gv w x)(hl:∀q∈l,Gv w q.1)(hn:wordsAt l x=some n)(ty:TypeId):
  ∃w',(Builtin.delete_ #[71,117] ty #[.map (some b),ptr x]).run Tryz.prog w=.ok (.tuple #[]) w'∧Fe w' b (CH l x)∧w.grownBy w' (some b):=by
 obtain⟨es,clock,hb,he⟩:=h
 have hf:=run_findKey w hx es.toList l he hl
 obtain⟨j,h1,h2,h3⟩:=Ig l x 0 n hn
 rw[h1]at hf
 refine⟨setBlock w b (.map (es.eraseIdxIfInBounds j) clock),?_,⟨_,_,heap_setBlock_same hb _,?_⟩,⟨rfl,rfl,rfl,by simp[setBlock],fun i _ hi=>heap_setBlock_other hb _ (fun e=>hi (by rw[e]))⟩⟩
 ·unfold Builtin.delete_
  simp[run_underlying Tryz.underlying71,MapKept.run_getObj_map hb,Ek,hf,MapKept.run_setObj_map _ hb,Result.andThen,setBlock]
 ·have hlen:es.toList.length=l.length:=by have:=congrArg List.length he;simpa using this
  have hj:j<es.size:=by simpa [←hlen]using h2
  have e1:(es.eraseIdxIfInBounds j).toList=es.toList.eraseIdx j:=by simp[Array.eraseIdxIfInBounds,hj]
  rw[e1,←h3,Go.ChangeMaps.map_eraseIdx,Go.ChangeMaps.map_eraseIdx,he]
theorem Fe.same{w w':World}{b:Nat}{l:List (Nat×Nat)}(h:Fe w b l)(hb:w'.heap[b]?=w.heap[b]?):Fe w' b l:=by
 obtain⟨es,clock,h1,h2⟩:=h
 exact⟨es,clock,hb.trans h1,h2⟩
theorem Fe.lt{w:World}{b:Nat}{l:List (Nat×Nat)}(h:Fe w b l):b<w.heap.size:=by
 obtain⟨es,clock,h1,h2⟩:=h
 exact(Array.getElem?_eq_some_iff.1 h1).1
theorem Fe.Ay{w:World}{b g:Nat}{l:List (Nat×Nat)}{t:TypeId}{cs:List Value}(h:Fe w b l)(hr:Row w g t cs):g≠b:=by
 obtain⟨es,clock,h1,h2⟩:=h
 intro e;subst e;unfold Row at hr;rw[h1]at hr;cases hr
theorem Fe.made(w:World):Fe (w.alloc (.map #[] 0)) w.heap.size []:=⟨#[],0,(MapKept.heap_alloc w _).1,rfl⟩
def Bb(s:Ar)(m:Option Nat):List Value:=[.int .i64 (s.room:Int),.int .i64 (s.used:Int),.int .i64 (s.Cj:Int),.map m]
def Vl(w:World)(G:Nat→Prop)(m:Option Nat)(l:List (Nat×Nat)):Prop:=(m=none∧l=[])∨∃b,m=some b∧Fe w b l∧G b
def Ez(w:World)(G:Nat→Prop)(p:Nat)(s:Ar):Prop:=
 Sound s∧(∃m,Row w p 73 (Bb s m)∧Vl w G m s.st∧∀k,G k→k=p∨m=some k)∧G p∧(∀k,G k→k<w.heap.size)∧∀q∈s.st,Gv w q.1
section
variable {w w' : World} {G G' : Nat → Prop} {p : Nat} {s : Ar}
theorem Gv.lt{b:Nat}(h:Gv w b):b<w.heap.size:=by obtain⟨v,h⟩:=h;exact h.lt
theorem Gv.CU{F:Nat→Prop}{b:Nat}(h:Gv w b)(hf:AK F w w')(hF:¬F b):Gv w' b:=by obtain⟨v,h⟩:=h;exact⟨v,hf.row h hF⟩
theorem Vl.CL{m:Option Nat}{l:List (Nat×Nat)}(h:Vl w G m l)(hG:∀k,G k→w'.heap[k]?=w.heap[k]?):Vl w' G m l:=by
 rcases h with h|⟨b,rfl,hb,hg⟩
 ·exact .inl h
 ·exact .inr ⟨b,rfl,hb.same (hG b hg),hg⟩
theorem Ez.lt(h:Ez w G p s){k:Nat}(hk:G k):k<w.heap.size:=h.2.2.2.1 k hk
theorem Ez.I3(h:Ez w G p s):G p:=h.2.2.1
theorem Ez.sound(h:Ez w G p s):Sound s:=h.1
theorem Ez.buf(h:Ez w G p s){q:Nat×Nat}(hq:q∈s.st):Gv w q.1:=h.2.2.2.2 q hq
theorem Row.typed{g:Nat}{t u:TypeId}{cs ds:List Value}(h:Row w g t cs)(k:Row w g u ds):t=u:=by
 unfold Row at h k;rw[h]at k;injection k with k;injection k
theorem Ez.types(h:Ez w G p s){k:Nat}{t:TypeId}{cs:List Value}(hr:Row w k t cs)(ht:t≠73):¬G k:=by
 obtain⟨h0,⟨m,h1,h2,h3⟩,_⟩:=h
 intro hk
 rcases h3 k hk with rfl|rfl
 ·exact ht (hr.typed h1)
 ·rcases h2 with⟨e,_⟩|⟨b,e,hb,_⟩
  ·cases e
  ·injection e with e;subst e;exact hb.Ay hr rfl
theorem Ez.Kv(h:Ez w G p s){b:Nat}(hb:Gv w b):¬G b:=by obtain⟨v,hb⟩:=hb;exact h.types hb (by decide)
theorem Ez.row{F:Nat→Prop}(h:Ez w G p s)(hf:AK F w w')(hF:∀k,F k→G k){k:Nat}{t:TypeId}{cs:List Value}(hr:Row w k t cs)(ht:t≠73):Row w' k t cs:=hf.row hr fun hk=>h.types hr ht (hF k hk)
theorem Ez.CL(h:Ez w G p s)(hG:∀k,G k→w'.heap[k]?=w.heap[k]?)(hB:∀q∈s.st,Gv w q.1→Gv w' q.1)(hs:w.heap.size≤w'.heap.size):Ez w' G p s:=by
 obtain⟨h0,⟨m,h1,h2,h3⟩,h4,h5,h6⟩:=h
 exact⟨h0,⟨m,(hG p h4).trans h1,h2.CL hG,h3⟩,h4,fun k hk=>Nat.lt_of_lt_of_le (h5 k hk) hs,fun q hq=>hB q hq (h6 q hq)⟩
theorem Ez.CU{F:Nat→Prop}(h:Ez w G p s)(hf:AK F w w')(hG:∀k,G k→¬F k)(hB:∀q∈s.st,¬F q.1):Ez w' G p s:=
 h.CL (fun k hk=>hf.block k (h.lt hk) (hG k hk)) (fun q hq hb=>hb.CU hf (hB q hq)) hf.size
theorem Ez.below(h:Ez w G p s)(hb:Below w.heap.size w w'):Ez w' G p s:=h.CU (AK.AJ hb fun _=>False) (fun _ _ hf=>hf) fun _ _ hf=>hf
theorem Ez.words{b n:Nat}(h:Ez w G p s)(hb:wordsAt s.st b=some n):n≤s.used∧s.used≤s.Cj∧s.Cj≤s.room∧s.room≤9223372036854775807:=⟨Mr h.1 hb,h.1.Cj.1,h.1.Cj.2,h.1.room⟩
end
theorem MY(w:World){ops:Array Oper}{rest:List Oper}{o:Oper}{a:Act}{Q:Exit→Act→World→Prop}
  (hg:o.guard=none) (m x v:Operand) (fC:o.op=Op.mapUpdate 71 m x v) (b k n:Nat) (l:List (Nat×Nat)) (hm:a.eval m=.map (some b)) (hx:a.eval x=ptr k) (hv:a.eval v=.int .i64 (n:Nat))
  (h:Fe w b l) (hk:Gv w k) (hl:∀q∈l,Gv w q.1) (hn:wordsAt l k=none)
  (hK:∀w',Fe w' b (l++[(k,n)])→w.grownBy w' (some b)→wpList Tryz.prog ops Q rest (a.put o.dst undef) w'):
  wpList Tryz.prog ops Q (o::rest) a w:=by
 refine wpList_plain hg fun K' rS=>?_
 obtain⟨w',hrun,r1,r2⟩:=dj w (n:=n) h hk hl hn
 unfold Oper.wp
 simp[execOp,fC,hm,hx,hv,hrun,Result.andThen]
 exact rS _ _ (hK w' r1 r2)
theorem MZ(w:World){ops:Array Oper}{rest:List Oper}{o:Oper}{a:Act}{Q:Exit→Act→World→Prop}
  (hg:o.guard=none) (m x:Operand) (fC:o.op=Op.call {callee:=Callee.builtin Builtin.delete,args:=#[m,x],argTypes:=#[71,117]}) (b k n:Nat) (l:List (Nat×Nat)) (hm:a.eval m=.map (some b)) (hx:a.eval x=ptr k)
  (h:Fe w b l) (hk:Gv w k) (hl:∀q∈l,Gv w q.1) (hn:wordsAt l k=some n)
  (hK:∀w',Fe w' b (CH l k)→w.grownBy w' (some b)→wpList Tryz.prog ops Q rest (a.put o.dst (.tuple #[])) w'):
  wpList Tryz.prog ops Q (o::rest) a w:=by
 refine wpList_plain hg fun K' rS=>?_
 obtain⟨w',hrun,r1,r2⟩:=dr w h hk hl hn o.type
 unfold Oper.wp
 simp[execOp,fC,resolve,invoke,builtin,hm,hx,hrun,Result.andThen]
 exact rS _ _ (hK w' r1 r2)
theorem Uz{P:Program}{ops:Array Oper}{Q:Exit→Act→World→Prop}{rest:List Oper}{a:Act}{w:World}{m x:Operand}{ts:Array TypeId}{ty:TypeId}{pos:String}{after:Array Edge}{guard:Option (Nat×Bool)}
  (h:Hid (wpList P ops Q (⟨none,.call {callee:=.builtin .delete,args:=#[m,x],argTypes:=ts},ty,pos,after,guard⟩::rest) a w)):wpList P ops Q (⟨none,.call {callee:=.builtin .delete,args:=#[m,x],argTypes:=ts},ty,pos,after,guard⟩::rest) a w:=h
section
variable (p : Nat) (s : Ar) (m : Option Nat) (w : World)
theorem Jl(hr:Row w p 73 (Bb s m)):Calls Tryz.prog 14 #[.pointer (some ⟨p,0,none⟩)] w fun e w'=>e=.returned (.int .i64 (s.room:Int))∧w'=w:=by
 have c0:w.cell? ⟨p,0,none⟩=some (.int .i64 (s.room:Int)):=hr.cell 0
 go_enter Tryz.func14,Tryz.ntmps14
 go_wp2
 go_ret
 exact⟨rfl,rfl⟩
theorem Nm(hr:Row w p 73 (Bb s m)):Calls Tryz.prog 21 #[.pointer (some ⟨p,0,none⟩)] w fun e w'=>e=.returned (.int .i64 (s.used:Int))∧w'=w:=by
 have c0:w.cell? ⟨p,1,none⟩=some (.int .i64 (s.used:Int)):=hr.cell 1
 go_enter Tryz.func21,Tryz.ntmps21
 go_wp2
 go_ret
 exact⟨rfl,rfl⟩
theorem Jn(hr:Row w p 73 (Bb s m))(hs:Sound s):Calls Tryz.prog 43 #[.pointer (some ⟨p,0,none⟩)] w fun e w'=>e=.returned (.int .i64 ((s.room-s.used:Nat):Int))∧w'=w:=by
 have hro:=Jl p s m w hr
 have hus:=Nm p s m w hr
 have h1:=hs.Cj
 have h2:=hs.room
 have GL:(s.room:Int)-(s.used:Int)=((s.room-s.used:Nat):Int):=by omega
 have g1:(-9223372036854775808:Int)≤(s.room:Int)-(s.used:Int):=by omega
 have g2:(s.room:Int)-(s.used:Int)≤9223372036854775807:=by omega
 clear h1 h2 hs hr
 go_enter Tryz.func43,Tryz.ntmps43
 go_wp2_with fail
 refine hro.mono ?_
 rintro e w1 ⟨rfl,rfl⟩
 go_wp2_with fail
 refine hus.mono ?_
 rintro e w1 ⟨rfl,rfl⟩
 go_wp2
 go_ret
 exact⟨rfl,rfl⟩
end
theorem eG(w:World)(room:Nat)(h:room≤9223372036854775807):Ez (w.alloc (.cells #[.int .i64 (room:Int),.int .i64 0,.int .i64 0,.map none] 73)) (fun k=>k=w.heap.size) w.heap.size (empty room):=by
 have hr:Row (w.alloc (.cells #[.int .i64 (room:Int),.int .i64 0,.int .i64 0,.map none] 73)) w.heap.size 73 (Bb (empty room) none):=heap_alloc_new _ _
 exact⟨Sb h,⟨none,hr,.inl ⟨rfl,rfl⟩,fun k hk=>.inl hk⟩,rfl,fun k hk=>by subst hk;simp,fun q hq=>by cases hq⟩
theorem PZ(room:Int)(w:World)(h1:-9223372036854775808≤room)(h2:room≤9223372036854775807):
  Calls Tryz.prog 31 #[.int .i64 room] w fun e w'=>e=.returned (ptr w.heap.size)∧Ez w' (fun k=>k=w.heap.size) w.heap.size (empty room.toNat)∧Below w.heap.size w w':=by
 have H:=Lib.hid (eG w)
 have HB:=fun o=>Lib.hid ((Below.refl _ w).alloc (Nat.le_refl _) o)
 go_enter Tryz.func31,Tryz.ntmps31
 go_wp2
 ·go_ret
  have e:room.toNat=0:=by omega
  rw[e]
  exact⟨rfl,H.out 0 (by omega),(HB _).out⟩
 ·go_ret
  have e:room=(room.toNat:Int):=by omega
  have hh:=H.out room.toNat (by omega)
  rw[←e]at hh
  exact⟨rfl,hh,(HB _).out⟩
theorem Vi{w2 w3:World}{G:Nat→Prop}{p b n bm:Nat}{s:Ar}(h0:Sound s)(hn:n≤s.room-s.used)(hb:Gv w2 b)(QW:¬G b)(I4:∀q∈s.st,Gv w2 q.1∧¬G q.1)(hp:G p)(hG:∀k,G k→k<w2.heap.size)(cW:∀k,G k→k=p∨some bm=some k)
  (hm:Fe w2 bm (s.st++[(b,n)])) (PB:G bm) (hne:bm≠p) (hr:Row w3 p 73 (Bb (Bo s b n) (some bm))) (hf:AK (fun k=>k=p) w2 w3):Ez w3 G p (Bo s b n):=by
 have hB:∀x,Gv w2 x→¬G x→Gv w3 x:=fun x hx hg=>hx.CU hf fun e=>hg (e▸hp)
 refine⟨SQ h0 b hn,⟨some bm,hr,.inr ⟨bm,rfl,hm.same (hf.block bm hm.lt hne),PB⟩,cW⟩,hp,fun k hk=>Nat.lt_of_lt_of_le (hG k hk) hf.size,fun q hq=>?_⟩
 rcases List.mem_append.1 hq with hq|hq
 ·exact hB _ (I4 q hq).1 (I4 q hq).2
 ·have:q=(b,n):=by simpa using hq
  subst this;exact hB _ hb QW
theorem count_tail{w2:World}{p:Nat}{s:Ar}{bm:Nat}(b n:Nat){u:Nat}(hu:s.used+n=u)(hr:Row w2 p 73 (Bb s (some bm))):
  Row ((w2.setCell ⟨p,1,none⟩ (.int .i64 (u:Int))).setCell ⟨p,2,none⟩ (.int .i64 (if s.Cj<u then (u:Int)else (s.Cj:Int)))).drew p 73 (Bb (Bo s b n) (some bm))∧
  AK (fun k=>k=p) w2 ((w2.setCell ⟨p,1,none⟩ (.int .i64 (u:Int))).setCell ⟨p,2,none⟩ (.int .i64 (if s.Cj<u then (u:Int)else (s.Cj:Int)))).drew:=by
 refine⟨?_,?_⟩
 ·have h:=(hr.set 1 (.int .i64 (u:Int))).set 2 (.int .i64 (if s.Cj<u then (u:Int)else (s.Cj:Int)))
  have e:Bb (Bo s b n) (some bm)=((Bb s (some bm)).set 1 (.int .i64 (u:Int))).set 2 (.int .i64 (if s.Cj<u then (u:Int)else (s.Cj:Int))):=by
   subst hu
   by_cases h:s.Cj<s.used+n<;>simp[Bb,Bo,h]
  rw[e];exact h
 ·exact(((AK.refl (fun k=>k=p) w2).set (p:=⟨p,1,none⟩) (.inl rfl) (.int .i64 (u:Int))).set (p:=⟨p,2,none⟩) (.inl rfl) (.int .i64 (if s.Cj<u then (u:Int)else (s.Cj:Int)))).drew
theorem Sk(p:Nat)(s:Ar)(G:Nat→Prop)(b n:Nat)(w:World)(h:Ez w G p s)(hb:Gv w b)(YB:∀q∈s.st,q.1≠b)(hn:n≤s.room-s.used):
  Calls Tryz.prog 84 #[.pointer (some ⟨p,0,none⟩),.pointer (some ⟨b,0,none⟩),.int .i64 (n:Int)] w fun e w'=>∃G',e=.returned (.tuple #[])∧Ez w' G' p (Bo s b n)∧AK G w w'∧∀k,G' k→G k∨w.heap.size≤k:=by
 have hno:=I7 s.st b YB
 have QW:=h.Kv hb
 have I4:=fun q hq=>And.intro (h.buf (q:=q) hq) (h.Kv (h.buf hq))
 obtain⟨h0,⟨m,hr,hst,cW⟩,hp,hG,_⟩:=id h
 have hmm:=@run_makeMap Tryz.prog
 have XG:=fun w r=>run_eql_map_nil (P:=Tryz.prog) w 71 117 3 r Tryz.underlying71
 have EP:=h0.Cj
 have EB:=h0.room
 obtain⟨u,hu⟩:∃u,s.used+n=u:=⟨_,rfl⟩
 have K5:(s.used:Int)+(n:Int)=(u:Int):=by omega
 have HU:=Lib.hid hu
 have g1:(-9223372036854775808:Int)≤(u:Int):=by omega
 have g2:(u:Int)≤9223372036854775807:=by omega
 clear hu
 have H0:=Lib.hid h0
 have HR:=Lib.hid hr
 have HN:=Lib.hid hn
 have c3:w.cell? ⟨p,3,none⟩=some (.map m):=hr.cell 3
 have f3:=hr.free 3
 clear hr h0 h hn EP EB
 rcases hst with⟨rfl,hst⟩|⟨bm,rfl,hm,PB⟩
 ·have cP:p<w.heap.size:=hG p hp
  have BS:Row ((w.setCell ⟨p,3,none⟩ (.map (some w.heap.size))).alloc (.map #[] 0)) p 73 (Bb s (some w.heap.size)):=(HR.out.set 3 (.map (some w.heap.size))).alloc (.map #[] 0)
  have Qy:Fe ((w.setCell ⟨p,3,none⟩ (.map (some w.heap.size))).alloc (.map #[] 0)) w.heap.size s.st:=by
   rw[hst];have:=Fe.made (w.setCell ⟨p,3,none⟩ (.map (some w.heap.size)));rwa [show (w.setCell ⟨p,3,none⟩ (.map (some w.heap.size))).heap.size=w.heap.size by simp]at this
  have IZ:AK G w ((w.setCell ⟨p,3,none⟩ (.map (some w.heap.size))).alloc (.map #[] 0)):=((AK.refl G w).set (p:=⟨p,3,none⟩) (.inl hp) _).alloc _
  have CM:((w.setCell ⟨p,3,none⟩ (.map (some w.heap.size))).alloc (.map #[] 0)).heap.size=w.heap.size+1:=by simp
  have c3':((w.setCell ⟨p,3,none⟩ (.map (some w.heap.size))).alloc (.map #[] 0)).cell? ⟨p,3,none⟩=some (.map (some w.heap.size)):=BS.cell 3
  have nU:=Lib.hid Qy
  have Dr:=Lib.hid BS
  have OH:=Lib.hid IZ
  have HZ1:=Lib.hid CM
  clear Qy BS IZ CM
  go_enter Tryz.func84,Tryz.ntmps84
  go_wp2_with (with_reducible refine Pq ?_)
  unfold Hid
  generalize(w.setCell ⟨p,3,none⟩ (.map (some w.heap.size))).alloc (.map #[] 0)=w1 at*
  have Aj:∀x,Gv w x→¬G x→Gv w1 x:=fun x hx hg=>hx.CU OH.out hg
  refine MY w1 rfl _ _ _ rfl w.heap.size b n s.st rfl rfl rfl nU.out (Aj b hb QW) (fun q hq=>Aj _ (I4 q hq).1 (I4 q hq).2) hno ?_
  intro w2 hm2 CE
  have DZ:AK (fun k=>k=w.heap.size) w1 w2:=(AK.refl _ w1).grown CE fun k hk=>.inl (by injection hk with hk;exact hk.symm)
  have Ap:=DZ.row Dr.out (nU.out.Ay Dr.out)
  have Q8:=Lib.hid (OH.out.trans DZ fun k hk=>.inr (by omega))
  have AX:∀x,Gv w x→¬G x→Gv w2 x:=fun x hx hg=>hx.CU Q8.out hg
  have HT:=Lib.hid (count_tail b n HU.out Ap)
  have k1:w2.cell? ⟨p,1,none⟩=some (.int .i64 (s.used:Int)):=Ap.cell 1
  have k2:w2.cell? ⟨p,2,none⟩=some (.int .i64 (s.Cj:Int)):=Ap.cell 2
  have f1:=Ap.free 1
  have f2:=Ap.free 2
  have Ia:∀w3,Row w3 p 73 (Bb (Bo s b n) (some w.heap.size))→AK (fun k=>k=p) w2 w3→∃G',Ending.returned (.tuple #[])=Ending.returned (.tuple #[])∧Ez w3 G' p (Bo s b n)∧AK G w w3∧∀k,G' k→G k∨w.heap.size≤k:=by
   intro w3 Cm KL
   refine⟨fun k=>G k∨k=w.heap.size,rfl,?_,Q8.out.trans KL fun k hk=>.inl (hk▸hp),fun k hk=>hk.imp id fun e=>by omega⟩
   have hlt:∀x,Gv w x→¬G x→¬(G x∨x=w.heap.size):=fun x hx hg hh=>hh.elim hg fun e=>by have:=hx.lt;omega
   refine Vi (G:=fun k=>G k∨k=w.heap.size) H0.out HN.out (AX b hb QW) (hlt b hb QW) (fun q hq=>⟨AX _ (I4 q hq).1 (I4 q hq).2,hlt _ (I4 q hq).1 (I4 q hq).2⟩) (.inl hp) (fun k hk=>?_) (fun k hk=>?_) hm2 (.inr rfl) (by omega) Cm KL
   ·have:=Q8.out.size
    have:=hm2.lt
    rcases hk with hk|hk
    ·have:=hG k hk;omega
    ·omega
   ·rcases hk with hk|hk
    ·exact(cW k hk).elim .inl fun e=>by cases e
    ·exact .inr (by rw[hk])
  have Aq:=Lib.hid Ia
  clear Ia hm2 CE DZ Ap AX c3 c3' f3 Aj hst hno YB I4
  go_wp2_with fail
  go_region
  go_end0
  have ht:=HT.out
  by_cases hlt:s.Cj<u
  ·simp only[if_pos hlt]at ht⊢;exact Aq.out _ ht.1 ht.2
  ·simp only[if_neg hlt]at ht⊢;exact Aq.out _ ht.1 ht.2
 ·have HM:=Lib.hid hm
  go_enter Tryz.func84,Tryz.ntmps84
  go_wp2_with (with_reducible refine Pq ?_)
  unfold Hid
  refine MY _ rfl _ _ _ rfl bm b n s.st rfl rfl rfl HM.out hb (fun q hq=>(I4 q hq).1) hno ?_
  intro w2 hm2 CE
  have DZ:AK (fun k=>k=bm) w w2:=(AK.refl _ w).grown CE fun k hk=>.inl (by injection hk with hk;exact hk.symm)
  have Ap:=DZ.row HR.out (HM.out.Ay HR.out)
  have Q8:Hid (AK G w w2):=DZ.mono fun k hk=>hk▸PB
  have AX:∀x,Gv w x→¬G x→Gv w2 x:=fun x hx hg=>hx.CU Q8.out hg
  have hne:bm≠p:=fun e=>HM.out.Ay HR.out e.symm
  have HT:=Lib.hid (count_tail b n HU.out Ap)
  have k1:w2.cell? ⟨p,1,none⟩=some (.int .i64 (s.used:Int)):=Ap.cell 1
  have k2:w2.cell? ⟨p,2,none⟩=some (.int .i64 (s.Cj:Int)):=Ap.cell 2
  have f1:=Ap.free 1
  have f2:=Ap.free 2
  have Ia:∀w3,Row w3 p 73 (Bb (Bo s b n) (some bm))→AK (fun k=>k=p) w2 w3→∃G',Ending.returned (.tuple #[])=Ending.returned (.tuple #[])∧Ez w3 G' p (Bo s b n)∧AK G w w3∧∀k,G' k→G k∨w.heap.size≤k:=by
   intro w3 Cm KL
   exact⟨G,rfl,Vi H0.out HN.out (AX b hb QW) QW (fun q hq=>⟨AX _ (I4 q hq).1 (I4 q hq).2,(I4 q hq).2⟩) hp (fun k hk=>Nat.lt_of_lt_of_le (hG k hk) Q8.out.size) cW hm2 PB hne Cm KL,Q8.out.trans KL fun k hk=>.inl (hk▸hp),fun k hk=>.inl hk⟩
  have Aq:=Lib.hid Ia
  clear Ia hm2 CE DZ Ap AX c3 f3 hno YB I4
  go_wp2_with fail
  go_region
  go_end0
  have ht:=HT.out
  by_cases hlt:s.Cj<u
  ·simp only[if_pos hlt]at ht⊢;exact Aq.out _ ht.1 ht.2
  ·simp only[if_neg hlt]at ht⊢;exact Aq.out _ ht.1 ht.2
theorem gA:(Tryz.prog.info? 127).map (fun i=>(i.zero,i.size,i.bytes))=some (some (.int .u64 0),1,8):=by kernel_rfl
theorem aY(p:Nat)(s:Ar)(G:Nat→Prop)(n:Int)(w:World)(h:Ez w G p s)(hn:n<0∨(s.room-s.used:Nat)<n):
  Calls Tryz.prog 63 #[.pointer (some ⟨p,0,none⟩),.int .i64 n] w fun e w'=>e=.returned (.tuple #[.pointer none,.int .i64 (if n<0 then 1 else 7)])∧w'=w:=by
 obtain⟨h0,⟨m,hr,hst,cW⟩,hp,hG,I4⟩:=h
 have hl:=Jn p s m w hr h0
 by_cases h1:n<0
 ·rw[if_pos h1]
  have g1:decide (n<0)=true:=by simpa using h1
  clear hl hn
  go_enter Tryz.func63,Tryz.ntmps63
  go_wp2
  go_ret2
  exact⟨rfl,rfl⟩
 ·rw[if_neg h1]
  have QS:(s.room-s.used:Nat)<n:=by omega
  have g1:decide (n<0)=false:=by simpa using h1
  obtain⟨left,La⟩:∃l:Nat,s.room-s.used=l:=⟨_,rfl⟩
  rw[La]at hl QS
  have g2:decide (n>(left:Int))=true:=by simpa using QS
  clear hn La h1 QS hr
  go_enter Tryz.func63,Tryz.ntmps63
  go_wp2_with fail
  refine hl.mono ?_
  rintro e w1 ⟨rfl,rfl⟩
  go_wp2
  go_ret2
  exact⟨rfl,rfl⟩
theorem PF(p:Nat)(s:Ar)(G:Nat→Prop)(n:Nat)(w:World)(h:Ez w G p s)(hn:n≤s.room-s.used)(hm:n≤268435455):
  Calls Tryz.prog 63 #[.pointer (some ⟨p,0,none⟩),.int .i64 (n:Int)] w fun e w'=>∃b g G',e=.returned (.tuple #[ptr b,.int .i64 0])∧Ez w' G' p (Bo s b n)∧
   Row w' b 126 [.slice (some ⟨g,0,none⟩) n n]∧Row w' g 127 (List.replicate n (.int .u64 0))∧w.heap.size≤b∧w.heap.size≤g∧b≠g∧¬G' b∧¬G' g∧AK G w w'∧∀k,G' k→G k∨w.heap.size≤k:=by
 obtain⟨h0,⟨m,hr,hst,cW⟩,hp,hG,I4⟩:=id h
 have hl:=Jn p s m w hr h0
 have HA:=Lib.hid h
 have HN:=Lib.hid hn
 have g1:decide ((n:Int)<0)=false:=by simp
 have g2:decide (s.room-s.used<n)=false:=by simp;omega
 have g3:decide ((n:Int)>268435455)=false:=by simp;omega
 obtain⟨i0,CA,Cy,CM,GJ⟩:=info_parts gA
 have rN:i0.bytes*n≤281474976710656:=by rw[GJ];omega
 obtain⟨left,La⟩:∃l:Nat,s.room-s.used=l:=⟨_,rfl⟩
 rw[La]at hl g2
 clear h hn hr hst h0 La
 go_enter Tryz.func63,Tryz.ntmps63
 go_wp2_with fail
 refine hl.mono ?_
 rintro e w1 ⟨rfl,rfl⟩
 go_wp2_with (with_reducible refine BX 23 ?_)
 unfold Hid
 refine ET _ rfl _ _ 123 rfl 127 i0 (.int .u64 0) Tryz.underlying123 CA Cy CM rfl .i64 .i64 _ _ n rfl rfl rfl rfl rN (by omega) ?_
 intro w2 Ap AX EB
 have Cm:Row (w2.alloc (.cells #[.slice (some ⟨w1.heap.size,0,none⟩) n n] 126)) w2.heap.size 126 [.slice (some ⟨w1.heap.size,0,none⟩) n n]:=heap_alloc_new _ _
 have A9:=AX.trans (((Below.refl _ w2).alloc (Nat.le_refl _) (.cells #[.slice (some ⟨w1.heap.size,0,none⟩) n n] 126)).mono (by omega))
 have Zt:(w2.alloc (.cells #[.slice (some ⟨w1.heap.size,0,none⟩) n n] 126)).heap.size=w1.heap.size+2:=by simp[EB]
 have KI:Row (w2.alloc (.cells #[.slice (some ⟨w1.heap.size,0,none⟩) n n] 126)) w1.heap.size 127 (List.replicate n (.int .u64 0)):=Ap.alloc _
 have uN:=HA.out.below A9
 have hno:∀k,G k→k<w1.heap.size:=hG
 have KM:=Sk p s G w2.heap.size n _ uN ⟨_,Cm⟩ (fun q hq e=>by have:=(I4 q hq).lt;omega) HN.out
 have Hq:=Lib.hid Cm
 have Bq:=Lib.hid A9
 have Ul:=Lib.hid KI
 have uf:=Lib.hid Zt
 have JN:=Lib.hid EB
 clear Cm A9 KI Zt uN Ap AX EB I4 hl CA Cy CM GJ rN
 go_wp2_with fail
 refine KM.mono ?_
 rintro e w4 ⟨G',rfl,ha4,L0,x6⟩
 have EB:=JN.out
 have Zt:=uf.out
 have Dz:=L0.row Hq.out (fun hg=>by have:=hG _ hg;omega)
 have oS:=L0.row Ul.out (fun hg=>by have:=hG _ hg;omega)
 have Aq:Hid (Ez w4 G' p (Bo s w2.heap.size n)∧Row w4 w2.heap.size 126 [.slice (some ⟨w1.heap.size,0,none⟩) n n]∧Row w4 w1.heap.size 127 (List.replicate n (.int .u64 0))∧w1.heap.size≤w2.heap.size∧w1.heap.size≤w1.heap.size∧w2.heap.size≠w1.heap.size∧¬G' w2.heap.size∧¬G' w1.heap.size∧AK G w1 w4∧∀k,G' k→G k∨w1.heap.size≤k):=by
  have VK:∀x,G' x→¬G x→w1.heap.size+2≤x:=fun x hx hg=>(x6 x hx).elim (fun h=>absurd h hg) fun h=>by omega
  refine⟨ha4,Dz,oS,by omega,Nat.le_refl _,by omega,fun h=>?_,fun h=>?_,(AK.AJ Bq.out G).trans L0 fun k hk=>.inl hk,fun k hk=>(x6 k hk).imp id fun h=>by omega⟩
  ·by_cases hg:G w2.heap.size
   ·have:=hG _ hg;omega
   ·have:=VK _ h hg;omega
  ·by_cases hg:G w1.heap.size
   ·have:=hG _ hg;omega
   ·have:=VK _ h hg;omega
 clear ha4 L0 x6 Dz oS KM EB Zt Hq Bq Ul uf JN
 go_wp2
 go_ret2
 exact⟨_,_,_,rfl,Aq.out⟩
theorem Rh(p:Nat)(s:Ar)(G:Nat→Prop)(b n:Nat)(w:World)(h:Ez w G p s)(hb:Gv w b)(hn:wordsAt s.st b=some n):
  Calls Tryz.prog 80 #[.pointer (some ⟨p,0,none⟩),.pointer (some ⟨b,0,none⟩)] w fun e w'=>e=.returned (.bool true)∧Ez w' G p (release s b n)∧Row w' b 126 [.slice none 0 0]∧AK (fun k=>G k∨k=b) w w':=by
 have hw:=h.words hn
 have QW:=h.Kv hb
 have I4:=fun q hq=>And.intro (h.buf (q:=q) hq) (h.Kv (h.buf hq))
 obtain⟨h0,⟨m,hr,hst,cW⟩,hp,hG,_⟩:=id h
 rcases hst with⟨rfl,hst⟩|⟨bm,rfl,hm,PB⟩
 ·rw[hst]at hn;cases hn
 have c3:w.cell? ⟨p,3,none⟩=some (.map (some bm)):=hr.cell 3
 have aJ:(Instr.lookup 71 (.map (some bm)) (.pointer (some ⟨b,0,none⟩)) true).run Tryz.prog w=.ok (.tuple #[.int .i64 (n:Int),.bool true]) w:=by
  have:=Ra w hm hb fun q hq=>(I4 q hq).1
  rw[hn]at this;exact this
 have hne:bm≠p:=fun e=>hm.Ay hr e.symm
 have HM:=Lib.hid hm
 have HR:=Lib.hid hr
 have H0:=Lib.hid h0
 have jT:=Lib.hid hn
 obtain⟨u,hu⟩:∃u,s.used-n=u:=⟨_,rfl⟩
 have GL:(s.used:Int)-(n:Int)=(u:Int):=by omega
 have g1:(-9223372036854775808:Int)≤(u:Int):=by omega
 have g2:(u:Int)≤9223372036854775807:=by omega
 have HU:=Lib.hid hu
 clear hu hr hm h h0 hn hw
 go_enter Tryz.func80,Tryz.ntmps80
 go_wp2_with (with_reducible refine Uz ?_)
 unfold Hid
 refine MZ _ rfl _ _ rfl bm b n s.st rfl rfl HM.out hb (fun q hq=>(I4 q hq).1) jT.out ?_
 intro w2 hm2 CE
 have DZ:AK (fun k=>k=bm) w w2:=(AK.refl _ w).grown CE fun k hk=>.inl (by injection hk with hk;exact hk.symm)
 have Ap:=DZ.row HR.out (HM.out.Ay HR.out)
 obtain⟨v,hv⟩:=hb
 have AX:=DZ.row hv (HM.out.Ay hv)
 have k1:w2.cell? ⟨p,1,none⟩=some (.int .i64 (s.used:Int)):=Ap.cell 1
 have f1:=Ap.free 1
 have fb:=AX.free 0
 have kb:w2.cell? ⟨b,0,none⟩=some v:=AX.cell 0
 have cU:b≠p:=fun e=>QW (e▸hp)
 have lK:p≠b:=fun e=>cU e.symm
 have Ia:Ez ((w2.setCell ⟨p,1,none⟩ (.int .i64 (u:Int))).setCell ⟨b,0,none⟩ (.slice none 0 0)) G p (release s b n)∧Row ((w2.setCell ⟨p,1,none⟩ (.int .i64 (u:Int))).setCell ⟨b,0,none⟩ (.slice none 0 0)) b 126 [.slice none 0 0]∧
   AK (fun k=>G k∨k=b) w ((w2.setCell ⟨p,1,none⟩ (.int .i64 (u:Int))).setCell ⟨b,0,none⟩ (.slice none 0 0)):=by
  have Cm:Row ((w2.setCell ⟨p,1,none⟩ (.int .i64 (u:Int))).setCell ⟨b,0,none⟩ (.slice none 0 0)) p 73 (Bb (release s b n) (some bm)):=by
   have e:Bb (release s b n) (some bm)=(Bb s (some bm)).set 1 (.int .i64 (u:Int)):=by rw[←HU.out];rfl
   rw[e];exact(Ap.set 1 _).CU (fun e=>cU e.symm) _
  have FZ:Row ((w2.setCell ⟨p,1,none⟩ (.int .i64 (u:Int))).setCell ⟨b,0,none⟩ (.slice none 0 0)) b 126 [.slice none 0 0]:=(AX.CU (p:=⟨p,1,none⟩) cU _).set 0 _
  have L0:AK (fun k=>G k∨k=b) w ((w2.setCell ⟨p,1,none⟩ (.int .i64 (u:Int))).setCell ⟨b,0,none⟩ (.slice none 0 0)):=((DZ.mono fun k hk=>.inl (hk▸PB)).set (p:=⟨p,1,none⟩) (.inl (.inl hp)) _).set (p:=⟨b,0,none⟩) (.inl (.inr rfl)) _
  refine⟨⟨JD H0.out jT.out,⟨some bm,Cm,.inr ⟨bm,rfl,hm2.same ?_,PB⟩,cW⟩,hp,fun k hk=>Nat.lt_of_lt_of_le (hG k hk) L0.size,fun q hq=>?_⟩,FZ,L0⟩
  ·rw[heap_setCell_other _ ⟨b,0,none⟩ _ _ (show bm≠b from fun e=>QW (e▸PB)),heap_setCell_other _ ⟨p,1,none⟩ _ _ (show bm≠p from hne)]
  ·have cO:=I4 q (DW _ _ _ hq)
   by_cases e:q.1=b
   ·rw[e];exact⟨_,FZ⟩
   ·exact cO.1.CU L0 fun h=>h.elim cO.2 e
 have Aq:=Lib.hid Ia
 clear Ia hm2 CE DZ Ap AX hv c3 aJ I4
 go_wp2
 go_ret
 exact⟨rfl,Aq.out⟩
theorem AH{B:Nat}{a w:World}(h:Below B a w):Below B a w.drew:=⟨h.os,h.tape,h.output,h.size,h.block⟩
structure Wp where
 w:Nat
 d:Nat
 a:Nat
 s:Nat
structure Fs where
 D:St
 A:Ar
 S:Sp
def Sys(w:World)(G:Nat→Prop)(p:Wp)(F:Fs)(n:Nat):Prop:=
 ∃Gd Ga Gs,Row w p.w 70 [ptr p.d,ptr p.a,ptr p.s]∧Gu w Gd p.d F.D n∧Ez w Ga p.a F.A∧EZ w Gs p.s F.S∧(∀k,G k↔k=p.w∨Gd k∨Ga k∨Gs k)∧
  (∀k,Gd k→¬Ga k∧¬Gs k∧k≠p.w)∧(∀k,Ga k→¬Gs k∧k≠p.w)∧(∀k,Gs k→k≠p.w)∧∀q∈F.A.st,¬G q.1
def AQ(w:World)(G:Nat→Prop)(p:Wp)(F:Fs)(n:Nat)(w':World):Prop:=∃G',Sys w' G' p F n∧AK G w w'∧∀k,G' k→G k∨w.heap.size≤k
section
variable {w w' : World} {G : Nat → Prop} {p : Wp} {F : Fs} {n : Nat}
theorem Sys.lt(h:Sys w G p F n){k:Nat}(hk:G k):k<w.heap.size:=by
 obtain⟨Gd,Ga,Gs,hr,hd,ha,hs,hG,_⟩:=h
 rcases(hG k).1 hk with rfl|h|h|h
 ·exact hr.lt
 ·exact hd.lt h
 ·exact ha.lt h
 ·exact hs.lt h
theorem Sys.row(h:Sys w G p F n):Row w p.w 70 [ptr p.d,ptr p.a,ptr p.s]:=by obtain⟨Gd,Ga,Gs,hr,_⟩:=h;exact hr
theorem Sys.I3(h:Sys w G p F n):G p.w:=by obtain⟨Gd,Ga,Gs,hr,hd,ha,hs,hG,_⟩:=h;exact(hG _).2 (.inl rfl)
theorem Sys.size(h:Sys w G p F n):8≤F.D.size∧F.D.size≤256:=by obtain⟨Gd,Ga,Gs,hr,hd,_⟩:=h;exact hd.fits.size
theorem Sys.sound(h:Sys w G p F n):Sound F.A:=by obtain⟨Gd,Ga,Gs,hr,hd,ha,_⟩:=h;exact ha.sound
theorem Sys.U1(h:Sys w G p F n):F.S.ok:=by obtain⟨Gd,Ga,Gs,hr,hd,ha,hs,_⟩:=h;exact hs.1
theorem Sys.fits(h:Sys w G p F n):Fits F.D n:=by obtain⟨Gd,Ga,Gs,hr,hd,_⟩:=h;exact hd.fits
theorem Sys.buf(h:Sys w G p F n){q:Nat×Nat}(hq:q∈F.A.st):Gv w q.1∧¬G q.1:=by obtain⟨Gd,Ga,Gs,hr,hd,ha,hs,hG,_,_,_,hb⟩:=h;exact⟨ha.buf hq,hb q hq⟩
theorem Sys.CU{R:Nat→Prop}(h:Sys w G p F n)(hf:AK R w w')(hG:∀k,G k→¬R k)(hB:∀q∈F.A.st,¬R q.1):Sys w' G p F n:=by
 obtain⟨Gd,Ga,Gs,hr,hd,ha,hs,hg,h1,h2,h3,h4⟩:=h
 exact⟨Gd,Ga,Gs,hf.row hr (hG _ ((hg _).2 (.inl rfl))),hd.CU hf fun k hk=>hG k ((hg k).2 (.inr (.inl hk))),ha.CU hf (fun k hk=>hG k ((hg k).2 (.inr (.inr (.inl hk))))) hB,hs.CU hf fun k hk=>hG k ((hg k).2 (.inr (.inr (.inr hk)))),hg,h1,h2,h3,h4⟩
theorem Sys.below(h:Sys w G p F n)(hb:Below w.heap.size w w'):Sys w' G p F n:=h.CU (AK.AJ hb fun _=>False) (fun _ _ hf=>hf) fun _ _ hf=>hf
theorem Sys.mono{n':Nat}(h:Sys w G p F n)(hn:n≤n')(h6:n'≤1000000):Sys w G p F n':=by
 obtain⟨Gd,Ga,Gs,hr,hd,r⟩:=h;exact⟨Gd,Ga,Gs,hr,hd.mono hn h6,r⟩
theorem AQ.AJ(h:Sys w G p F n)(hb:Below w.heap.size w w'):AQ w G p F n w':=⟨G,h.below hb,AK.AJ hb G,fun _ hk=>.inl hk⟩
theorem AQ.refl(h:Sys w G p F n):AQ w G p F n w:=AQ.AJ h (Below.refl _ _)
theorem AQ.behind{w1:World}(hb:Below w.heap.size w w1)(h:AQ w1 G p F n w'):AQ w G p F n w':=by
 obtain⟨G',h1,h2,h3⟩:=h
 exact⟨G',h1,(AK.AJ hb G).trans h2 fun b hb'=>.inl hb',fun k hk=>(h3 k hk).imp id fun h=>Nat.le_trans hb.size h⟩
theorem AQ.ahead{w1:World}(h:AQ w G p F n w1)(hb:Below w1.heap.size w1 w'):AQ w G p F n w':=by
 obtain⟨G',h1,h2,h3⟩:=h
 exact⟨G',h1.below hb,h2.trans (AK.AJ hb fun _=>False) fun _ hf=>hf.elim,h3⟩
theorem AQ.mono{n':Nat}(h:AQ w G p F n w')(hn:n≤n')(h6:n'≤1000000):AQ w G p F n' w':=by
 obtain⟨G',h1,h2⟩:=h;exact⟨G',h1.mono hn h6,h2⟩
theorem AQ.apart(h:AQ w G p F n w'):∃G',Sys w' G' p F n∧AK G w w'∧(∀k,G' k→G k∨w.heap.size≤k)∧∀k,k<w.heap.size→¬G k→¬G' k:=by
 obtain⟨G',h1,h2,h3⟩:=h
 exact⟨G',h1,h2,h3,fun k hk hn hg=>(h3 k hg).elim hn fun h=>by omega⟩
theorem Sys.dev(h:Sys w G p F n):∃Gd,Gu w Gd p.d F.D n∧∀w' D' n',(∃tP,Gu w' tP p.d D' n'∧AK Gd w w'∧∀k,tP k→Gd k∨w.heap.size≤k)→AQ w G p {F with D:=D'} n' w':=by
 have hlt:=fun k hk=>h.lt (k:=k) hk
 obtain⟨Gd,Ga,Gs,hr,hd,ha,hs,hg,h1,h2,h3,h4⟩:=h
 refine⟨Gd,hd,fun w' D' n' ⟨tP,k1,k2,k3⟩=>⟨fun k=>k=p.w∨tP k∨Ga k∨Gs k,⟨tP,Ga,Gs,?_,k1,?_,?_,fun k=>Iff.rfl,?_,h2,h3,?_⟩,k2.mono fun k hk=>(hg k).2 (.inr (.inl hk)),?_⟩⟩
 ·exact k2.row hr fun hk=>(h1 _ hk).2.2 rfl
 ·exact ha.CU k2 (fun k hk FK=>(h1 k FK).1 hk) fun q hq hk=>h4 q hq ((hg _).2 (.inr (.inl hk)))
 ·exact hs.CU k2 fun k hk FK=>(h1 k FK).2.1 hk
 ·intro k hk
  rcases k3 k hk with h5|h5
  ·exact h1 k h5
  ·refine⟨fun h6=>?_,fun h6=>?_,fun h6=>?_⟩
   ·have:=hlt k ((hg k).2 (.inr (.inr (.inl h6))));omega
   ·have:=hlt k ((hg k).2 (.inr (.inr (.inr h6))));omega
   ·have:=hr.lt;omega
 ·intro q hq hk
  rcases hk with h5|h5|h5|h5
  ·exact h4 q hq ((hg _).2 (.inl h5))
  ·rcases k3 _ h5 with h6|h6
   ·exact h4 q hq ((hg _).2 (.inr (.inl h6)))
   ·have:=(ha.buf hq).lt;omega
  ·exact h4 q hq ((hg _).2 (.inr (.inr (.inl h5))))
  ·exact h4 q hq ((hg _).2 (.inr (.inr (.inr h5))))
 ·rintro k (h5|h5|h5|h5)
  ·exact .inl ((hg k).2 (.inl h5))
  ·exact(k3 k h5).imp_left fun h6=>(hg k).2 (.inr (.inl h6))
  ·exact .inl ((hg k).2 (.inr (.inr (.inl h5))))
  ·exact .inl ((hg k).2 (.inr (.inr (.inr h5))))
theorem Sys.pR(h:Sys w G p F n):∃Gs,EZ w Gs p.s F.S∧∀w' S',Next w Gs p.s S' w'→AQ w G p {F with S:=S'} n w':=by
 have hlt:=fun k hk=>h.lt (k:=k) hk
 obtain⟨Gd,Ga,Gs,hr,hd,ha,hs,hg,h1,h2,h3,h4⟩:=h
 refine⟨Gs,hs,fun w' S' ⟨Gs',k1,k2,k3⟩=>⟨fun k=>k=p.w∨Gd k∨Ga k∨Gs' k,⟨Gd,Ga,Gs',?_,?_,?_,k1,fun k=>Iff.rfl,?_,?_,?_,?_⟩,k2.mono fun k hk=>(hg k).2 (.inr (.inr (.inr hk))),?_⟩⟩
 ·exact k2.row hr fun hk=>h3 _ hk rfl
 ·exact hd.CU k2 fun k hk FK=>(h1 k hk).2.1 FK
 ·exact ha.CU k2 (fun k hk FK=>(h2 k hk).1 FK) fun q hq hk=>h4 q hq ((hg _).2 (.inr (.inr (.inr hk))))
 ·intro k hk
  refine⟨(h1 k hk).1,fun h6=>?_,(h1 k hk).2.2⟩
  rcases k3 k h6 with h7|h7
  ·exact(h1 k hk).2.1 h7
  ·have:=hd.lt hk;omega
 ·intro k hk
  refine⟨fun h6=>?_,(h2 k hk).2⟩
  rcases k3 k h6 with h7|h7
  ·exact(h2 k hk).1 h7
  ·have:=ha.lt hk;omega
 ·intro k hk e
  rcases k3 k hk with h7|h7
  ·exact h3 k h7 e
  ·have:=hr.lt;omega
 ·intro q hq hk
  rcases hk with h5|h5|h5|h5
  ·exact h4 q hq ((hg _).2 (.inl h5))
  ·exact h4 q hq ((hg _).2 (.inr (.inl h5)))
  ·exact h4 q hq ((hg _).2 (.inr (.inr (.inl h5))))
  ·rcases k3 _ h5 with h6|h6
   ·exact h4 q hq ((hg _).2 (.inr (.inr (.inr h6))))
   ·have:=(ha.buf hq).lt;omega
 ·rintro k (h5|h5|h5|h5)
  ·exact .inl ((hg k).2 (.inl h5))
  ·exact .inl ((hg k).2 (.inr (.inl h5)))
  ·exact .inl ((hg k).2 (.inr (.inr (.inl h5))))
  ·exact(k3 k h5).imp_left fun h6=>(hg k).2 (.inr (.inr (.inr h6)))
theorem Sys.sA(h:Sys w G p F n):∃Ga,Ez w Ga p.a F.A∧
  (∀w' b g m,(∃Xz,Ez w' Xz p.a (Bo F.A b m)∧Row w' b 126 [.slice (some ⟨g,0,none⟩) m m]∧Row w' g 127 (List.replicate m (.int .u64 0))∧w.heap.size≤b∧w.heap.size≤g∧b≠g∧¬Xz b∧¬Xz g∧AK Ga w w'∧∀k,Xz k→Ga k∨w.heap.size≤k)→
   ∃G',Sys w' G' p {F with A:=Bo F.A b m} n∧AK G w w'∧(∀k,G' k→G k∨w.heap.size≤k)∧¬G' b∧¬G' g)∧
  (∀w' b m,Ez w' Ga p.a (release F.A b m)→AK (fun k=>Ga k∨k=b) w w'→¬G b→Sys w' G p {F with A:=release F.A b m} n∧AK (fun k=>G k∨k=b) w w'):=by
 have hlt:=fun k hk=>h.lt (k:=k) hk
 obtain⟨Gd,Ga,Gs,hr,hd,ha,hs,hg,h1,h2,h3,h4⟩:=h
 refine⟨Ga,ha,fun w' b g m ⟨Xz,k1,kb,kg,lb,lg,Qz,nb,ng,k2,k3⟩=>?_,fun w' b m k1 k2 nb=>?_⟩
 ·have Eo:∀x,w.heap.size≤x→¬Xz x→¬(x=p.w∨Gd x∨Xz x∨Gs x):=by
   rintro x hx hn (h5|h5|h5|h5)
   ·have:=hr.lt;omega
   ·have:=hd.lt h5;omega
   ·exact hn h5
   ·have:=hs.lt h5;omega
  refine⟨fun k=>k=p.w∨Gd k∨Xz k∨Gs k,⟨Gd,Xz,Gs,?_,?_,k1,?_,fun k=>Iff.rfl,?_,?_,h3,?_⟩,k2.mono fun k hk=>(hg k).2 (.inr (.inr (.inl hk))),?_,Eo b lb nb,Eo g lg ng⟩
  ·exact k2.row hr fun hk=>(h2 _ hk).2 rfl
  ·exact hd.CU k2 fun k hk FK=>(h1 k hk).1 FK
  ·exact hs.CU k2 fun k hk FK=>(h2 k FK).1 hk
  ·intro k hk
   refine⟨fun h6=>?_,(h1 k hk).2⟩
   rcases k3 k h6 with h7|h7
   ·exact(h1 k hk).1 h7
   ·have:=hd.lt hk;omega
  ·intro k hk
   rcases k3 k hk with h7|h7
   ·exact h2 k h7
   ·refine⟨fun h6=>?_,fun h6=>?_⟩
    ·have:=hs.lt h6;omega
    ·have:=hr.lt;omega
  ·intro q hq hk
   have Z9:q∈F.A.st++[(b,m)]:=hq
   rcases List.mem_append.1 Z9 with h5|h5
   ·rcases hk with h6|h6|h6|h6
    ·exact h4 q h5 ((hg _).2 (.inl h6))
    ·exact h4 q h5 ((hg _).2 (.inr (.inl h6)))
    ·rcases k3 _ h6 with h7|h7
     ·exact h4 q h5 ((hg _).2 (.inr (.inr (.inl h7))))
     ·have:=(ha.buf h5).lt;omega
    ·exact h4 q h5 ((hg _).2 (.inr (.inr (.inr h6))))
   ·simp only[List.mem_singleton]at h5
    subst h5
    exact Eo b lb nb hk
  ·rintro k (h5|h5|h5|h5)
   ·exact .inl ((hg k).2 (.inl h5))
   ·exact .inl ((hg k).2 (.inr (.inl h5)))
   ·exact(k3 k h5).imp_left fun h6=>(hg k).2 (.inr (.inr (.inl h6)))
   ·exact .inl ((hg k).2 (.inr (.inr (.inr h5))))
 ·refine⟨⟨Gd,Ga,Gs,?_,?_,k1,?_,hg,h1,h2,h3,fun q hq=>h4 q (DW _ _ _ hq)⟩,k2.mono fun k hk=>hk.imp_left fun h5=>(hg k).2 (.inr (.inr (.inl h5)))⟩
  ·refine k2.row hr ?_
   rintro(hk|hk)
   ·exact(h2 _ hk).2 rfl
   ·exact nb ((hg _).2 (.inl hk.symm))
  ·refine hd.CU k2 ?_
   rintro k hk (FK|FK)
   ·exact(h1 k hk).1 FK
   ·subst FK;exact nb ((hg _).2 (.inr (.inl hk)))
  ·refine hs.CU k2 ?_
   rintro k hk (FK|FK)
   ·exact(h2 k FK).1 hk
   ·subst FK;exact nb ((hg _).2 (.inr (.inr (.inr hk))))
theorem Sys.Dd(h:Sys w G p F n):Calls Tryz.prog 44 #[ptr p.d] w fun e w'=>e=.returned (.int .i64 (F.D.size:Int))∧w'=w:=by
 obtain⟨Gd,Ga,Gs,hr,hd,_⟩:=h
 obtain⟨bl,bf,v,nl,hr,_⟩:=hd.2
 exact Yu p.d F.D bl bf v w hr
theorem Sys.Ry(h:Sys w G p F n):Calls Tryz.prog 43 #[ptr p.a] w fun e w'=>e=.returned (.int .i64 ((F.A.room-F.A.used:Nat):Int))∧w'=w:=by
 obtain⟨Gd,Ga,Gs,hr,hd,ha,_⟩:=h
 obtain⟨h0,⟨m,hr,_⟩,_⟩:=id ha
 exact Jn p.a F.A m w hr h0
theorem Sys.YY(h:Sys w G p F n):Calls Tryz.prog 21 #[ptr p.a] w fun e w'=>e=.returned (.int .i64 (F.A.used:Int))∧w'=w:=by
 obtain⟨Gd,Ga,Gs,hr,hd,ha,_⟩:=h
 obtain⟨h0,⟨m,hr,_⟩,_⟩:=id ha
 exact Nm p.a F.A m w hr
end
section
variable {w : World} {p : Wp}
theorem YQ(h:Row w p.w 70 [ptr p.d,ptr p.a,ptr p.s]):Calls Tryz.prog 18 #[.pointer (some ⟨p.w,0,none⟩)] w fun e w'=>e=.returned (.pointer (some ⟨p.d,0,none⟩))∧w'=w:=by
 have c0:w.cell? ⟨p.w,0,none⟩=some (.pointer (some ⟨p.d,0,none⟩)):=h.cell 0
 go_enter Tryz.func18,Tryz.ntmps18
 go_wp2
 go_ret
 exact⟨rfl,rfl⟩
theorem RJ(h:Row w p.w 70 [ptr p.d,ptr p.a,ptr p.s]):Calls Tryz.prog 13 #[.pointer (some ⟨p.w,0,none⟩)] w fun e w'=>e=.returned (.pointer (some ⟨p.a,0,none⟩))∧w'=w:=by
 have c0:w.cell? ⟨p.w,1,none⟩=some (.pointer (some ⟨p.a,0,none⟩)):=h.cell 1
 go_enter Tryz.func13,Tryz.ntmps13
 go_wp2
 go_ret
 exact⟨rfl,rfl⟩
theorem YK(h:Row w p.w 70 [ptr p.d,ptr p.a,ptr p.s]):Calls Tryz.prog 16 #[.pointer (some ⟨p.w,0,none⟩)] w fun e w'=>e=.returned (.pointer (some ⟨p.s,0,none⟩))∧w'=w:=by
 have c0:w.cell? ⟨p.w,2,none⟩=some (.pointer (some ⟨p.s,0,none⟩)):=h.cell 2
 go_enter Tryz.func16,Tryz.ntmps16
 go_wp2
 go_ret
 exact⟨rfl,rfl⟩
end
theorem SV(d a s:Nat)(w:World):Calls Tryz.prog 30 #[.pointer (some ⟨d,0,none⟩),.pointer (some ⟨a,0,none⟩),.pointer (some ⟨s,0,none⟩)] w fun e w'=>e=.returned (.pointer (some ⟨w.heap.size,0,none⟩))∧w'=w.alloc (.cells #[ptr d,ptr a,ptr s] 70):=by
 go_enter Tryz.func30,Tryz.ntmps30
 go_wp2
 go_ret
 exact⟨rfl,rfl⟩
theorem Dm(size:Nat)(width:Int):AE size width≤size-2:=by
 unfold AE;split
 ·exact Nat.zero_le _
 ·exact Nat.div_le_self _ _
theorem VJ{w:World}{G:Nat→Prop}{p:Wp}{F:Fs}{n:Nat}(h:Sys w G p F n)(width:Int):Calls Tryz.prog 72 #[.pointer (some ⟨p.w,0,none⟩),.int .i64 width] w fun e w'=>e=.returned (.int .i64 (AE F.D.size width:Nat))∧w'=w:=by
 by_cases h1:width<1
 ·have g1:decide (width<1)=true:=by simpa using h1
  have e0:AE F.D.size width=0:=by unfold AE;rw[if_pos (.inl h1)]
  rw[e0]
  go_enter Tryz.func72,Tryz.ntmps72
  go_wp2
  go_ret
  exact⟨rfl,rfl⟩
 have g1:decide (width<1)=false:=by simpa using h1
 by_cases h2:width>5
 ·have g2:decide (width>5)=true:=by simpa using h2
  have e0:AE F.D.size width=0:=by unfold AE;rw[if_pos (.inr h2)]
  rw[e0]
  clear h1
  go_enter Tryz.func72,Tryz.ntmps72
  go_wp2
  go_ret
  exact⟨rfl,rfl⟩
 have g2:decide (width>5)=false:=by simpa using h2
 have e0:AE F.D.size width=(F.D.size-2)/width.toNat:=by unfold AE;rw[if_neg (by omega)]
 obtain⟨k,rfl⟩:∃k:Nat,width=(k:Int):=⟨width.toNat,by omega⟩
 rw[Int.toNat_natCast]at e0
 have hsz:=h.size
 have c0:w.cell? ⟨p.w,0,none⟩=some (.pointer (some ⟨p.d,0,none⟩)):=h.row.cell 0
 have hs:=h.Dd
 rw[e0]
 obtain⟨m,hm⟩:∃m,m=F.D.size-2:=⟨_,rfl⟩
 have GL:(F.D.size:Int)-2=(m:Int):=by omega
 have Qx:6≤m∧m≤254:=by omega
 have hq:Int.tdiv (m:Int) (k:Int)=((m/k:Nat):Int):=rfl
 have VO:¬((k:Int)=0):=by omega
 have N6:m/k≤m:=Nat.div_le_self _ _
 rw[←hm]
 have HS:=Lib.hid hs
 have AC7:(if m<0 then (0:Int)else (m:Int))=(m:Int):=by simp
 clear hs hm e0 h h1 h2
 generalize m/k=q at*
 go_enter Tryz.func72,Tryz.ntmps72
 go_wp2_with fail
 refine HS.out.mono ?_;rintro e w1 ⟨rfl,rfl⟩
 go_wp2
 go_ret
 exact⟨rfl,rfl⟩
theorem E1{w:World}{G:Nat→Prop}{p:Wp}{F:Fs}{n:Nat}(h:Sys w G p F n)(width:Int):Calls Tryz.prog 60 #[.pointer (some ⟨p.w,0,none⟩),.int .i64 width] w fun e w'=>e=.returned (.agg #[.int .i64 width,.int .i64 (AE F.D.size width:Nat)])∧Below w.heap.size w w':=by
 have HH:Hid (Calls Tryz.prog 72 #[.pointer (some ⟨p.w,0,none⟩),.int .i64 width] (w.alloc (.cells #[.int .i64 0,.int .i64 0] 113)) fun e w'=>e=.returned (.int .i64 (AE F.D.size width:Nat))∧w'=w.alloc (.cells #[.int .i64 0,.int .i64 0] 113)):=VJ (h.below ((Below.refl _ w).alloc (Nat.le_refl _) _)) width
 have HB:Hid (Below w.heap.size w (w.alloc (.cells #[.int .i64 0,.int .i64 0] 113))):=(Below.refl _ w).alloc (Nat.le_refl _) _
 generalize AE F.D.size width=q at*
 clear h
 go_enter Tryz.func60,Tryz.ntmps60
 go_wp2_with fail
 refine HH.out.mono ?_;rintro e w1 ⟨rfl,rfl⟩
 go_wp2
 have Cd:Below w.heap.size w (w.alloc (.cells #[.int .i64 width,.int .i64 (q:Int)] 113)):=(Below.refl _ w).alloc (Nat.le_refl _) _
 refine bodyPost_ret (v:=.agg #[.int .i64 width,.int .i64 (q:Int)]) ?_ rfl ⟨rfl,Cd⟩
 have hr:Row (w.alloc (.cells #[.int .i64 width,.int .i64 (q:Int)] 113)) w.heap.size 113 [.int .i64 width,.int .i64 (q:Int)]:=heap_alloc_new _ _
 have r0:=hr.cell 0
 have r1:=hr.cell 1
 simp[results,Tryz.results60,go_sem,r0,r1]
theorem FV(k h c:Nat)(w:World)(hh:0<h)(Ee:h≤254)(hc:c≤100000000):Calls Tryz.prog 62 #[.agg #[.int .i64 k,.int .i64 h],.int .i64 c] w fun e w'=>e=.returned (.int .i64 (AA h c:Nat))∧Below w.heap.size w w':=by
 have HB:=Lib.hid ((Below.refl w.heap.size w).alloc (Nat.le_refl _) (.cells #[.int .i64 k,.int .i64 h] 113))
 have hq:Int.tdiv (c:Int) (h:Int)=((c/h:Nat):Int):=rfl
 have ht:Int.tmod (c:Int) (h:Int)=((c%h:Nat):Int):=rfl
 have DO:¬((h:Int)=0):=by omega
 have N6:c/h≤c:=Nat.div_le_self _ _
 have lQ:c%h<h:=Nat.mod_lt _ hh
 by_cases hm:0<c%h
 ·have HE:Hid (AA h c=c/h+1):=by unfold Hid AA;rw[if_pos hm]
  rw[HE.out]
  have g1:decide (((c%h:Nat):Int)>0)=true:=by simp;omega
  clear HE hh
  generalize c/h=q at*
  generalize c%h=m at*
  go_enter Tryz.func62,Tryz.ntmps62
  go_wp2
  go_ret
  exact⟨by rfl,HB.out⟩
 ·have HE:Hid (AA h c=c/h):=by unfold Hid AA;rw[if_neg hm]
  rw[HE.out]
  have g1:decide (((c%h:Nat):Int)>0)=false:=by simp;omega
  clear HE hh
  generalize c/h=q at*
  generalize c%h=m at*
  go_enter Tryz.func62,Tryz.ntmps62
  go_wp2
  go_ret
  exact⟨rfl,HB.out⟩
theorem MX(k h j c:Nat)(w:World)(hk:k≤5)(Ee:h≤254)(hc:c≤100000000)(hj:j*h≤c):Calls Tryz.prog 87 #[.agg #[.int .i64 k,.int .i64 h],.int .i64 j,.int .i64 c] w fun e w'=>e=.returned (.int .i64 (min h (c-j*h)*k:Nat))∧Below w.heap.size w w':=by
 have HB:=Lib.hid ((Below.refl w.heap.size w).alloc (Nat.le_refl _) (.cells #[.int .i64 k,.int .i64 h] 113))
 obtain⟨jh,cS⟩:∃jh,jh=j*h:=⟨_,rfl⟩
 have hmul:(j:Int)*(h:Int)=(jh:Int):=by rw[cS];exact(Int.natCast_mul j h).symm
 rw[←cS]at hj⊢
 obtain⟨d,hd⟩:∃d,d=c-jh:=⟨_,rfl⟩
 have GL:(c:Int)-(jh:Int)=(d:Int):=by omega
 rw[←hd]
 obtain⟨lo,hlo⟩:∃lo,lo=min h d:=⟨_,rfl⟩
 have IW:(if d<h then (d:Int)else (h:Int))=(lo:Int):=by rw[hlo];split<;>omega
 have AA4:(if h<d then (h:Int)else (d:Int))=(lo:Int):=by rw[hlo];split<;>omega
 have lR:lo≤254:=by omega
 rw[←hlo]
 obtain⟨m,hm⟩:∃m,m=lo*k:=⟨_,rfl⟩
 have qo:(lo:Int)*(k:Int)=(m:Int):=by rw[hm];exact(Int.natCast_mul lo k).symm
 have hm2:m≤1270:=by rw[hm];exact Nat.mul_le_mul lR hk
 rw[←hm]
 have lW:jh≤100000000:=by omega
 have hdb:d≤100000000:=by omega
 clear hm hlo hd cS hj
 go_enter Tryz.func87,Tryz.ntmps87
 go_wp2
 go_ret
 exact⟨rfl,HB.out⟩
theorem QA(k h i g n:Nat)(w:World)(VO:0<k)(hk:k≤5)(hh:0<h)(Ee:h≤254)(_hi:i≤100000000)(hn:i%h*k+k≤n)(QS:n≤256):Calls Tryz.prog 68 #[.agg #[.int .i64 k,.int .i64 h],.slice (some ⟨g,0,none⟩) n n,.int .i64 i] w fun e w'=>e=.returned (.slice (some ⟨g,i%h*k,none⟩) k (n-i%h*k))∧Below w.heap.size w w':=by
 have Aj:=(Below.refl w.heap.size w).alloc (Nat.le_refl _) (.cells #[.int .i64 k,.int .i64 h] 113)
 have HB:=Lib.hid Aj
 have hr:Row (w.alloc (.cells #[.int .i64 k,.int .i64 h] 113)) w.heap.size 113 [.int .i64 k,.int .i64 h]:=heap_alloc_new _ _
 have c0:(w.alloc (.cells #[.int .i64 k,.int .i64 h] 113)).cell? ⟨w.heap.size,0,none⟩=some (.int .i64 k):=hr.cell 0
 have c1:(w.alloc (.cells #[.int .i64 k,.int .i64 h] 113)).cell? ⟨w.heap.size,1,none⟩=some (.int .i64 h):=hr.cell 1
 have ht:Int.tmod (i:Int) (h:Int)=((i%h:Nat):Int):=rfl
 have DO:¬((h:Int)=0):=by omega
 have lQ:i%h<h:=Nat.mod_lt _ hh
 obtain⟨m,hm⟩:∃m,m=i%h:=⟨_,rfl⟩
 rw[←hm]at ht lQ hn⊢
 obtain⟨a,ha⟩:∃a,a=m*k:=⟨_,rfl⟩
 have hmul:(m:Int)*(k:Int)=(a:Int):=by rw[ha];exact(Int.natCast_mul m k).symm
 rw[←ha]at hn⊢
 obtain⟨u,hu⟩:∃u,u=a+k:=⟨_,rfl⟩
 have K5:(a:Int)+(k:Int)=(u:Int):=by omega
 have p8:u-a=k:=by omega
 have hcut:=fun W=>Fq (P:=Tryz.prog) W 123 127 _ Tryz.underlying123 (info_parts LV).choose_spec.1 (info_parts LV).choose_spec.2.2.1 (some ⟨g,0,none⟩) n n a u (by omega) (by omega) .i64 .i64 (a:Int) (u:Int) rfl rfl
 rw[p8,BN (by omega),Nat.zero_add,Nat.mul_one]at hcut
 have KS:a≤256:=by omega
 have N4:u≤256:=by omega
 clear hr hm ha hu p8 Aj hh hn
 go_enter Tryz.func68,Tryz.ntmps68
 go_wp2
 generalize w.alloc (.cells #[.int .i64 k,.int .i64 h] 113)=w1 at*
 go_region
 go_wp2
 go_ret
 exact⟨rfl,AH HB.out⟩
theorem RP{b:Nat}{A:Option Addr}{n c:Nat}{w:World}(h:Row w b 126 [.slice A n c]):Calls Tryz.prog 85 #[.pointer (some ⟨b,0,none⟩)] w fun e w'=>e=.returned (.bool (decide (0<n)))∧w'=w:=by
 have c0:w.cell? ⟨b,0,none⟩=some (.slice A n c):=h.cell 0
 go_enter Tryz.func85,Tryz.ntmps85
 go_wp2
 go_ret
 exact⟨Di (by simp),rfl⟩
theorem Lm{P:Program}{w:World}(t e ty:TypeId)(z:Value)(ht:P.underlying t=some (.slice e))(hv:∀w,(zeroValue e).run P w=.ok z w)(hz:z.cells=#[z])(h1:z.oneCell'=true)
  (n c g:Nat) (cur:List Value) (tt:TypeId) (hg:Row w g tt cur) (hfit:n≤cur.length) (hn:0<n):
  ∃w',(Builtin.clear_ #[t] ty #[.slice (some ⟨g,0,none⟩) n c]).run P w=.ok (.tuple #[]) w'∧Row w' g tt (List.replicate n z++cur.drop n)∧AK (fun k=>k=g) w w':=by
 obtain⟨m,rfl⟩:∃m,n=m+1:=⟨n-1,by omega⟩
 have tv:(Builtin.zeroCells z.cells (m+1)).toList=List.replicate (m+1) z:=by
  rw[hz]
  apply List.ext_getElem?
  intro i
  simp[Builtin.zeroCells,List.getElem?_replicate]
  by_cases hi:i<m+1<;>simp[hi,Nat.mod_one]
 have hst:=run_storeCells_at P g 0 tt (Builtin.zeroCells z.cells (m+1)).toList 0 cur.toArray w hg (by rw[tv];simpa using hfit) (by rw[tv];intro v hv;rw[List.mem_replicate]at hv;rw[hv.2];exact h1)
 simp only[Nat.add_zero]at hst
 rw[tv]at hst
 refine⟨_,?_,setRow_heap w g cur.toArray _ tt (0,0) hg,AK.setRow w g _⟩
 simp[Builtin.clear_,run_underlying ht,hv,tv,hst]
theorem cx(w:World):(zeroValue 2).run Tryz.prog w=.ok (.int .i64 0) w:=by kernel_rfl
theorem av(w:World)(a b c d e a' b' c' d' e':Int):(binOp .eql 63 (.agg #[.int .i64 a,.int .i64 b,.int .i64 c,.int .i64 d,.int .i64 e]) (.agg #[.int .i64 a',.int .i64 b',.int .i64 c',.int .i64 d',.int .i64 e'])).run Tryz.prog w=.ok (.bool (a==a'&&(b==b'&&(c==c'&&(d==d'&&e==e'))))) w:=by
 obtain⟨i0,hi⟩:∃i,Tryz.prog.info? 2=some i:=by
  rcases h:Tryz.prog.info? 2 with _|i
  ·have:(Tryz.prog.info? 2).isSome=true:=by kernel_rfl
   rw[h]at this;cases this
  ·exact⟨i,rfl⟩
 have Gx:Tryz.prog.cellsOf 2=1:=by kernel_rfl
 have p0:∀(a b c d e:Int) w,(part 2 #[.int .i64 a,.int .i64 b,.int .i64 c,.int .i64 d,.int .i64 e] 0).run Tryz.prog w=.ok (.int .i64 a) w:=fun a b c d e w=>run_part_plain (P:=Tryz.prog) w (by kernel_rfl) rfl
 have p1:∀(a b c d e:Int) w,(part 2 #[.int .i64 a,.int .i64 b,.int .i64 c,.int .i64 d,.int .i64 e] 1).run Tryz.prog w=.ok (.int .i64 b) w:=fun a b c d e w=>run_part_plain (P:=Tryz.prog) w (by kernel_rfl) rfl
 have p2:∀(a b c d e:Int) w,(part 2 #[.int .i64 a,.int .i64 b,.int .i64 c,.int .i64 d,.int .i64 e] 2).run Tryz.prog w=.ok (.int .i64 c) w:=fun a b c d e w=>run_part_plain (P:=Tryz.prog) w (by kernel_rfl) rfl
 have p3:∀(a b c d e:Int) w,(part 2 #[.int .i64 a,.int .i64 b,.int .i64 c,.int .i64 d,.int .i64 e] 3).run Tryz.prog w=.ok (.int .i64 d) w:=fun a b c d e w=>run_part_plain (P:=Tryz.prog) w (by kernel_rfl) rfl
 have p4:∀(a b c d e:Int) w,(part 2 #[.int .i64 a,.int .i64 b,.int .i64 c,.int .i64 d,.int .i64 e] 4).run Tryz.prog w=.ok (.int .i64 e) w:=fun a b c d e w=>run_part_plain (P:=Tryz.prog) w (by kernel_rfl) rfl
 rw[run_eql_struct,show (10000:Nat)=9998+1+1 from rfl,run_equalIn_array w (9998+1) _ _ Tryz.underlying63 hi,Gx]
 have q:=fun(a b:Int) (w:World)=>run_equalIn_int (P:=Tryz.prog) w 9998 2 .i64 .i64 a b Tryz.underlying2
 have q':∀(a b:Int) (w:World),(Op.equalIn 9999 2 (.int .i64 a) (.int .i64 b)).run Tryz.prog w=.ok (a==b) w:=q
 simp only[Op.eqItems,List.range,List.range.loop,Sem.run_bind,Nat.mul_one,p0,Result.andThen_ok,q]
 by_cases h1:a=a'<;>by_cases h2:b=b'<;>by_cases h3:c=c'<;>by_cases h4:d=d'<;>by_cases h5:e=e'<;>simp[h1,h2,h3,h4,h5,p1,p2,p3,p4,q']
theorem PE(w:World)(op:BinOp)(x y:Operand)(xs ys:Array Value):(eqGuard op 63 x y (.agg xs) (.agg ys)).run Tryz.prog w=.ok () w:=
 run_eqGuard_agg w op 63 x y _ _ (by kernel_rfl)
def I2(t:AB):Value:=.agg #[.int .i64 t.a,.int .i64 t.b,.int .i64 t.c,.int .i64 t.d,.int .i64 t.e]
theorem Ma(t:AB)(k:Nat)(w:World)(VO:0<k)(hk:k≤5):Calls Tryz.prog 67 #[.agg #[.int .i64 t.a,.int .i64 t.b,.int .i64 t.c,.int .i64 t.d,.int .i64 t.e],.int .i64 k] w fun e w'=>e=.returned (.bool (Ac k t))∧Below w.heap.size w w':=by
 obtain⟨a,b,c,d,e⟩:=t
 have hr:Row (w.alloc (.cells #[.int .i64 a,.int .i64 b,.int .i64 c,.int .i64 d,.int .i64 e] 63)) w.heap.size 63 [.int .i64 a,.int .i64 b,.int .i64 c,.int .i64 d,.int .i64 e]:=heap_alloc_new _ _
 obtain⟨w2,Dv,Ap,DZ⟩:=Lm (P:=Tryz.prog) 146 2 0 (.int .i64 0) Tryz.underlying146 cx rfl rfl k 5 w.heap.size _ 63 hr (by simpa using hk) VO
 have Ka:=Lib.hid Ap
 have Cd:=Lib.hid (((Below.refl w.heap.size w).alloc (Nat.le_refl _) (.cells #[.int .i64 a,.int .i64 b,.int .i64 c,.int .i64 d,.int .i64 e] 63)).trans (DZ.below (B:=w.heap.size) (by simp) (fun b hb=>by rw[hb];exact Nat.le_refl _)))
 have O4:∀W,(Instr.sliceAt 63 (.pointer (some ⟨w.heap.size,0,none⟩)) none (some (.int .i64 (k:Int))) none).run Tryz.prog W=.ok (.slice (some ⟨w.heap.size,0,none⟩) k 5) W:=fun W=>by
  have oV:Tryz.prog.arrayLen 63=5:=by kernel_rfl
  have hel:Tryz.prog.elem 63=2:=by kernel_rfl
  obtain⟨i0,hi⟩:∃i,Tryz.prog.info? 2=some i:=by
   rcases h:Tryz.prog.info? 2 with _|i
   ·have:(Tryz.prog.info? 2).isSome=true:=by kernel_rfl
    rw[h]at this;cases this
   ·exact⟨i,rfl⟩
  rw[run_sliceAt_array_h W 63 ⟨w.heap.size,0,none⟩ (by rw[oV,hel];exact Tryz.underlying63) .i64 (k:Int) (by omega) (by rw[oV];omega),oV,hel]
  simp[sizeOf,typeInfo,hi,slicedAt,Addr.add]
 have hq:=fun W a b c d e=>av W a b c d e 0 0 0 0 0
 have hg:=PE
 have Lu:∀(i:Nat) (x:Int),i<5→[a,b,c,d,e][i]?=some x→w2.cell? ⟨w.heap.size,i,none⟩=some (.int .i64 (if i<k then 0 else x)):=fun i x hi hx=>by
  rw[Ka.out.cell i]
  by_cases UB:i<k
  ·rw[List.getElem?_append_left (by simpa using UB),if_pos UB];simp[UB]
  ·rw[List.getElem?_append_right (by simpa using UB),if_neg UB,List.length_replicate,List.getElem?_drop,show k+(i-k)=i by omega]
   match i,hi,hx with
   |0,_,hx=>simp at hx;simp[hx]
   |1,_,hx=>simp at hx;simp[hx]
   |2,_,hx=>simp at hx;simp[hx]
   |3,_,hx=>simp at hx;simp[hx]
   |4,_,hx=>simp at hx;simp[hx]
 obtain⟨z0,Cy⟩:∃z,z=if 0<k then 0 else a:=⟨_,rfl⟩
 obtain⟨z1,CM⟩:∃z,z=if 1<k then 0 else b:=⟨_,rfl⟩
 obtain⟨z2,GJ⟩:∃z,z=if 2<k then 0 else c:=⟨_,rfl⟩
 obtain⟨z3,Zt⟩:∃z,z=if 3<k then 0 else d:=⟨_,rfl⟩
 obtain⟨z4,oF⟩:∃z,z=if 4<k then 0 else e:=⟨_,rfl⟩
 have c0:=Lu 0 a (by omega) rfl
 have c1:=Lu 1 b (by omega) rfl
 have c2:=Lu 2 c (by omega) rfl
 have c3:=Lu 3 d (by omega) rfl
 have c4:=Lu 4 e (by omega) rfl
 rw[←Cy]at c0;rw[←CM]at c1;rw[←GJ]at c2;rw[←Zt]at c3;rw[←oF]at c4
 have HE:Hid ((z0==0&&(z1==0&&(z2==0&&(z3==0&&z4==0))))=Ac k ⟨a,b,c,d,e⟩):=by
  unfold Hid
  rw[Cy,CM,GJ,Zt,oF]
  match k,VO,hk with
  |1,_,_=>simp[Ac,AB.Bf]
  |2,_,_=>simp[Ac,AB.Bf]
  |3,_,_=>simp[Ac,AB.Bf]
  |4,_,_=>simp[Ac,AB.Bf]
  |5,_,_=>simp[Ac,AB.Bf]
 rw[←HE.out]
 clear Ap DZ hr Lu Ka Cy CM GJ Zt oF HE
 go_enter Tryz.func67,Tryz.ntmps67
 go_wp2
 go_ret
 exact⟨Di (by simp),Cd.out⟩
instance tupDec : DecidableEq AB := fun a b => decidable_of_iff (a.Bf = b.Bf) ⟨fun h => AB.au h, fun h => h ▸ rfl⟩
theorem eI(w:World)(a b c d e a' b' c' d' e':Int):(binOp .neq 63 (.agg #[.int .i64 a,.int .i64 b,.int .i64 c,.int .i64 d,.int .i64 e]) (.agg #[.int .i64 a',.int .i64 b',.int .i64 c',.int .i64 d',.int .i64 e'])).run Tryz.prog w=.ok (.bool (!(a==a'&&(b==b'&&(c==c'&&(d==d'&&e==e')))))) w:=by
 have h:=av w a b c d e a' b' c' d' e'
 rw[run_eql_struct]at h
 rw[run_neq_struct]
 generalize(Op.equalIn 10000 63 (.agg #[.int .i64 a,.int .i64 b,.int .i64 c,.int .i64 d,.int .i64 e]) (.agg #[.int .i64 a',.int .i64 b',.int .i64 c',.int .i64 d',.int .i64 e'])).run Tryz.prog w=R at h⊢
 generalize(a==a'&&(b==b'&&(c==c'&&(d==d'&&e==e'))))=X at h⊢
 cases R with
 |ok b w'=>simp[Result.andThen]at h⊢;obtain⟨rfl,rfl⟩:=h;exact⟨rfl,rfl⟩
 | _=>simp[Result.andThen]at h
theorem jt(t u:AB):(t.a==u.a&&(t.b==u.b&&(t.c==u.c&&(t.d==u.d&&t.e==u.e))))=decide (t=u):=by
 obtain⟨a,b,c,d,e⟩:=t
 obtain⟨a',b',c',d',e'⟩:=u
 simp only[AB.mk.injEq]
 by_cases h1:a=a'<;>by_cases h2:b=b'<;>by_cases h3:c=c'<;>by_cases h4:d=d'<;>by_cases h5:e=e'<;>simp[h1,h2,h3,h4,h5]
theorem ZD(size:Nat)(width:Int)(w:World)(hs:8≤size∧size≤256):Calls Tryz.prog 56 #[.int .i64 size,.int .i64 width] w fun e w'=>e=.returned (.int .i64 (AE size width:Nat))∧w'=w:=by
 by_cases h1:width<1∨5<width
 ·have e0:AE size width=0:=by unfold AE;rw[if_pos h1]
  rw[e0]
  by_cases h2:width<1
  ·have g1:decide (width<1)=true:=by simpa using h2
   go_enter Tryz.func56,Tryz.ntmps56
   go_wp2
   go_ret
   exact⟨rfl,rfl⟩
  ·have g1:decide (width<1)=false:=by simpa using h2
   have g2:decide (width>5)=true:=by simp;omega
   go_enter Tryz.func56,Tryz.ntmps56
   go_wp2
   go_ret
   exact⟨rfl,rfl⟩
 ·obtain⟨k,rfl⟩:∃k:Nat,width=(k:Int):=⟨width.toNat,by omega⟩
  have hk:0<k∧k≤5:=by omega
  have g1:decide ((k:Int)<1)=false:=by simp;omega
  have g2:decide ((k:Int)>5)=false:=by simp;omega
  have he:AE size k=(size-2)/k:=by unfold AE;rw[if_neg h1];rfl
  rw[he]
  obtain⟨s2,EB⟩:∃s2,s2=size-2:=⟨_,rfl⟩
  have ew:(size:Int)-2=(s2:Int):=by omega
  have NF:s2≤254:=by omega
  rw[←EB]
  have HQ:Hid (s2/k*k≤s2∧∀n,n*k≤s2→n≤s2/k):=⟨Nat.div_mul_le_self _ _,fun n h=>(Nat.le_div_iff_mul_le hk.1).2 h⟩
  generalize hqq:s2/k=q at*
  have AA1:q≤254:=by
   have h:=HQ.out.1
   have:=Nat.mul_le_mul_left q hk.1
   omega
  clear he EB h1 hqq
  go_enter Tryz.func56,Tryz.ntmps56
  go_wp2
  go_loopw [5] (fun iv wr=>∃n:Nat,n≤q∧iv=.int .i64 (n:Int)∧wr=w) (fun iv _=>q-(intOf iv).toNat)
  case atStart=>exact⟨0,Nat.zero_le _,rfl,rfl⟩
  case round=>
   obtain⟨n,hn,rfl,rfl⟩:=hrel
   obtain⟨n1,aI⟩:∃n1,n1=n+1:=⟨_,rfl⟩
   have QS:(n:Int)+1=(n1:Int):=by omega
   obtain⟨mm,hmm⟩:∃mm,mm=n1*k:=⟨_,rfl⟩
   have hmul:(n1:Int)*(k:Int)=(mm:Int):=by rw[hmm];exact(Int.natCast_mul n1 k).symm
   have Qx:mm≤2000:=by
    rw[hmm,aI]
    have:=Nat.mul_le_mul (show n+1≤255 by omega) hk.2
    omega
   have uF:n<n1∧n1≤n+1:=by omega
   clear aI
   by_cases hlt:n<q
   ·have hle:mm≤s2:=by
     have h2:=HQ.out.1
     have:=Nat.mul_le_mul_right k (show n1≤q by omega)
     omega
    have g3:decide ((mm:Int)≤(s2:Int))=true:=by simp;omega
    clear hmm
    go_wp2
    go_roundw
    case rel=>exact⟨n1,by omega,by trivial,by trivial⟩
    case measure=>simp[intOf];omega
   ·have hgt:¬mm≤s2:=fun h=>by
     have:=HQ.out.2 n1 (by omega)
     omega
    have g3:decide ((mm:Int)≤(s2:Int))=false:=by simp;omega
    obtain rfl:n=q:=by omega
    clear hmm
    go_wp2
    go_ret
    exact⟨rfl,rfl⟩
def MR(h c:Nat):Nat:=if h=0 then 0 else AA h c
theorem We(size:Nat)(width:Int)(c:Nat)(w:World)(hs:8≤size∧size≤256)(hc:c≤1000000):Calls Tryz.prog 28 #[.int .i64 size,.int .i64 width,.int .i64 c] w fun e w'=>e=.returned (.int .i64 (MR (AE size width) c:Nat))∧w'=w:=by
 have HH:=Lib.hid (ZD size width w hs)
 have hb:AE size width≤254:=Nat.le_trans (Dm _ _) (by omega)
 generalize AE size width=h at*
 by_cases h0:h=0
 ·subst h0
  go_enter Tryz.func28,Tryz.ntmps28
  go_wp2_with fail
  refine HH.out.mono ?_;rintro e w1 ⟨rfl,rfl⟩
  go_wp2
  go_loopw [8] (fun iv wr=>iv=.int .i64 0∧wr=w1) (fun iv _=>0)
  case atStart=>exact⟨rfl,rfl⟩
  case round=>
   obtain⟨rfl,rfl⟩:=hrel
   go_wp2
   go_ret
   exact⟨rfl,rfl⟩
 ·have he:MR h c=AA h c:=by unfold MR;rw[if_neg h0]
  have hh:0<h:=by omega
  have HQ:Hid (c≤AA h c*h∧∀n,c≤n*h→AA h c≤n):=⟨FT hh,fun n hn=>Ev hh hn⟩
  have hle:AA h c≤1000000:=Nat.le_trans (BM _ _) hc
  rw[he]
  generalize AA h c=q at*
  have g1:decide ((h:Int)>0)=true:=by simp;omega
  clear he h0
  go_enter Tryz.func28,Tryz.ntmps28
  go_wp2_with fail
  refine HH.out.mono ?_;rintro e w1 ⟨rfl,rfl⟩
  clear HH
  go_wp2
  go_loopw [8] (fun iv wr=>∃n:Nat,n≤q∧iv=.int .i64 (n:Int)∧wr=w1) (fun iv _=>q-(intOf iv).toNat)
  case atStart=>exact⟨0,Nat.zero_le _,rfl,rfl⟩
  case round=>
   obtain⟨n,hn,rfl,rfl⟩:=hrel
   obtain⟨mm,hmm⟩:∃mm,mm=n*h:=⟨_,rfl⟩
   have hmul:(n:Int)*(h:Int)=(mm:Int):=by rw[hmm];exact(Int.natCast_mul n h).symm
   have Qx:mm≤254000000:=by
    have:=Nat.mul_le_mul (show n≤1000000 by omega) hb
    omega
   by_cases hlt:n<q
   ·have hgt:¬c≤mm:=fun h2=>by
     have:=HQ.out.2 n (by omega)
     omega
    have g3:decide ((mm:Int)<(c:Int))=true:=by simp;omega
    clear hmm
    go_wp2
    go_roundw
    case rel=>exact⟨n+1,by omega,by go_num,by trivial⟩
    case measure=>simp[intOf];omega
   ·obtain rfl:n=q:=by omega
    have hgt:c≤mm:=by have:=HQ.out.1;omega
    have g3:decide ((mm:Int)<(c:Int))=false:=by simp;omega
    clear hmm
    go_wp2
    go_ret
    exact⟨rfl,rfl⟩
def KW(t:AB)(i:Nat):Int:=if i=0 then t.a else if i=1 then t.b else if i=2 then t.c else if i=3 then t.d else t.e
theorem ai(k:Nat)(t:AB):Ac k t=true↔∀i,k≤i→i<5→KW t i=0:=by
 obtain⟨a,b,c,d,e⟩:=t
 unfold Ac AB.Bf
 constructor
 ·intro h i hk hi
  have h1:=List.all_eq_true.1 h
  have hm:([a,b,c,d,e]:List Int)[i]?=some (KW ⟨a,b,c,d,e⟩ i):=by
   match i,hi with
   |0,_=>rfl
   |1,_=>rfl
   |2,_=>rfl
   |3,_=>rfl
   |4,_=>rfl
   |i+5,hi=>omega
  have h2:([a,b,c,d,e].drop k)[i-k]?=some (KW ⟨a,b,c,d,e⟩ i):=by rw[List.getElem?_drop,show k+(i-k)=i by omega];exact hm
  simpa using h1 _ (List.mem_of_getElem? h2)
 ·intro h
  rw[List.all_eq_true]
  intro x hx
  obtain⟨j,hj⟩:=List.getElem?_of_mem hx
  rw[List.getElem?_drop]at hj
  have VQ:k+j<5:=(List.getElem?_eq_some_iff.1 hj).1
  have h3:=h (k+j) (by omega) VQ
  generalize k+j=i at hj VQ h3
  match i,VQ with
  |0,_=>simp at hj;subst hj;simpa [KW]using h3
  |1,_=>simp at hj;subst hj;simpa [KW]using h3
  |2,_=>simp at hj;subst hj;simpa [KW]using h3
  |3,_=>simp at hj;subst hj;simpa [KW]using h3
  |4,_=>simp at hj;subst hj;simpa [KW]using h3
  |i+5,hi=>omega
theorem ZF(t:AB)(k:Nat)(w:World)(_hk:k≤5):Calls Tryz.prog 36 #[.agg #[.int .i64 t.a,.int .i64 t.b,.int .i64 t.c,.int .i64 t.d,.int .i64 t.e],.int .i64 k] w fun e w'=>e=.returned (.bool (Ac k t))∧Below w.heap.size w w':=by
 have hr:Row (w.alloc (.cells #[.int .i64 t.a,.int .i64 t.b,.int .i64 t.c,.int .i64 t.d,.int .i64 t.e] 63)) w.heap.size 63 [.int .i64 t.a,.int .i64 t.b,.int .i64 t.c,.int .i64 t.d,.int .i64 t.e]:=heap_alloc_new _ _
 have HR:Hid (∀i,i<5→(w.alloc (.cells #[.int .i64 t.a,.int .i64 t.b,.int .i64 t.c,.int .i64 t.d,.int .i64 t.e] 63)).cell? ⟨w.heap.size,i,none⟩=some (.int .i64 (KW t i))):=fun i hi=>by
  rw[hr.cell i]
  match i,hi with
  |0,_=>rfl
  |1,_=>rfl
  |2,_=>rfl
  |3,_=>rfl
  |4,_=>rfl
  |i+5,hi=>omega
 have HB:Hid (Below w.heap.size w (w.alloc (.cells #[.int .i64 t.a,.int .i64 t.b,.int .i64 t.c,.int .i64 t.d,.int .i64 t.e] 63))):=(Below.refl w.heap.size w).alloc (Nat.le_refl _) _
 have HF:Hid ((∀i,k≤i→i<5→KW t i=0)↔Ac k t=true):=(ai k t).symm
 generalize Ac k t=ft at*
 clear hr
 obtain⟨W,hW⟩:∃W,W=w.alloc (.cells #[.int .i64 t.a,.int .i64 t.b,.int .i64 t.c,.int .i64 t.d,.int .i64 t.e] 63):=⟨_,rfl⟩
 have HW:=Lib.hid hW
 rw[←hW]at HR HB
 clear hW
 go_enter Tryz.func36,Tryz.ntmps36
 go_wp2
 rw[←HW.out]
 go_loopw [5] (fun iv wr=>∃i:Nat,i≤5∧iv=.int .i64 (i:Int)∧wr=W∧Hid (∀j,k≤j→j<i→KW t j=0)) (fun iv _=>5-(intOf iv).toNat)
 case atStart=>exact⟨0,Nat.zero_le _,rfl,by trivial,fun j _ hj=>absurd hj (Nat.not_lt_zero _)⟩
 case round=>
  obtain⟨i,hi,rfl,rfl,HZ⟩:=hrel
  by_cases hlt:i<5
  ·have hc:=HR.out i hlt
   generalize hz:KW t i=z at hc
   have HZI:=Lib.hid hz
   clear hz
   have g0:decide ((i:Int)<5)=true:=by simp;omega
   have i0:(0:Int)≤(i:Int):=by omega
   have i5:(i:Int)<5:=by omega
   by_cases hki:k≤i
   ·have g1:decide ((i:Int)≥(k:Int))=true:=by simp;omega
    by_cases Cy:z=0
    ·have g2:(z !=0)=false:=by simpa using Cy
     have yU:Hid (∀j,k≤j→j<i+1→KW t j=0):=fun j h1 h2=>by
      by_cases h3:j=i
      ·subst h3;rw[HZI.out];exact Cy
      ·exact HZ.out j h1 (by omega)
     clear Cy
     go_wp2
     go_roundw
     case rel=>exact⟨i+1,by omega,by go_num,by trivial,yU.out⟩
     case measure=>simp[intOf];omega
    ·have g2:(z !=0)=true:=by simpa using Cy
     have Jw:Hid (ft=false):=by
      unfold Hid
      cases ft
      ·rfl
      ·exact absurd ((HF.out.2 rfl) i hki hlt) (by rw[HZI.out];exact Cy)
     clear Cy
     go_wp2
     go_ret
     rw[Jw.out]
     exact⟨rfl,HB.out⟩
   ·have g1:decide ((i:Int)≥(k:Int))=false:=by simp;omega
    have yU:Hid (∀j,k≤j→j<i+1→KW t j=0):=fun j h1 h2=>HZ.out j h1 (by omega)
    go_wp2
    go_roundw
    case rel=>exact⟨i+1,by omega,by go_num,by trivial,yU.out⟩
    case measure=>simp[intOf];omega
  ·obtain rfl:i=5:=by omega
   have Jw:Hid (ft=true):=HF.out.1 HZ.out
   go_wp2
   go_ret
   rw[Jw.out]
   exact⟨rfl,HB.out⟩
theorem pY(A:Option Addr)(m c:Nat)(l:List AB)(k:Nat)(w:World)(h:BH w w.heap.size A m l)(hk:k≤5)(hm:m≤maxLen):Calls Tryz.prog 12 #[.slice A m c,.int .i64 k] w fun e w'=>e=.returned (.bool (l.all (Ac k)))∧Below w.heap.size w w':=by
 have hlen:=h.1
 have HR:=Lib.hid h
 have HA:Hid ((∀u∈l,Ac k u=true)↔l.all (Ac k)=true):=List.all_eq_true.symm
 have hmm:m≤9223372036854775807:=by unfold maxLen at hm;omega
 have HL:=Lib.hid hlen
 generalize l.all (Ac k)=al at*
 clear h hlen hm
 go_enter Tryz.func12,Tryz.ntmps12
 go_wp2
 go_loopw [5] (fun iv wr=>∃i:Nat,i≤m∧iv=.int .i64 (i:Int)∧Hid (Below w.heap.size w wr)∧Hid (∀u∈l.take i,Ac k u=true)) (fun iv _=>m-(intOf iv).toNat)
 case atStart=>exact⟨0,Nat.zero_le _,rfl,Below.refl _ _,fun u hu=>by simp at hu⟩
 case round=>
  obtain⟨i,hi,rfl,HB,HT⟩:=hrel
  by_cases hlt:i<m
  ·obtain⟨b,off,t,rfl,IB,q0,q1,q2,q3,q4,_,ht⟩:=(HR.out.CL HB.out).at_ hlt
   have HF:=Lib.hid (ZF t k wr hk)
   have i0:(0:Int)≤(i:Int):=by omega
   have i1:(i:Int)<(m:Int):=by omega
   have g0:decide ((i:Int)<(m:Int))=true:=by simp;omega
   have Kg:Hid (Ac k t=true→∀u∈l.take (i+1),Ac k u=true):=fun hf u hu=>by
    rw[List.take_add_one,ht.out]at hu
    rcases List.mem_append.1 hu with hu|hu
    ·exact HT.out u hu
    ·simp at hu;subst hu;exact hf
   have Kh:Hid (Ac k t=false→al=false):=fun hf=>by
    cases al
    ·rfl
    ·have:=HA.out.2 rfl t (List.mem_of_getElem? ht.out)
     rw[hf]at this;cases this
   generalize Ac k t=ft at*
   obtain⟨ta,tb,tc,td,te⟩:=t
   simp only at q0 q1 q2 q3 q4 HF
   cases ft
   ·go_wp2_with fail
    refine HF.out.mono ?_;rintro e w5 ⟨rfl,hb⟩
    have BW:=Lib.hid (HB.out.trans (hb.mono HB.out.size))
    clear hb
    go_wp2
    go_ret
    rw[Kh.out (by trivial)]
    exact⟨rfl,BW.out⟩
   ·go_wp2_with fail
    refine HF.out.mono ?_;rintro e w5 ⟨rfl,hb⟩
    have BW:=Lib.hid (HB.out.trans (hb.mono HB.out.size))
    clear hb
    go_wp2
    go_roundw
    case rel=>exact⟨i+1,by omega,by go_num,BW.out,Kg.out (by trivial)⟩
    case measure=>simp[intOf];omega
  ·obtain rfl:i=m:=by omega
   have g0:decide ((i:Int)<(i:Int))=false:=by simp
   have HAL:Hid (al=true):=HA.out.1 fun u hu=>HT.out u (by rw[List.take_of_length_le (by rw[HL.out];exact Nat.le_refl _)];exact hu)
   go_wp2
   go_ret
   rw[HAL.out]
   exact⟨rfl,HB.out⟩
theorem dL{l l':List AB}{i:Nat}{t t':AB}(h:l[i]?=some t)(h':l'[i]?=some t')(hne:t≠t'):l≠l':=fun e=>by
 rw[e,h']at h;injection h with h;exact hne h.symm
theorem oA(A A':Option Addr)(m m' c c':Nat)(l l':List AB)(w:World)(h:BH w w.heap.size A m l)(h':BH w w.heap.size A' m' l')(hm:m≤maxLen)(hm':m'≤maxLen):Calls Tryz.prog 24 #[.slice A m c,.slice A' m' c'] w fun e w'=>e=.returned (.bool (decide (l=l')))∧∃q,w'=w.drewN q:=by
 have hlen:=h.1
 have hlen':=h'.1
 have hmm:m≤9223372036854775807:=by unfold maxLen at hm;omega
 have AC6:m'≤9223372036854775807:=by unfold maxLen at hm';omega
 by_cases hne:m=m'
 ·subst hne
  have HR:=Lib.hid h
  have HR':=Lib.hid h'
  have HL:=Lib.hid hlen
  have HL':=Lib.hid hlen'
  have g9:((m:Int) !=(m:Int))=false:=by simp
  clear h h' hlen hlen' hm hm'
  go_enter Tryz.func24,Tryz.ntmps24
  go_wp2
  go_loopw [5] (fun iv wr=>∃i:Nat,i≤m∧iv=.int .i64 (i:Int)∧(∃q,wr=w.drewN q)∧Hid (l.take i=l'.take i)) (fun iv _=>m-(intOf iv).toNat)
  case atStart=>exact⟨0,Nat.zero_le _,rfl,⟨0,rfl⟩,by simp[Hid]⟩
  case round=>
   obtain⟨i,hi,rfl,⟨q0,rfl⟩,HT⟩:=hrel
   by_cases hlt:i<m
   ·obtain⟨b,off,t,rfl,IB,d0,d1,d2,d3,d4,_,ht⟩:=HR.out.at_ hlt
    obtain⟨b',Rr,t',rfl,AD8,s0,s1,s2,s3,s4,_,qD⟩:=HR'.out.at_ hlt
    have i0:(0:Int)≤(i:Int):=by omega
    have i1:(i:Int)<(m:Int):=by omega
    have g0:decide ((i:Int)<(m:Int))=true:=by simp;omega
    have heq:=jt t t'
    have Kg:Hid (t=t'→l.take (i+1)=l'.take (i+1)):=fun hf=>by
     rw[List.take_add_one,List.take_add_one,HT.out,ht.out,qD.out,hf]
    have Kh:Hid (t≠t'→l≠l'):=dL ht.out qD.out
    generalize hbq:decide (t=t')=bq at heq
    have vC:=Lib.hid hbq
    obtain⟨ta,tb,tc,td,te⟩:=t
    obtain⟨ua,ub,uc,ud,ue⟩:=t'
    simp only at d0 d1 d2 d3 d4 s0 s1 s2 s3 s4 heq
    have d0':∀q,(w.drewN q).cell? ⟨b,off+i*5,none⟩=some (.int .i64 ta):=fun _=>d0
    have d1':∀q,(w.drewN q).cell? ⟨b,off+i*5+1,none⟩=some (.int .i64 tb):=fun _=>d1
    have d2':∀q,(w.drewN q).cell? ⟨b,off+i*5+2,none⟩=some (.int .i64 tc):=fun _=>d2
    have d3':∀q,(w.drewN q).cell? ⟨b,off+i*5+3,none⟩=some (.int .i64 td):=fun _=>d3
    have d4':∀q,(w.drewN q).cell? ⟨b,off+i*5+4,none⟩=some (.int .i64 te):=fun _=>d4
    have f0':∀q,(w.drewN q).cell? ⟨b',Rr+i*5,none⟩=some (.int .i64 ua):=fun _=>s0
    have yG:∀q,(w.drewN q).cell? ⟨b',Rr+i*5+1,none⟩=some (.int .i64 ub):=fun _=>s1
    have f2':∀q,(w.drewN q).cell? ⟨b',Rr+i*5+2,none⟩=some (.int .i64 uc):=fun _=>s2
    have f3':∀q,(w.drewN q).cell? ⟨b',Rr+i*5+3,none⟩=some (.int .i64 ud):=fun _=>s3
    have f4':∀q,(w.drewN q).cell? ⟨b',Rr+i*5+4,none⟩=some (.int .i64 ue):=fun _=>s4
    have hq:=fun W=>eI W ta tb tc td te ua ub uc ud ue
    simp only[heq]at hq
    have hg:=fun W x y=>PE W .neq x y #[.int .i64 ta,.int .i64 tb,.int .i64 tc,.int .i64 td,.int .i64 te] #[.int .i64 ua,.int .i64 ub,.int .i64 uc,.int .i64 ud,.int .i64 ue]
    clear heq hbq ht qD
    cases bq
    ·have cn:Hid (decide (l=l')=false):=by
      unfold Hid
      rw[decide_eq_false_iff_not]
      exact Kh.out (of_decide_eq_false vC.out)
     clear vC Kh Kg
     go_wp2
     go_quiet (fail)
     go_wp2
     go_ret
     exact⟨Di cn.out.symm,_,World.drewN_drewN _ _ _⟩
    ·have HT2:=Lib.hid (Kg.out (of_decide_eq_true vC.out))
     clear vC Kh Kg
     go_wp2
     go_quiet (fail)
     go_wp2
     go_roundw
     case rel=>exact⟨i+1,by omega,by go_num,⟨_,rfl⟩,HT2.out⟩
     case measure=>simp[intOf];omega
   ·obtain rfl:i=m:=by omega
    have HE:Hid (decide (l=l')=true):=by
     have h:=HT.out
     rw[List.take_of_length_le (by have:=HL.out;omega),List.take_of_length_le (by have:=HL'.out;omega)]at h
     exact decide_eq_true h
    have g0:decide ((i:Int)<(i:Int))=false:=by simp
    go_wp2
    go_ret
    exact⟨Di HE.out.symm,q0,rfl⟩
 ·have cn:Hid (decide (l=l')=false):=by
   unfold Hid
   rw[decide_eq_false_iff_not]
   intro e;exact hne (by rw[←hlen,←hlen',e])
  have g9:((m:Int) !=(m':Int))=true:=by simpa using fun h:(m:Int)=(m':Int)=>hne (by omega)
  clear h h' hlen hlen' hm hm' hne
  go_enter Tryz.func24,Tryz.ntmps24
  go_wp2
  go_ret
  exact⟨Di cn.out.symm,0,rfl⟩
theorem Gk{o a b c:AB}(h:AN o a b<0)(k:AN o b c≤0):AN o a c<0:=by
 rcases Int.lt_or_le (AN o a c) 0 with h1|h1
 ·exact h1
 ·have h2:AN o c a≤0:=by rw[Ag];omega
  have h3:=Bz k h2
  rw[Ag]at h3;omega
theorem Gl{o a b c:AB}(h:AN o a b≤0)(k:AN o b c<0):AN o a c<0:=by
 rcases Int.lt_or_le (AN o a c) 0 with h1|h1
 ·exact h1
 ·have h2:AN o c a≤0:=by rw[Ag];omega
  have h3:=Bz h2 h
  rw[Ag]at h3;omega
theorem FO{o a b c:AB}(h:AN o a b=0)(k:AN o a c=0):AN o b c=0:=by
 have h1:AN o b a≤0:=by rw[Ag];omega
 have h2:AN o c a≤0:=by rw[Ag];omega
 have h3:=Bz h1 (show AN o a c≤0 by omega)
 have h4:=Bz h2 (show AN o a b≤0 by omega)
 have h5:=Ag o b c
 omega
def Dw(o t x:AB):Bool:=decide (AN o t x=0)
theorem KV(o t:AB):Dw o t t=true:=by simp[Dw,Gm]
theorem PR{o t u:AB}(h:AN o t u=0)(x:AB):Dw o t x=Dw o u x:=by
 unfold Dw
 have h':AN o u t=0:=by rw[Ag];omega
 by_cases h1:AN o t x=0
 ·rw[decide_eq_true h1,decide_eq_true (FO h h1)]
 ·rw[decide_eq_false h1,decide_eq_false fun h2=>h1 (FO h' h2)]
def Cl(o:AB)(l m:List AB):Prop:=∀t,l.filter (Dw o t)=m.filter (Dw o t)
section
variable {o : AB} {l m q a b c d : List AB} {t x y : AB}
theorem Cl.refl(o:AB)(l:List AB):Cl o l l:=fun _=>rfl
theorem Cl.symm(h:Cl o l m):Cl o m l:=fun t=>(h t).symm
theorem Cl.trans(h:Cl o l m)(k:Cl o m q):Cl o l q:=fun t=>(h t).trans (k t)
theorem Cl.append(h:Cl o a b)(k:Cl o c d):Cl o (a++c) (b++d):=fun t=>by rw[List.filter_append,List.filter_append,h t,k t]
theorem Cl.left(h:Cl o (a++l) (a++m)):Cl o l m:=fun t=>by
 have:=h t
 rw[List.filter_append,List.filter_append]at this
 exact List.append_cancel_left this
theorem Cl.right(h:Cl o (l++a) (m++a)):Cl o l m:=fun t=>by
 have:=h t
 rw[List.filter_append,List.filter_append]at this
 exact List.append_cancel_right this
theorem Cl.mem(h:Cl o l m)(hx:x∈l):x∈m:=by
 have h1:x∈l.filter (Dw o x):=List.mem_filter.2 ⟨hx,KV o x⟩
 rw[h x]at h1
 exact(List.mem_filter.1 h1).1
theorem Cl.perm(h:Cl o l m):l.Perm m:=List.perm_iff_count.2 fun z=>by
 rw[←List.count_filter (l:=l) (KV o z),h z,List.count_filter (KV o z)]
theorem Cl.len(h:Cl o l m):l.length=m.length:=h.perm.length_eq
theorem Cl.swap(h:∀u∈a,∀v∈b,AN o v u≠0):Cl o (a++b) (b++a):=fun t=>by
 rw[List.filter_append,List.filter_append]
 by_cases ha:a.filter (Dw o t)=[]
 ·rw[ha,List.nil_append,List.append_nil]
 ·have hb:b.filter (Dw o t)=[]:=by
   obtain⟨u,hu⟩:=List.exists_mem_of_ne_nil _ ha
   obtain⟨qA,N4⟩:=List.mem_filter.1 hu
   refine List.filter_eq_nil_iff.2 fun v hv Zu=>h u qA v hv (FO (o:=o) (a:=t) ?_ ?_)
   ·simpa [Dw]using Zu
   ·simpa [Dw]using N4
  rw[hb,List.nil_append,List.append_nil]
end
def Gz(o:AB)(l:List AB):Prop:=l.Pairwise fun a b=>AN o a b≤0
theorem Jk(o:AB):∀(m m':List AB),Gz o m→Gz o m'→Cl o m m'→m=m'
 |[],[],_,_,_=>rfl
 |[],b::m',_,_,h=>by have:=h.symm.mem (List.mem_cons_self (a:=b));cases this
 |a::m,[],_,_,h=>by have:=h.mem (List.mem_cons_self (a:=a));cases this
 |a::m,b::m',ha,hb,h=>by
  obtain⟨VV,KS⟩:=List.pairwise_cons.1 ha
  obtain⟨Aj,AX⟩:=List.pairwise_cons.1 hb
  have h1:AN o b a≤0:=by
   rcases List.mem_cons.1 (h.mem (List.mem_cons_self (a:=a) (l:=m)))with e|e
   ·rw[e,Gm];exact Int.le_refl _
   ·exact Aj a e
  have h2:AN o a b≤0:=by
   rcases List.mem_cons.1 (h.symm.mem (List.mem_cons_self (a:=b) (l:=m')))with e|e
   ·rw[e,Gm];exact Int.le_refl _
   ·exact VV b e
  have h3:AN o a b=0:=by have:=Ag o a b;omega
  have h4:=h a
  rw[List.filter_cons_of_pos (KV o a),List.filter_cons_of_pos (by simp[Dw,h3])]at h4
  injection h4 with h5 h6
  subst h5
  rw[Jk o m m' KS AX fun t=>?_]
  have h7:=h t
  by_cases ht:Dw o t a=true
  ·rw[List.filter_cons_of_pos ht,List.filter_cons_of_pos ht]at h7
   injection h7
  ·rw[List.filter_cons_of_neg ht,List.filter_cons_of_neg ht]at h7
   exact h7
def Bh(o:AB)(l:List AB)(a b:Nat):Prop:=∀i,a≤i→i+1<b→AN o (l.getD i AD) (l.getD (i+1) AD)≤0
theorem Bh.add{o:AB}{l:List AB}{a b:Nat}(h:Bh o l a b):∀(d i:Nat),a≤i→i+d<b→AN o (l.getD i AD) (l.getD (i+d) AD)≤0
 |0,i,_,_=>by rw[Nat.add_zero,Gm];exact Int.le_refl _
 |d+1,i,h1,h2=>Bz (h.add d i h1 (by omega)) (h (i+d) (by omega) h2)
theorem Bh.le{o:AB}{l:List AB}{a b i j:Nat}(h:Bh o l a b)(h1:a≤i)(h2:i≤j)(h3:j<b):AN o (l.getD i AD) (l.getD j AD)≤0:=by
 have:=h.add (j-i) i h1 (by omega)
 rwa [show i+(j-i)=j by omega]at this
theorem B6{l:List AB}{i:Nat}(h:i<l.length):l.getD i AD=l[i]:=by rw[List.getD_eq_getElem?_getD,List.getElem?_eq_getElem h];rfl
theorem Qi{o:AB}{l:List AB}:Gz o l↔Bh o l 0 l.length:=by
 unfold Gz
 rw[List.pairwise_iff_getElem]
 refine⟨fun h i _ hi=>?_,fun h i j hi hj Fa=>?_⟩
 ·rw[B6 (by omega),B6 hi];exact h i (i+1) (by omega) hi (by omega)
 ·have:=h.le (Nat.zero_le i) (Nat.le_of_lt Fa) hj
  rwa [B6 hi,B6 hj]at this
theorem Is{o:AB}{l:List AB}:YF o l↔Gz o l:=by
 rw[Qi]
 exact⟨fun h i _ hi=>h i hi,fun h i hi=>h i (Nat.zero_le _) hi⟩
theorem VF(o:AB)(out:List AB)(t:AB):Cl o (out++[t]) (NA o out t):=by
 have hb:=Ft (fun y=>decide (AN o t y<0)) out out.length
 unfold NA
 generalize posB (fun y=>decide (AN o t y<0)) out out.length=k at*
 have h1:Cl o (out.drop k++[t]) ([t]++out.drop k):=by
  refine Cl.swap fun u hu v hv=>?_
  simp only[List.mem_singleton]at hv
  subst hv
  obtain⟨i,hi,rfl⟩:=List.getElem_of_mem hu
  rw[List.length_drop]at hi
  have:=hb (k+i) (by omega) (by omega)
  rw[B6 (by omega)]at this
  rw[List.getElem_drop]
  simp at this;omega
 have h2:=(Cl.refl o (out.take k)).append h1
 rw[←List.append_assoc,List.take_append_drop]at h2
 exact h2
theorem IK(o:AB):∀(l out:List AB),Cl o (out++l) (IL o out l)
 |[],out=>by rw[List.append_nil];exact Cl.refl _ _
 |t::l,out=>by
  have h1:=(VF o out t).append (Cl.refl o l)
  rw[List.append_assoc]at h1
  exact h1.trans (IK o l (NA o out t))
theorem Na{o:AB}{l m:List AB}(h1:Gz o m)(h2:Cl o l m):m=IL o [] l:=
 Jk o m _ h1 (Is.1 (GZ o l [] (ME o))) (h2.symm.trans (IK o l []))
def stepO(o:AB)(q:List AB)(t:AB):List AB:=match q.getLast? with
 |some u=>if AN o u t=0 then q else q++[t]
 |none=>q++[t]
def As(o:AB)(l:List AB):List AB:=l.foldl (stepO o) []
theorem JX(o:AB)(l:List AB)(t:AB):As o (l++[t])=stepO o (As o l) t:=by unfold As;rw[List.foldl_append];rfl
theorem WI(o:AB)(q:List AB)(t:AB):(stepO o q t).length≤q.length+1:=by
 unfold stepO
 split
 ·split<;>simp
 ·simp
theorem My(o:AB):∀l:List AB,(As o l).length≤l.length:=by
 intro l
 suffices h:∀(l q:List AB),(l.foldl (stepO o) q).length≤q.length+l.length by have:=h l [];simpa [As]using this
 intro l
 induction l with
 |nil=>intro q;simp
 |cons t l ih=>intro q;have h1:=ih (stepO o q t);have h2:=WI o q t;simp only[List.foldl_cons,List.length_cons]at*;omega
theorem WH{o:AB}{q:List AB}{t x:AB}(h:x∈stepO o q t):x∈q∨x=t:=by
 unfold stepO at h
 split at h
 ·split at h
  ·exact .inl h
  ·simpa using h
 ·simpa using h
theorem Kt{o:AB}{l:List AB}{x:AB}(h:x∈As o l):x∈l:=by
 suffices hs:∀(l q:List AB),x∈l.foldl (stepO o) q→x∈q∨x∈l by
  rcases hs l [] h with h|h
  ·cases h
  ·exact h
 intro l
 induction l with
 |nil=>intro q h;exact .inl h
 |cons t l ih=>
  intro q h
  rcases ih _ h with h|h
  ·rcases WH h with h|h
   ·exact .inl h
   ·exact .inr (h▸List.mem_cons_self)
  ·exact .inr (List.mem_cons_of_mem _ h)
theorem Ej{α:Type}{l m:List α}:(l++m).take 1=if l=[]then m.take 1 else l.take 1:=by
 cases l with
 |nil=>simp
 |cons a l=>simp
theorem Rq{o:AB}:∀(n:Nat) (l:List AB),l.length=n→Gz o l→Gz o (As o l)∧(∀t,(As o l).filter (Dw o t)=(l.filter (Dw o t)).take 1)∧(∀u,(As o l).getLast?=some u→∀x∈l,AN o x u≤0)∧(l≠[]→(As o l).getLast?≠none)
 |0,l,hl,_=>by
  obtain rfl:=List.eq_nil_of_length_eq_zero hl
  exact⟨List.Pairwise.nil,fun _=>rfl,fun u h=>(by cases h),fun h=>absurd rfl h⟩
 |n+1,l,hl,ha=>by
  obtain⟨l',t,rfl⟩:∃l' t,l=l'++[t]:=⟨l.dropLast,l.getLast (by intro e;rw[e]at hl;simp at hl),(List.dropLast_concat_getLast _).symm⟩
  have T9:l'.length=n:=by simpa using hl
  obtain⟨VV,_,uN⟩:=List.pairwise_append.1 ha
  obtain⟨i1,i2,i3,i4⟩:=Rq n l' T9 VV
  rw[JX]
  have hlt:∀x∈l',AN o x t≤0:=fun x hx=>uN x hx t (by simp)
  have hle:∀x∈As o l',AN o x t≤0:=fun x hx=>hlt x (Kt hx)
  have Eo:(∀x∈l',AN o x t≠0)→Gz o (As o l'++[t])∧(∀s,(As o l'++[t]).filter (Dw o s)=((l'++[t]).filter (Dw o s)).take 1)∧(∀u,(As o l'++[t]).getLast?=some u→∀x∈l'++[t],AN o x u≤0)∧(l'++[t]≠[]→(As o l'++[t]).getLast?≠none):=fun hne=>by
   refine⟨List.pairwise_append.2 ⟨i1,List.pairwise_singleton _ _,fun x hx y hy=>?_⟩,fun s=>?_,fun u hu x hx=>?_,fun _=>by simp⟩
   ·simp at hy;subst hy;exact hle x hx
   ·rw[List.filter_append,List.filter_append,Ej,i2 s]
    by_cases hst:Dw o s t=true
    ·have h0:l'.filter (Dw o s)=[]:=by
      refine List.filter_eq_nil_iff.2 fun x hx iF=>hne x hx (FO (a:=s) ?_ ?_)
      ·simpa [Dw]using iF
      ·simpa [Dw]using hst
     rw[h0,if_pos rfl,List.filter_cons_of_pos hst];rfl
    ·rw[List.filter_cons_of_neg hst,List.filter_nil,List.append_nil]
     split
     ·rename_i h0;rw[h0]
     ·rfl
   ·simp at hu;subst hu
    rcases List.mem_append.1 hx with hx|hx
    ·exact hlt x hx
    ·simp at hx;subst hx;rw[Gm];exact Int.le_refl _
  unfold stepO
  split
  ·rename_i u hu
   have hxu:=i3 u hu
   by_cases he:AN o u t=0
   ·rw[if_pos he]
    have hum:u∈As o l':=List.mem_of_getLast? hu
    refine⟨i1,fun s=>?_,fun v hv x hx=>?_,fun _=>by rw[hu];simp⟩
    ·rw[List.filter_append,Ej,i2 s]
     by_cases hst:Dw o s t=true
     ·have hut:AN o t u=0:=by rw[Ag];omega
      have wN:Dw o s u=true:=by
       have:AN o s t=0:=by simpa [Dw]using hst
       rw[PR this];simp[Dw,hut]
      have h0:l'.filter (Dw o s)≠[]:=List.ne_nil_of_mem (List.mem_filter.2 ⟨Kt hum,wN⟩)
      rw[if_neg h0]
     ·rw[List.filter_cons_of_neg hst,List.filter_nil]
      split
      ·rename_i h0;rw[h0]
      ·rfl
    ·rw[hu]at hv;injection hv with hv;subst hv
     rcases List.mem_append.1 hx with hx|hx
     ·exact hxu x hx
     ·simp at hx;subst hx;rw[Ag];omega
   ·rw[if_neg he]
    refine Eo fun x hx hz=>he ?_
    have h1:=hxu x hx
    have h2:=hle u (List.mem_of_getLast? hu)
    have h3:AN o t x≤0:=by rw[Ag];omega
    have h4:=Bz h3 h1
    rw[Ag]at h4;omega
  ·rename_i hn
   have h0:l'=[]:=by
    rcases Classical.em (l'=[])with h|h
    ·exact h
    ·exact absurd hn (i4 h)
   exact Eo fun x hx=>by rw[h0]at hx;cases hx
theorem Zm{o:AB}{out pre:List AB}(h1:Gz o out)(h2:∀t,out.filter (Dw o t)=(pre.filter (Dw o t)).take 1)(t:AB):Gz o (Zn o out t)∧∀s,(Zn o out t).filter (Dw o s)=((pre++[t]).filter (Dw o s)).take 1:=by
 have ha:=JV (fun y=>decide (AN o t y<0)) out out.length
 have hb:=Ft (fun y=>decide (AN o t y<0)) out out.length
 have hle:=J8 (fun y=>decide (AN o t y<0)) out out.length
 have UI:=Qi.1 h1
 unfold Zn
 split
 ·rename_i hc
  obtain⟨Ht,Gx⟩:=hc
  refine⟨h1,fun s=>?_⟩
  rw[List.filter_append,Ej,h2 s]
  generalize posB (fun y=>decide (AN o t y<0)) out out.length=k at*
  by_cases hst:Dw o s t=true
  ·have wN:Dw o s (out.getD (k-1) AD)=true:=by
    have:AN o s t=0:=by simpa [Dw]using hst
    rw[PR this];exact decide_eq_true Gx
   have hm:out.getD (k-1) AD∈out.filter (Dw o s):=List.mem_filter.2 ⟨by rw[B6 (by omega)];exact List.getElem_mem _,wN⟩
   have h0:pre.filter (Dw o s)≠[]:=fun e=>by rw[h2 s,e]at hm;cases hm
   rw[if_neg h0]
  ·rw[List.filter_cons_of_neg hst,List.filter_nil]
   split
   ·rename_i h0;rw[h0]
   ·rfl
 ·rename_i hc
  refine⟨Is.1 (SA (Is.2 h1) t),fun s=>?_⟩
  rw[←VF o out t s,List.filter_append,List.filter_append,Ej,h2 s]
  generalize posB (fun y=>decide (AN o t y<0)) out out.length=k at*
  by_cases hst:Dw o s t=true
  ·have h0:out.filter (Dw o s)=[]:=by
    refine List.filter_eq_nil_iff.2 fun y hy hy2=>?_
    have T1:AN o s t=0:=by simpa [Dw]using hst
    have hty:AN o t y=0:=FO (a:=s) T1 (by simpa [Dw]using hy2)
    obtain⟨i,hi,rfl⟩:=List.getElem_of_mem hy
    by_cases UB:k≤i
    ·have:=hb i UB hi
     rw[B6 hi]at this
     simp at this;omega
    ·have h5:=ha (by omega)
     have h6:¬AN o t (out.getD (k-1) AD)<0:=by simpa using h5
     have h7:AN o t (out.getD (k-1) AD)≠0:=fun e=>hc ⟨by omega,e⟩
     have h8:=UI.le (Nat.zero_le i) (show i≤k-1 by omega) (show k-1<out.length by omega)
     rw[B6 hi]at h8
     have h9:AN o (out.getD (k-1) AD) t<0:=by rw[Ag];omega
     have ID:=Gl h8 h9
     rw[Ag]at ID;omega
   have rY:pre.filter (Dw o s)=[]:=by
    have:=h2 s
    rw[h0]at this
    cases hp:pre.filter (Dw o s)with
    |nil=>rfl
    |cons a r=>rw[hp]at this;simp at this
   rw[rY,if_pos rfl]
   simp[List.filter_cons_of_pos hst]
  ·rw[List.filter_cons_of_neg hst,List.filter_nil,List.append_nil]
   split
   ·rename_i h0;rw[h0]
   ·rfl
theorem Om{o:AB}:∀(l out pre:List AB),Gz o out→(∀t,out.filter (Dw o t)=(pre.filter (Dw o t)).take 1)→Gz o (RU o out l)∧∀s,(RU o out l).filter (Dw o s)=((pre++l).filter (Dw o s)).take 1
 |[],out,pre,h1,h2=>by rw[List.append_nil];exact⟨h1,h2⟩
 |t::l,out,pre,h1,h2=>by
  obtain⟨k1,k2⟩:=Zm h1 h2 t
  have:=Om l (Zn o out t) (pre++[t]) k1 k2
  rw[List.append_assoc]at this
  exact this
theorem ax{o:AB}{l m:List AB}(h1:Gz o m)(h2:Cl o l m):As o m=RU o [] l:=by
 obtain⟨a1,a2,_⟩:=Rq m.length m rfl h1
 obtain⟨b1,b2⟩:=Om (o:=o) l [] [] List.Pairwise.nil fun _=>rfl
 exact Jk o _ _ a1 b1 fun t=>by rw[a2 t,b2 t,←h2 t];rfl
def swp{α:Type}(d:α)(l:List α)(i j:Nat):List α:=(l.set i (l.getD j d)).set j (l.getD i d)
section
variable {α : Type} {d : α} {l : List α} {i j k : Nat}
theorem B3:(swp d l i j).length=l.length:=by unfold swp;rw[List.length_set,List.length_set]
theorem Bu(hi:i<l.length)(hj:j<l.length):(swp d l i j).getD k d=if k=j then l.getD i d else if k=i then l.getD j d else l.getD k d:=by
 unfold swp
 rw[List.getD_eq_getElem?_getD,List.getElem?_set,List.getElem?_set,List.length_set]
 by_cases h1:j=k
 ·rw[if_pos h1,if_pos hj,if_pos h1.symm];rfl
 ·rw[if_neg h1,if_neg (show ¬k=j from fun e=>h1 e.symm)]
  by_cases h2:i=k
  ·rw[if_pos h2,if_pos hi,if_pos h2.symm];rfl
  ·rw[if_neg h2,if_neg (fun e=>h2 e.symm),←List.getD_eq_getElem?_getD]
theorem RO(hi:i<l.length)(hj:j<l.length):swp d l i j=swp d l j i:=by
 refine List.ext_getElem (by rw[B3,B3]) fun n h1 h2=>?_
 have e1:(swp d l i j).getD n d=(swp d l i j)[n]:=by rw[List.getD_eq_getElem?_getD,List.getElem?_eq_getElem h1];rfl
 have e2:(swp d l j i).getD n d=(swp d l j i)[n]:=by rw[List.getD_eq_getElem?_getD,List.getElem?_eq_getElem h2];rfl
 rw[←e1,←e2,Bu hi hj,Bu hj hi]
 by_cases a1:n=j
 ·by_cases a2:n=i
  ·rw[if_pos a1,if_pos a2,←a1,←a2]
  ·rw[if_pos a1,if_neg a2,if_pos a1]
 ·by_cases a2:n=i
  ·rw[if_neg a1,if_pos a2,if_pos a2]
  ·rw[if_neg a1,if_neg a2,if_neg a2,if_neg a1]
theorem dS(P M Q:List α)(x y:α):swp d (P++x::M++y::Q) P.length (P.length+1+M.length)=P++y::M++x::Q:=by
 have e1:(P++x::M++y::Q).getD P.length d=x:=by simp[List.getD_eq_getElem?_getD]
 have e2:(P++x::M++y::Q).getD (P.length+1+M.length) d=y:=by
  rw[List.getD_eq_getElem?_getD,List.getElem?_append_right (by simp;omega)]
  simp[show P.length+1+M.length-(P.length+(M.length+1))=0 by omega]
 unfold swp
 rw[e1,e2,List.append_assoc,List.set_append_right _ _ (by omega),Nat.sub_self,List.cons_append,List.set_cons_zero,List.set_append_right _ _ (by omega),show P.length+1+M.length-P.length=M.length+1 by omega,List.set_cons_succ,List.set_append_right _ _ (by omega),Nat.sub_self,List.set_cons_zero]
 simp
end
structure Ch (o:AB) (a b:Nat) (l l':List AB):Prop where
 len:l'.length=l.length
 out:∀i,i<a∨b≤i→l'.getD i AD=l.getD i AD
 cl:Cl o l l'
section
variable {o : AB} {l l' l'' : List AB} {a b m i j k : Nat}
theorem Ch.refl(o:AB)(a b:Nat)(l:List AB):Ch o a b l l:=⟨rfl,fun _ _=>rfl,Cl.refl _ _⟩
theorem Ch.mono{a' b':Nat}(h:Ch o a b l l')(ha:a'≤a)(hb:b≤b'):Ch o a' b' l l':=⟨h.len,fun i hi=>h.out i (by omega),h.cl⟩
theorem Ch.trans(h:Ch o a b l l')(k:Ch o a b l' l''):Ch o a b l l'':=⟨k.len.trans h.len,fun i hi=>(k.out i hi).trans (h.out i hi),h.cl.trans k.cl⟩
theorem ext_get{l m:List AB}(hl:l.length=m.length)(h:∀i,i<l.length→l.getD i AD=m.getD i AD):l=m:=by
 refine List.ext_getElem hl fun i h1 h2=>?_
 rw[←B6 h1,←B6 h2];exact h i h1
theorem Da{l:List AB}{n i:Nat}(h:i<n):(l.take n).getD i AD=l.getD i AD:=by
 rw[List.getD_eq_getElem?_getD,List.getD_eq_getElem?_getD,List.getElem?_take,if_pos h]
theorem Db{l:List AB}{n i:Nat}:(l.drop n).getD i AD=l.getD (n+i) AD:=by
 rw[List.getD_eq_getElem?_getD,List.getD_eq_getElem?_getD,List.getElem?_drop]
theorem Ch.oE(h:Ch o a b l l')(YC:a≤b)(hb:b≤l.length){i:Nat}(h1:a≤i)(h2:i<b):∃j,a≤j∧j<b∧l.getD j AD=l'.getD i AD:=by
 have hl:=h.len
 have e1:l'.take a=l.take a:=ext_get (by rw[List.length_take,List.length_take];omega) fun i hi=>by
  rw[List.length_take]at hi
  rw[Da (by omega),Da (by omega)];exact h.out i (by omega)
 have e2:l'.drop b=l.drop b:=ext_get (by rw[List.length_drop,List.length_drop];omega) fun i hi=>by
  rw[Db,Db];exact h.out _ (by omega)
 have d1:∀l:List AB,l=l.take a++((l.drop a).take (b-a)++l.drop b):=fun l=>by
  conv=>lhs;rw[←List.take_append_drop a l]
  congr 1
  conv=>lhs;rw[←List.take_append_drop (b-a) (l.drop a)]
  rw[List.drop_drop,show a+(b-a)=b by omega]
 have hc:=h.cl
 rw[d1 l,d1 l',e1,e2]at hc
 have N8:=hc.left.right
 have hm:l'.getD i AD∈(l'.drop a).take (b-a):=by
  have:((l'.drop a).take (b-a)).getD (i-a) AD=l'.getD i AD:=by rw[Da (by omega),Db,show a+(i-a)=i by omega]
  rw[←this,B6 (by rw[List.length_take,List.length_drop];omega)]
  exact List.getElem_mem _
 obtain⟨j,hj,e⟩:=List.getElem_of_mem (N8.symm.mem hm)
 rw[List.length_take,List.length_drop]at hj
 refine⟨a+j,by omega,by omega,?_⟩
 rw[←e,←B6,Da (by omega),Db]
theorem UX(hi:i+1<l.length)(h:AN o (l.getD (i+1) AD) (l.getD i AD)<0):Ch o i (i+2) l (swp AD l i (i+1)):=by
 refine⟨B3,fun k hk=>?_,?_⟩
 ·rw[Bu (by omega) hi,if_neg (by omega),if_neg (by omega)]
 ·have d1:l=l.take i++l.getD i AD::[]++l.getD (i+1) AD::l.drop (i+2):=by
   conv=>lhs;rw[←List.take_append_drop i l,List.drop_eq_getElem_cons (show i<l.length by omega),List.drop_eq_getElem_cons hi]
   rw[B6 hi,B6 (show i<l.length by omega)];simp
  have hl:(l.take i).length=i:=by rw[List.length_take];omega
  have e:swp AD l i (i+1)=l.take i++l.getD (i+1) AD::[]++l.getD i AD::l.drop (i+2):=by
   have:=dS (d:=AD) (l.take i) [] (l.drop (i+2)) (l.getD i AD) (l.getD (i+1) AD)
   rw[hl,←d1]at this
   exact this
  rw[e]
  conv=>arg 2;rw[d1]
  have:=(Cl.refl o (l.take i)).append ((Cl.swap (o:=o) (a:=[l.getD i AD]) (b:=[l.getD (i+1) AD]) fun u hu v hv=>by simp only[List.mem_singleton]at hu hv;subst hu hv;omega).append (Cl.refl o (l.drop (i+2))))
  simpa using this
def sF(o:AB)(l:List AB)(a i j:Nat):Prop:=∀p q,a≤p→p<q→q≤i→q≠j→AN o (l.getD p AD) (l.getD q AD)≤0
theorem Wz(h:Bh o l a i):sF o l a i i:=fun p q h1 h2 h3 h4=>h.le h1 (Nat.le_of_lt h2) (by omega)
theorem Zl(h:sF o l a i j)(hj:a<j)(xH:j≤i)(hi:i<l.length)(hlt:AN o (l.getD j AD) (l.getD (j-1) AD)<0):sF o (swp AD l j (j-1)) a i (j-1)∧Ch o a (i+1) l (swp AD l j (j-1)):=by
 have e:=RO (d:=AD) (l:=l) (i:=j) (j:=j-1) (by omega) (by omega)
 have hc:=UX (o:=o) (l:=l) (i:=j-1) (by omega) (by rw[show j-1+1=j by omega];exact hlt)
 rw[show j-1+1=j by omega,←e]at hc
 refine⟨fun p q h1 h2 h3 h4=>?_,hc.mono (by omega) (by omega)⟩
 rw[Bu (by omega) (by omega),Bu (by omega) (by omega),if_neg h4]
 by_cases hq:q=j
 ·rw[if_pos hq]
  by_cases hp:p=j-1
  ·rw[if_pos hp];omega
  ·rw[if_neg hp,if_neg (by omega)];exact h p (j-1) h1 (by omega) (by omega) (by omega)
 ·rw[if_neg hq]
  by_cases hp:p=j-1
  ·rw[if_pos hp];exact h j q (by omega) (by omega) h3 hq
  ·rw[if_neg hp]
   by_cases wj:p=j
   ·rw[if_pos wj];exact h (j-1) q (by omega) (by omega) h3 hq
   ·rw[if_neg wj];exact h p q h1 h2 h3 hq
theorem Zk(h:sF o l a i j)(AE3:j≤i)(hs:j=a∨¬AN o (l.getD j AD) (l.getD (j-1) AD)<0):Bh o l a (i+1):=by
 intro p h1 h2
 by_cases hp:p+1=j
 ·rcases hs with hs|hs
  ·omega
  ·rw[hp,Ag,show p=j-1 by omega];omega
 ·exact h p (p+1) h1 (by omega) (by omega) hp
def sD(l l':List AB)(a k:Nat):Prop:=∀p,l'.getD p AD=if p<a then l.getD p AD else if p<k then l.getD (p+1) AD else if p=k then l.getD a AD else l.getD p AD
theorem Wm(l:List AB)(a:Nat):sD l l a a:=fun p=>by
 by_cases h1:p<a
 ·rw[if_pos h1]
 ·rw[if_neg h1,if_neg h1]
  split
  ·rename_i h;rw[h]
  ·rfl
theorem ZY(h:sD l l' a k)(hak:a≤k)(hk:k+1<l.length)(hl:l'.length=l.length)(hlt:AN o (l.getD (k+1) AD) (l.getD a AD)<0):sD l (swp AD l' k (k+1)) a (k+1)∧Ch o k (k+2) l' (swp AD l' k (k+1)):=by
 have e1:l'.getD k AD=l.getD a AD:=by rw[h k,if_neg (by omega),if_neg (by omega),if_pos rfl]
 have e2:l'.getD (k+1) AD=l.getD (k+1) AD:=by rw[h (k+1),if_neg (by omega),if_neg (by omega),if_neg (by omega)]
 refine⟨fun p=>?_,UX (by omega) (by rw[e1,e2];exact hlt)⟩
 rw[Bu (by omega) (by omega),e1,e2,h p]
 by_cases h1:p=k+1
 ·rw[if_pos h1,if_neg (by omega),if_neg (by omega),if_pos h1]
 ·rw[if_neg h1]
  by_cases h2:p=k
  ·rw[if_pos h2,if_neg (by omega),if_pos (by omega),h2]
  ·rw[if_neg h2]
   by_cases h3:p<a
   ·rw[if_pos h3,if_pos h3]
   ·rw[if_neg h3,if_neg h3]
    by_cases h4:p<k
    ·rw[if_pos h4,if_pos (by omega)]
    ·rw[if_neg h4,if_neg h2,if_neg (by omega),if_neg h1]
theorem eJ(h:sD l l' a (i-1))(hai:a<i)(hib:i≤b)(hs:Bh o l (a+1) b)(hlo:∀p,a+1≤p→p<i→AN o (l.getD p AD) (l.getD a AD)<0)(Lx:∀p,i≤p→p<b→0≤AN o (l.getD p AD) (l.getD a AD)):Bh o l' a b:=by
 intro p h1 h2
 rw[h p,h (p+1),if_neg (show ¬p<a by omega),if_neg (show ¬p+1<a by omega)]
 by_cases h3:p<i-1
 ·rw[if_pos h3]
  by_cases h4:p+1<i-1
  ·rw[if_pos h4];exact hs (p+1) (by omega) (by omega)
  ·rw[if_neg h4,if_pos (by omega)]
   have:=hlo (p+1) (by omega) (by omega);omega
 ·rw[if_neg h3]
  by_cases h4:p=i-1
  ·rw[if_pos h4,if_neg (by omega),if_neg (by omega)]
   have:=Lx (p+1) (by omega) (by omega)
   rw[Ag];omega
  ·rw[if_neg h4,if_neg (by omega),if_neg (by omega)]
   exact hs p (by omega) h2
def sE(l l':List AB)(m k:Nat):Prop:=∀p,l'.getD p AD=if m<p then l.getD p AD else if k<p then l.getD (p-1) AD else if p=k then l.getD m AD else l.getD p AD
theorem Wq(l:List AB)(m:Nat):sE l l m m:=fun p=>by
 by_cases h1:m<p
 ·rw[if_pos h1]
 ·rw[if_neg h1,if_neg h1]
  split
  ·rename_i h;rw[h]
  ·rfl
theorem Zb(h:sE l l' m k)(VO:0<k)(hkm:k≤m)(hm:m<l.length)(hl:l'.length=l.length)(hlt:AN o (l.getD m AD) (l.getD (k-1) AD)<0):sE l (swp AD l' k (k-1)) m (k-1)∧Ch o (k-1) (k+1) l' (swp AD l' k (k-1)):=by
 have e1:l'.getD k AD=l.getD m AD:=by rw[h k,if_neg (by omega),if_neg (by omega),if_pos rfl]
 have e2:l'.getD (k-1) AD=l.getD (k-1) AD:=by rw[h (k-1),if_neg (by omega),if_neg (by omega),if_neg (by omega)]
 have e:=RO (d:=AD) (l:=l') (i:=k) (j:=k-1) (by omega) (by omega)
 have hc:=UX (o:=o) (l:=l') (i:=k-1) (by omega) (by rw[show k-1+1=k by omega,e1,e2];exact hlt)
 rw[show k-1+1=k by omega,←e,show k-1+2=k+1 by omega]at hc
 refine⟨fun p=>?_,hc⟩
 rw[Bu (by omega) (by omega),e1,e2,h p]
 by_cases h1:p=k-1
 ·rw[if_pos h1,if_neg (by omega),if_neg (by omega),if_pos h1]
 ·rw[if_neg h1]
  by_cases h2:p=k
  ·rw[if_pos h2,if_neg (by omega),if_pos (by omega),h2]
  ·rw[if_neg h2]
   by_cases h3:m<p
   ·rw[if_pos h3,if_pos h3]
   ·rw[if_neg h3,if_neg h3]
    by_cases h4:k<p
    ·rw[if_pos h4,if_pos (by omega)]
    ·rw[if_neg h4,if_neg h2,if_neg (by omega),if_neg h1]
theorem eK(h:sE l l' m i)(UA:i≤m)(hai:a≤i)(hs:Bh o l a m)(hlo:∀p,a≤p→p<i→0≤AN o (l.getD m AD) (l.getD p AD))(Lx:∀p,i≤p→p<m→AN o (l.getD m AD) (l.getD p AD)<0):Bh o l' a (m+1):=by
 intro p h1 h2
 rw[h p,h (p+1),if_neg (show ¬m<p by omega),if_neg (show ¬m<p+1 by omega)]
 by_cases h3:i<p
 ·rw[if_pos h3,if_pos (by omega),Nat.add_sub_cancel]
  have:=hs (p-1) (by omega) (by omega)
  rwa [show p-1+1=p by omega]at this
 ·rw[if_neg h3]
  by_cases h4:p=i
  ·rw[if_pos h4,if_pos (by omega),Nat.add_sub_cancel]
   have:=Lx p (by omega) (by omega);omega
  ·rw[if_neg h4,if_neg (by omega)]
   by_cases h5:p+1=i
   ·rw[if_pos h5]
    have:=hlo p (by omega) (by omega)
    rw[Ag];omega
   ·rw[if_neg h5];exact hs p h1 (by omega)
end
section
variable {α : Type} {lt : α → α → Bool} {f g : Nat → α} {n x i j : Nat}
structure cX (lt:α→α→Bool):Prop where
 asym:∀a b,lt a b=true→lt b a=false
 trans:∀a b c,lt b a=false→lt c b=false→lt c a=false
def par(j:Nat):Nat:=(j-1)/2
def Hp(lt:α→α→Bool)(f:Nat→α)(n:Nat):Prop:=∀j,0<j→j<n→lt (f j) (f (par j))=false
def Xo(lt:α→α→Bool)(f:Nat→α)(n x:Nat):Prop:=(∀j,0<j→j<n→par j≠x→lt (f j) (f (par j))=false)∧(0<x→∀j,0<j→j<n→par j=x→lt (f j) (f (par x))=false)
def gE(lt:α→α→Bool)(f:Nat→α)(n x:Nat):Prop:=(∀j,0<j→j<n→j≠x→lt (f j) (f (par j))=false)∧(0<x→∀j,0<j→j<n→par j=x→lt (f j) (f (par x))=false)
def zY(f g:Nat→α)(i j:Nat):Prop:=∀p,g p=if p=i then f j else if p=j then f i else f p
theorem IQ(h:0<j):par j<j:=by unfold par;omega
theorem Hp.jG(h:∀j,0<j→j<n→par j≠0→lt (f j) (f (par j))=false):Xo lt f n 0:=⟨h,fun h=>by omega⟩
theorem Xo.leaf(h:Xo lt f n x)(hn:n≤2*x+1):Hp lt f n:=fun j h0 h1=>h.1 j h0 h1 (by unfold par;omega)
theorem Xo.stop(ho:cX lt)(h:Xo lt f n x){c:Nat}(hle:lt (f c) (f x)=false)(IW:∀j,0<j→j<n→par j=x→lt (f j) (f c)=false):Hp lt f n:=fun j h0 h1=>by
 by_cases hx:par j=x
 ·rw[hx];exact ho.trans _ _ _ hle (IW j h0 h1 hx)
 ·exact h.1 j h0 h1 hx
theorem Xo.step(ho:cX lt)(h:Xo lt f n x){c:Nat}(hc:c=2*x+1∨c=2*x+2)(QV:c<n)(hlt:lt (f c) (f x)=true)(IW:∀j,0<j→j<n→par j=x→lt (f j) (f c)=false)(hg:zY f g x c):Xo lt g n c:=by
 have oL:par c=x:=by unfold par;omega
 have hxc:x≠c:=by omega
 have gx:g x=f c:=by rw[hg x,if_pos rfl]
 have gc:g c=f x:=by rw[hg c,if_neg (fun e=>hxc e.symm),if_pos rfl]
 have gp:∀p,p≠x→p≠c→g p=f p:=fun p h1 h2=>by rw[hg p,if_neg h1,if_neg h2]
 refine⟨fun j h0 h1 hj=>?_,fun _ j h0 h1 hj=>?_⟩
 ·by_cases SJ:par j=x
  ·rw[SJ,gx]
   by_cases oO:j=c
   ·rw[oO,gc];exact ho.asym _ _ hlt
   ·have:j≠x:=by unfold par at SJ;omega
    rw[gp j this oO];exact IW j h0 h1 SJ
  ·rw[gp (par j) SJ hj]
   by_cases qt:j=x
   ·rw[qt,gx]
    exact h.2 (by omega) c (by omega) QV oL
   ·have:j≠c:=fun e=>SJ (by rw[e];exact oL)
    rw[gp j qt this];exact h.1 j h0 h1 SJ
 ·have SJ:j≠x:=by unfold par at hj;omega
  have oO:j≠c:=by unfold par at hj;omega
  rw[gp j SJ oO,oL,gx,←hj]
  exact h.1 j h0 h1 (by rw[hj];exact fun e=>hxc e.symm)
theorem gE.root(h:gE lt f n 0):Hp lt f n:=fun j h0 h1=>h.1 j h0 h1 (by omega)
theorem gE.stop(h:gE lt f n x)(hle:lt (f x) (f (par x))=false):Hp lt f n:=fun j h0 h1=>by
 by_cases hx:j=x
 ·rw[hx];exact hle
 ·exact h.1 j h0 h1 hx
theorem gE.step(ho:cX lt)(h:gE lt f n x)(hx:0<x)(hxn:x<n)(hlt:lt (f x) (f (par x))=true)(hg:zY f g (par x) x):gE lt g n (par x):=by
 have Dy:=IQ hx
 have gp:g (par x)=f x:=by rw[hg,if_pos rfl]
 have gx:g x=f (par x):=by rw[hg,if_neg (by omega),if_pos rfl]
 have go:∀p,p≠par x→p≠x→g p=f p:=fun p h1 h2=>by rw[hg p,if_neg h1,if_neg h2]
 refine⟨fun j h0 h1 hj=>?_,fun hp j h0 h1 hj=>?_⟩
 ·by_cases SJ:j=x
  ·rw[SJ,gx,gp];exact ho.asym _ _ hlt
  ·rw[go j hj SJ]
   by_cases h2:par j=x
   ·rw[h2,gx];exact h.2 hx j h0 h1 h2
   ·by_cases h3:par j=par x
    ·rw[h3,gp]
     exact ho.trans _ _ _ (ho.asym _ _ hlt) (h3▸h.1 j h0 h1 SJ)
    ·rw[go _ h3 h2];exact h.1 j h0 h1 SJ
 ·have h4:=IQ hp
  have NI:lt (f (par x)) (f (par (par x)))=false:=h.1 (par x) hp (by omega) (by omega)
  rw[go (par (par x)) (by omega) (by omega)]
  by_cases SJ:j=x
  ·rw[SJ,gx];exact NI
  ·have hjp:j≠par x:=fun e=>by rw[e]at hj;omega
   rw[go j hjp SJ]
   exact ho.trans _ _ _ NI (hj▸h.1 j h0 h1 SJ)
theorem Hp.least(ho:cX lt)(h:Hp lt f n)(hr:∀a,lt a a=false):∀j,j<n→lt (f j) (f 0)=false:=fun j=>by
 induction j using Nat.strongRecOn with
 |ind j ih=>
  intro hj
  rcases Nat.eq_zero_or_pos j with rfl|h0
  ·exact hr _
  ·have h1:=IQ h0
   exact ho.trans _ _ _ (ih (par j) h1 (by omega)) (h j h0 hj)
end
theorem GV{α:Type}[DecidableEq α]{d:α}{l:List α}{i j:Nat}(hi:i<l.length)(hj:j<l.length):(swp d l i j).Perm l:=by
 refine List.perm_iff_count.2 fun a=>?_
 have ei:l.getD i d=l[i]:=by rw[List.getD_eq_getElem?_getD,List.getElem?_eq_getElem hi];rfl
 have ej:l.getD j d=l[j]:=by rw[List.getD_eq_getElem?_getD,List.getElem?_eq_getElem hj];rfl
 unfold swp
 rw[List.count_set (by rw[List.length_set];exact hj),List.count_set hi,List.getElem_set,ei,ej]
 have h1:(l[i]==a)=true→0<l.count a:=fun h=>List.count_pos_iff.2 (by rw[←eq_of_beq h];exact List.getElem_mem hi)
 have h2:(l[j]==a)=true→0<l.count a:=fun h=>List.count_pos_iff.2 (by rw[←eq_of_beq h];exact List.getElem_mem hj)
 by_cases Fa:i=j
 ·subst Fa
  rw[if_pos rfl]
  split
  ·next h=>have:=h1 h;omega
  ·omega
 ·rw[if_neg Fa]
  by_cases g1:(l[i]==a)=true
  ·have:=h1 g1
   by_cases g2:(l[j]==a)=true
   ·simp only[g1,g2,if_true];omega
   ·simp only[g1,Bool.eq_false_iff.2 g2,if_true,Bool.false_eq_true,if_false];omega
  ·by_cases g2:(l[j]==a)=true
   ·have:=h2 g2
    simp only[Bool.eq_false_iff.2 g1,g2,if_true,Bool.false_eq_true,if_false];omega
   ·simp only[Bool.eq_false_iff.2 g1,Bool.eq_false_iff.2 g2,Bool.false_eq_true,if_false];omega
def takeN(S:Sp)(m:Nat):Sp×Nat×Nat×Nat:=
 if m=0 then (S,0,0,0)else if (Cg S m).2.2=0 then ((Cg S m).1,(Cg S m).2.1,m,0)else ((Cg S m).1,0,0,(Cg S m).2.2)
def At(S:Sp)(f m:Nat):Sp:=if m=0 then S else (CO S f m).1
theorem AQ.own{w w1 w2 w3:World}{G:Nat→Prop}{p:Wp}{F:Fs}{n g:Nat}(h:AQ w1 G p F n w2)(hb:Below w.heap.size w w1)(EW:w.heap.size≤g)(CE:g<w1.heap.size)(hG:∀k,G k→k<w.heap.size)(hst:∀q∈F.A.st,q.1≠g)(hf:AK (fun k=>k=g) w2 w3):AQ w G p F n w3:=by
 obtain⟨G',h1,h2,h3⟩:=h
 refine⟨G',h1.CU hf (fun k hk e=>?_) hst,((AK.AJ hb G).trans h2 fun b hb'=>.inl hb').trans hf fun b e=>.inr (by rw[e];exact EW),fun k hk=>(h3 k hk).imp id fun h=>Nat.le_trans hb.size h⟩
 subst e
 rcases h3 k hk with h4|h4
 ·have:=hG k h4;omega
 ·omega
theorem AK.one{w:World}(g i:Nat)(v:Value):AK (fun k=>k=g) w (w.setCell ⟨g,i,none⟩ v):=(AK.refl (fun k=>k=g) w).set (p:=⟨g,i,none⟩) (.inl rfl) v
theorem AK.two(w:World)(g i j:Nat)(u v:Value):AK (fun k=>k=g) w ((w.setCell ⟨g,i,none⟩ u).setCell ⟨g,j,none⟩ v):=(AK.one g i u).set (p:=⟨g,j,none⟩) (.inl rfl) v
theorem K8{w:World}{G:Nat→Prop}{p:Wp}{F:Fs}{n:Nat}(h:Sys w G p F n)(m:Nat)(hm:m≤100000000):
  Calls Tryz.prog 61 #[.pointer (some ⟨p.w,0,none⟩),.int .i64 m] w fun e w'=>e=.returned (.tuple #[.agg #[.int .i64 (takeN F.S m).2.1,.int .i64 (takeN F.S m).2.2.1],.int .i64 (takeN F.S m).2.2.2])∧AQ w G p {F with S:=(takeN F.S m).1} n w':=by
 have Aj:=(Below.refl w.heap.size w).alloc (Nat.le_refl _) (.cells #[.int .i64 0,.int .i64 0] 80)
 have hrow:Row (w.alloc (.cells #[.int .i64 0,.int .i64 0] 80)) w.heap.size 80 [.int .i64 0,.int .i64 0]:=heap_alloc_new _ _
 have h1:=h.below Aj
 by_cases hm0:m=0
 ·subst hm0
  have e0:takeN F.S 0=(F.S,0,0,0):=rfl
  rw[e0]
  have HX:Hid (AQ w G p F n (w.alloc (.cells #[.int .i64 0,.int .i64 0] 80))):=AQ.AJ h Aj
  have r0:=hrow.cell 0
  have r1:=hrow.cell 1
  clear h h1 Aj hrow e0
  go_enter Tryz.func61,Tryz.ntmps61
  go_wp2
  refine bodyPost_ret (v:=.tuple #[.agg #[.int .i64 0,.int .i64 0],.int .i64 0]) (by simp[results,Tryz.results61,go_sem,r0,r1]) rfl ⟨rfl,HX.out⟩
 ·have g0:((m:Int)==0)=false:=by simpa using hm0
  have c2:(w.alloc (.cells #[.int .i64 0,.int .i64 0] 80)).cell? ⟨p.w,2,none⟩=some (.pointer (some ⟨p.s,0,none⟩)):=h1.row.cell 2
  have hlt:=fun k hk=>h.lt (k:=k) hk
  have NM:∀q∈F.A.st,q.1≠w.heap.size:=fun q hq e=>by have:=(h.buf hq).1.lt;omega
  obtain⟨Gs,hs,Ef⟩:=h1.pR
  have ht:=Yc p.s F.S Gs m _ hs (Ff.of (by omega) (by omega))
  have hz:(w.alloc (.cells #[.int .i64 0,.int .i64 0] 80)).heap.size=w.heap.size+1:=by simp
  have HE:Hid (takeN F.S m=if (Cg F.S m).2.2=0 then ((Cg F.S m).1,(Cg F.S m).2.1,m,0)else ((Cg F.S m).1,0,0,(Cg F.S m).2.2)):=by unfold Hid takeN;rw[if_neg hm0]
  have HT:=Lib.hid ht
  have Uo:=Lib.hid Ef
  have Df:=Lib.hid hrow
  have HB:=Lib.hid Aj
  have Jv:=Lib.hid hlt
  have nr:=Lib.hid NM
  have HZ:=Lib.hid hz
  rw[HE.out]
  clear ht Ef hrow Aj hlt NM h h1 hs HE hz
  generalize Cg F.S m=q at*
  obtain⟨S',a,er⟩:=q
  simp only at HT⊢
  by_cases he:er=0
  ·subst he
   rw[if_pos rfl]
   go_enter Tryz.func61,Tryz.ntmps61
   go_wp2_with fail
   refine HT.out.mono ?_;rintro e w2 ⟨rfl,hn⟩
   have T0:=Uo.out _ _ hn
   have CE:Row w2 w.heap.size 80 [.int .i64 0,.int .i64 0]:=by
    obtain⟨G',k1,k2,k3⟩:=T0
    exact k2.row Df.out fun hg=>by have:=Jv.out _ hg;omega
   have JN:Hid (∀w3,AK (fun k=>k=w.heap.size) w2 w3→AQ w G p {F with S:=S'} n w3):=fun w3 hf=>T0.own HB.out (Nat.le_refl _) (by rw[HZ.out];omega) Jv.out nr.out hf
   have b0:w2.cell? ⟨w.heap.size,0,none⟩=some (.int .i64 0):=CE.cell 0
   have b1:w2.cell? ⟨w.heap.size,1,none⟩=some (.int .i64 0):=CE.cell 1
   have f0:=CE.free 0
   have f1:=CE.free 1
   have YI:=Lib.hid CE
   clear T0 hn CE Uo HT
   go_wp2
   have Ds:Row ((w2.setCell ⟨w.heap.size,0,none⟩ (.int .i64 (a:Int))).setCell ⟨w.heap.size,1,none⟩ (.int .i64 (m:Int))) w.heap.size 80 [.int .i64 (a:Int),.int .i64 (m:Int)]:=(YI.out.set 0 _).set 1 _
   have r0:=Ds.cell 0
   have r1:=Ds.cell 1
   refine bodyPost_ret (v:=.tuple #[.agg #[.int .i64 (a:Int),.int .i64 (m:Int)],.int .i64 0]) (by simp[results,Tryz.results61,go_sem,r0,r1]) rfl ⟨rfl,JN.out _ (AK.two _ _ _ _ _ _)⟩
  ·rw[if_neg he]
   have g1:((er:Int) !=0)=true:=by simpa using he
   go_enter Tryz.func61,Tryz.ntmps61
   go_wp2_with fail
   refine HT.out.mono ?_;rintro e w2 ⟨rfl,hn⟩
   have T0:=Uo.out _ _ hn
   have CE:Row w2 w.heap.size 80 [.int .i64 0,.int .i64 0]:=by
    obtain⟨G',k1,k2,k3⟩:=T0
    exact k2.row Df.out fun hg=>by have:=Jv.out _ hg;omega
   have JN:Hid (∀w3,AK (fun k=>k=w.heap.size) w2 w3→AQ w G p {F with S:=S'} n w3):=fun w3 hf=>T0.own HB.out (Nat.le_refl _) (by rw[HZ.out];omega) Jv.out nr.out hf
   have b0:w2.cell? ⟨w.heap.size,0,none⟩=some (.int .i64 0):=CE.cell 0
   have b1:w2.cell? ⟨w.heap.size,1,none⟩=some (.int .i64 0):=CE.cell 1
   have f0:=CE.free 0
   have f1:=CE.free 1
   have YI:=Lib.hid CE
   clear T0 hn CE Uo HT
   go_wp2
   have Ds:Row ((w2.setCell ⟨w.heap.size,0,none⟩ (.int .i64 0)).setCell ⟨w.heap.size,1,none⟩ (.int .i64 0)) w.heap.size 80 [.int .i64 0,.int .i64 0]:=(YI.out.set 0 _).set 1 _
   have r0:=Ds.cell 0
   have r1:=Ds.cell 1
   refine bodyPost_ret (v:=.tuple #[.agg #[.int .i64 0,.int .i64 0],.int .i64 (er:Int)]) (by simp[results,Tryz.results61,go_sem,r0,r1]) rfl ⟨rfl,JN.out _ (AK.two _ _ _ _ _ _)⟩
theorem AQ.cell{w w1:World}{G:Nat→Prop}{p:Wp}{F:Fs}{n:Nat}(h:AQ w G p F n w1):w1.cell? ⟨p.w,0,none⟩=some (.pointer (some ⟨p.d,0,none⟩))∧w1.cell? ⟨p.w,1,none⟩=some (.pointer (some ⟨p.a,0,none⟩))∧w1.cell? ⟨p.w,2,none⟩=some (.pointer (some ⟨p.s,0,none⟩)):=by
 obtain⟨G',h1,_⟩:=h
 exact⟨h1.row.cell 0,h1.row.cell 1,h1.row.cell 2⟩
theorem AQ.row{w w1:World}{G:Nat→Prop}{p:Wp}{F:Fs}{n g:Nat}{t:TypeId}{cs:List Value}(h:AQ w G p F n w1)(hr:Row w g t cs)(hg:¬G g):Row w1 g t cs:=by
 obtain⟨G',h1,h2,_⟩:=h
 exact h2.row hr hg
theorem AQ.trans{w w1 w':World}{G:Nat→Prop}{p:Wp}{F F':Fs}{n n':Nat}(h:AQ w G p F n w1)(h2:∀G',Sys w1 G' p F n→(∀k,G' k→G k∨w.heap.size≤k)→AQ w1 G' p F' n' w'):AQ w G p F' n' w':=by
 obtain⟨G',h1,h3,h4⟩:=h
 obtain⟨Cu,k1,k2,k3⟩:=h2 G' h1 h4
 exact⟨Cu,k1,h3.trans k2 h4,fun k hk=>(k3 k hk).elim (fun h=>h4 k h) fun h=>.inr (Nat.le_trans h3.size h)⟩
theorem PM{w:World}{G:Nat→Prop}{p:Wp}{F:Fs}{n:Nat}(h:Sys w G p F n)(f m:Nat)(hf:f≤100000000)(hm:m≤100000000):
  Calls Tryz.prog 64 #[.pointer (some ⟨p.w,0,none⟩),.agg #[.int .i64 f,.int .i64 m]] w fun e w'=>e=.returned (.tuple #[])∧AQ w G p {F with S:=At F.S f m} n w':=by
 have Aj:=(Below.refl w.heap.size w).alloc (Nat.le_refl _) (.cells #[.int .i64 f,.int .i64 m] 80)
 have hrow:Row (w.alloc (.cells #[.int .i64 f,.int .i64 m] 80)) w.heap.size 80 [.int .i64 f,.int .i64 m]:=heap_alloc_new _ _
 have VK:¬G w.heap.size:=fun hg=>by have:=h.lt hg;omega
 by_cases hm0:m=0
 ·subst hm0
  have e0:At F.S f 0=F.S:=rfl
  rw[e0]
  have HX:Hid (AQ w G p F n (w.alloc (.cells #[.int .i64 f,.int .i64 0] 80))):=AQ.AJ h Aj
  clear h Aj hrow e0
  go_enter Tryz.func64,Tryz.ntmps64
  go_wp2
  go_end0
  exact⟨rfl,HX.out⟩
 ·have g0:decide ((m:Int)>0)=true:=by simp;omega
  have e0:At F.S f m=(CO F.S f m).1:=by unfold At;rw[if_neg hm0]
  have h1:=h.below Aj
  have jY:Hid (∀q,Calls Tryz.prog 78 #[.pointer (some ⟨p.s,0,none⟩),.int .i64 f,.int .i64 m] ((w.alloc (.cells #[.int .i64 f,.int .i64 m] 80)).drewN q) fun e w'=>e=.returned (.int .i64 ((CO F.S f m).2:Nat))∧AQ ((w.alloc (.cells #[.int .i64 f,.int .i64 m] 80)).drewN q) G p {F with S:=(CO F.S f m).1} n w'):=fun q=>by
   obtain⟨Gs,hs,Ef⟩:=(h1.below (AG (Below.refl _ _) q)).pR
   exact(SR p.s F.S Gs f m _ hs (Ff.of (by omega) (by omega)) (Ff.of (by omega) (by omega))).mono fun e w' ⟨he,hn⟩=>⟨he,Ef _ _ hn⟩
  have c2:(w.alloc (.cells #[.int .i64 f,.int .i64 m] 80)).cell? ⟨p.w,2,none⟩=some (.pointer (some ⟨p.s,0,none⟩)):=h1.row.cell 2
  have b0:(w.alloc (.cells #[.int .i64 f,.int .i64 m] 80)).cell? ⟨w.heap.size,0,none⟩=some (.int .i64 f):=hrow.cell 0
  have b1:(w.alloc (.cells #[.int .i64 f,.int .i64 m] 80)).cell? ⟨w.heap.size,1,none⟩=some (.int .i64 m):=hrow.cell 1
  have HB:=Lib.hid Aj
  have Df:=Lib.hid hrow
  rw[e0]
  clear h1 h Aj hrow e0
  generalize CO F.S f m=q at*
  go_enter Tryz.func64,Tryz.ntmps64
  go_wp2
  generalize w.alloc (.cells #[.int .i64 f,.int .i64 m] 80)=w1 at*
  have e0:w1.drew.cell? ⟨p.w,2,none⟩=some (.pointer (some ⟨p.s,0,none⟩)):=c2
  have e1:w1.drew.cell? ⟨w.heap.size,0,none⟩=some (.int .i64 (f:Int)):=b0
  have e2:w1.drew.cell? ⟨w.heap.size,1,none⟩=some (.int .i64 (m:Int)):=b1
  go_region_held3 (fun w'=>w'.cell? ⟨p.w,2,none⟩=some (.pointer (some ⟨p.s,0,none⟩))∧w'.cell? ⟨w.heap.size,0,none⟩=some (.int .i64 (f:Int))∧w'.cell? ⟨w.heap.size,1,none⟩=some (.int .i64 (m:Int))) (first|with_reducible exact⟨e0,e1,e2⟩|with_reducible exact⟨d0,d1,d2⟩)
   (first
    |(go_at_call 78;refine(jY.out 1).mono ?_;rintro e w5 ⟨rfl,h5⟩;have d0:=h5.cell.2.2;have d1:w5.cell? ⟨w.heap.size,0,none⟩=some (.int .i64 (f:Int)):=(h5.row (Df.out.drewN 1) VK).cell 0;have d2:w5.cell? ⟨w.heap.size,1,none⟩=some (.int .i64 (m:Int)):=(h5.row (Df.out.drewN 1) VK).cell 1))
  go_wp2
  go_end0
  exact⟨rfl,h5.behind (AG HB.out 1)⟩
structure Wt where
 k:Nat
 h:Nat
 bound:Nat
 first:Nat
 blocks:Nat
 b:Nat
 g:Nat
 l:List AB
def RB(p:Wp)(t:Wt):List Value:=[.int .i64 t.k,.int .i64 t.h,.pointer (some ⟨p.w,0,none⟩),.int .i64 t.bound,.int .i64 (t.l.length:Nat),.int .i64 t.first,.int .i64 t.blocks,.pointer (some ⟨t.b,0,none⟩)]
structure B8 (t:Wt) (sz:Nat):Prop where
 k:0<t.k∧t.k≤5
 h:0<t.h∧t.h*t.k≤sz-2∧t.h≤254
 sz:8≤sz∧sz≤256
 bound:t.bound≤100000000∧t.l.length≤t.bound
 blocks:t.blocks=AA t.h t.bound∧t.blocks≤2000000
 first:t.first≤2000000
def Bk(w:World)(G:Nat→Prop)(b:Nat)(p:Wp)(F:Fs)(n:Nat)(w':World):Prop:=
 ∃G',Sys w' G' p F n∧AK (fun k=>G k∨k=b) w w'∧(∀k,G' k→G k∨w.heap.size≤k)∧Row w' b 126 [.slice none 0 0]
theorem Bk.behind{w w1 w':World}{G:Nat→Prop}{b n:Nat}{p:Wp}{F:Fs}(hb:Below w.heap.size w w1)(h:Bk w1 G b p F n w'):Bk w G b p F n w':=by
 obtain⟨G',h1,h2,h3,h4⟩:=h
 exact⟨G',h1,(AK.AJ hb (fun k=>G k∨k=b)).trans h2 fun b hb'=>.inl hb',fun k hk=>(h3 k hk).imp id fun h=>Nat.le_trans hb.size h,h4⟩
theorem Bk.cell{w w1:World}{G:Nat→Prop}{b n:Nat}{p:Wp}{F:Fs}(h:Bk w G b p F n w1):w1.cell? ⟨p.w,0,none⟩=some (.pointer (some ⟨p.d,0,none⟩))∧w1.cell? ⟨p.w,1,none⟩=some (.pointer (some ⟨p.a,0,none⟩))∧w1.cell? ⟨p.w,2,none⟩=some (.pointer (some ⟨p.s,0,none⟩)):=by
 obtain⟨G',h1,_⟩:=h
 exact⟨h1.row.cell 0,h1.row.cell 1,h1.row.cell 2⟩
theorem Bk.row{w w1:World}{G:Nat→Prop}{b n g:Nat}{p:Wp}{F:Fs}{t:TypeId}{cs:List Value}(h:Bk w G b p F n w1)(hr:Row w g t cs)(hg:¬G g)(hb:g≠b):Row w1 g t cs:=by
 obtain⟨G',h1,h2,_⟩:=h
 exact h2.row hr fun h=>h.elim hg hb
theorem Bk.ahead{w w1 w':World}{G:Nat→Prop}{b n:Nat}{p:Wp}{F F':Fs}{n':Nat}(h:AQ w G p F n w1)(hb:b<w.heap.size)(hG:¬G b)(h2:∀G',Sys w1 G' p F n→(∀k,G' k→G k∨w.heap.size≤k)→¬G' b→Bk w1 G' b p F' n' w'):Bk w G b p F' n' w':=by
 obtain⟨G',h1,h3,h4,h5⟩:=h.apart
 obtain⟨Cu,k1,k2,k3,k4⟩:=h2 G' h1 h4 (h5 b hb hG)
 refine⟨Cu,k1,(h3.mono fun k hk=>.inl hk).trans k2 fun k hk=>hk.elim (fun h=>(h4 k h).imp_left .inl) fun h=>.inl (.inr h),fun k hk=>(k3 k hk).elim (fun h=>h4 k h) fun h=>.inr (Nat.le_trans h3.size h),k4⟩
theorem Bk.from{w w1 w':World}{G G':Nat→Prop}{b n:Nat}{p:Wp}{F:Fs}(h1:AK G w w1)(h2:∀k,G' k→G k∨w.heap.size≤k)(h:Bk w1 G' b p F n w'):Bk w G b p F n w':=by
 obtain⟨Cu,k1,k2,k3,k4⟩:=h
 exact⟨Cu,k1,(h1.mono fun k hk=>.inl hk).trans k2 fun k hk=>hk.elim (fun h=>(h2 k h).imp_left .inl) fun h=>.inl (.inr h),fun k hk=>(k3 k hk).elim (fun h=>h2 k h) fun h=>.inr (Nat.le_trans h1.size h),k4⟩
theorem IJ{w:World}{G:Nat→Prop}{p:Wp}{F:Fs}{n:Nat}(h:Sys w G p F n){b m:Nat}(hb:wordsAt F.A.st b=some m):
  Calls Tryz.prog 80 #[.pointer (some ⟨p.a,0,none⟩),.pointer (some ⟨b,0,none⟩)] w fun e w'=>e=.returned (.bool true)∧Bk w G b p {F with A:=release F.A b m} n w':=by
 obtain⟨NM,QW⟩:=h.buf (EH _ _ _ hb)
 obtain⟨Ga,ha,_,hrel⟩:=h.sA
 refine(Rh p.a F.A Ga b m w ha NM hb).mono ?_
 rintro e w' ⟨he,h1,h2,h3⟩
 obtain⟨k1,k2⟩:=hrel w' b m h1 h3 QW
 exact⟨he,G,k1,k2,fun k hk=>.inl hk,h2⟩
section
variable {w : World} {x : Nat} {p : Wp} {t : Wt}
theorem DX{A:Option Addr}{m c:Nat}(hr:Row w x 122 (RB p t))(hb:Row w t.b 126 [.slice A m c]):Calls Tryz.prog 65 #[.pointer (some ⟨x,0,none⟩)] w fun e w'=>e=.returned (.bool (!decide (0<m)))∧w'=w:=by
 have c7:w.cell? ⟨x,7,none⟩=some (.pointer (some ⟨t.b,0,none⟩)):=hr.cell 7
 have HS:=Lib.hid (RP hb)
 clear hb hr
 go_enter Tryz.func65,Tryz.ntmps65
 go_wp2_with fail
 refine HS.out.mono ?_;rintro e w1 ⟨rfl,rfl⟩
 go_wp2
 go_ret
 exact⟨Di (by simp),rfl⟩
end
def Dx(F:Fs)(t:Wt)(kept:Nat):Fs:={F with S:=At F.S (t.first+kept) (t.blocks-kept),A:=release F.A t.b F.D.size}
theorem Mb{w:World}{G:Nat→Prop}{p:Wp}{F:Fs}{n x:Nat}{t:Wt}(h:Sys w G p F n)(hr:Row w x 122 (RB p t))(hx:¬G x)(hst:wordsAt F.A.st t.b=some F.D.size)(Jt:x≠t.b)(hf:t.first≤2000000)(IB:t.blocks≤2000000)(kept:Nat)(hk:kept≤t.blocks):
  Calls Tryz.prog 66 #[.pointer (some ⟨x,0,none⟩),.int .i64 kept] w fun e w'=>e=.returned (.tuple #[])∧Bk w G t.b p (Dx F t kept) n w':=by
 obtain⟨_,QW⟩:=h.buf (EH _ _ _ hst)
 have xj:t.b<w.heap.size:=(h.buf (EH _ _ _ hst)).1.lt
 have K0:=Row.lt hr
 have jY:Hid (Calls Tryz.prog 64 #[.pointer (some ⟨p.w,0,none⟩),.agg #[.int .i64 (t.first+kept:Nat),.int .i64 (t.blocks-kept:Nat)]] w.drew fun e w'=>e=.returned (.tuple #[])∧AQ w G p {F with S:=At F.S (t.first+kept) (t.blocks-kept)} n w'):=
  (PM (h.below (AH (Below.refl _ w))) _ _ (by omega) (by omega)).mono fun e w' ⟨he,h1⟩=>⟨he,h1.behind (AH (Below.refl _ w))⟩
 have ou:Hid (∀w1,AQ w G p {F with S:=At F.S (t.first+kept) (t.blocks-kept)} n w1→Calls Tryz.prog 80 #[.pointer (some ⟨p.a,0,none⟩),.pointer (some ⟨t.b,0,none⟩)] w1.drew fun e w'=>e=.returned (.bool true)∧Bk w G t.b p (Dx F t kept) n w'∧Row w' x 122 (RB p t)):=fun w1 h1=>by
  have BS:=h1.row hr hx
  obtain⟨G',k1,k2,k3,k4⟩:=h1.apart
  refine(IJ (k1.below (AH (Below.refl _ w1))) (show wordsAt F.A.st t.b=some F.D.size from hst)).mono fun e w' ⟨he,h2⟩=>⟨he,?_⟩
  obtain⟨Cu,m1,m2,m3,m4⟩:=h2
  have zy:AK (fun k=>G' k∨k=t.b) w1 w':=⟨m2.os,m2.tape,m2.output,m2.size,m2.block⟩
  refine⟨⟨Cu,m1,(k2.mono fun k hk=>.inl hk).trans zy fun k hk=>hk.elim (fun h=>(k3 k h).imp_left .inl) fun h=>.inl (.inr h),fun k hk=>(m3 k hk).elim (fun h=>k3 k h) fun h=>.inr (Nat.le_trans k2.size h),m4⟩,zy.row BS ?_⟩
  rintro(h5|h5)
  ·exact k4 x K0 hx h5
  ·exact Jt h5
 have Df:Hid (∀w1,AQ w G p {F with S:=At F.S (t.first+kept) (t.blocks-kept)} n w1→Row w1 x 122 (RB p t)):=fun w1 h1=>h1.row hr hx
 generalize Dx F t kept=F2 at*
 obtain⟨tk,th,bound,first,blocks,b,g,l⟩:=t
 simp only[RB]at*
 generalize l.length=cnt at*
 generalize({F with S:=At F.S (first+kept) (blocks-kept)}:Fs)=F1 at*
 obtain⟨u,hu⟩:∃u,first+kept=u:=⟨_,rfl⟩
 obtain⟨v,hv⟩:∃v,blocks-kept=v:=⟨_,rfl⟩
 rw[hu,hv]at jY
 have K5:(first:Int)+(kept:Int)=(u:Int):=by omega
 have GL:(blocks:Int)-(kept:Int)=(v:Int):=by omega
 have N4:u≤4000000:=by omega
 have Zu:v≤2000000:=by omega
 have c2:w.drew.cell? ⟨x,2,none⟩=some (.pointer (some ⟨p.w,0,none⟩)):=hr.cell 2
 have c5:w.drew.cell? ⟨x,5,none⟩=some (.int .i64 first):=hr.cell 5
 have c6:w.drew.cell? ⟨x,6,none⟩=some (.int .i64 blocks):=hr.cell 6
 have b2:w.cell? ⟨x,2,none⟩=some (.pointer (some ⟨p.w,0,none⟩)):=hr.cell 2
 have b5:w.cell? ⟨x,5,none⟩=some (.int .i64 first):=hr.cell 5
 have b6:w.cell? ⟨x,6,none⟩=some (.int .i64 blocks):=hr.cell 6
 clear hu hv hr h hst hk IB hf hx Jt xj QW K0
 have hwu:IntKind.i64.wrap (u:Int)=(u:Int):=IntWalk.i64_in _ (by omega)
 have hwv:IntKind.i64.wrap (v:Int)=(v:Int):=IntWalk.i64_in _ ⟨by clear hwu;omega,by clear hwu;omega⟩
 go_enter Tryz.func66,Tryz.ntmps66
 go_wp2
 go_region_held3 (fun w'=>w'.cell? ⟨x,2,none⟩=some (.pointer (some ⟨p.w,0,none⟩))∧w'.cell? ⟨x,5,none⟩=some (.int .i64 (first:Int))∧w'.cell? ⟨x,6,none⟩=some (.int .i64 (blocks:Int))) (first|with_reducible exact⟨c2,c5,c6⟩|with_reducible exact⟨d2,d5,d6⟩)
  (first
   |(go_at_call 64;refine jY.out.mono ?_;rintro e w1 ⟨rfl,h1⟩;have BS:=Df.out _ h1;have d2:w1.cell? ⟨x,2,none⟩=some (.pointer (some ⟨p.w,0,none⟩)):=BS.cell 2;have d5:w1.cell? ⟨x,5,none⟩=some (.int .i64 (first:Int)):=BS.cell 5;have d6:w1.cell? ⟨x,6,none⟩=some (.int .i64 (blocks:Int)):=BS.cell 6))
 have e2:w1.drew.cell? ⟨x,2,none⟩=some (.pointer (some ⟨p.w,0,none⟩)):=d2
 have d7:w1.cell? ⟨x,7,none⟩=some (.pointer (some ⟨b,0,none⟩)):=BS.cell 7
 have e7:w1.drew.cell? ⟨x,7,none⟩=some (.pointer (some ⟨b,0,none⟩)):=BS.cell 7
 have d1:=h1.cell.2.1
 have e1:w1.drew.cell? ⟨p.w,1,none⟩=some (.pointer (some ⟨p.a,0,none⟩)):=d1
 have ym:=Lib.hid (ou.out w1 h1)
 clear h1 BS jY Df ou c2 c5 c6 b2 b5 b6 d5 d6
 go_wp2
 go_region_held3 (fun w'=>w'.cell? ⟨x,2,none⟩=some (.pointer (some ⟨p.w,0,none⟩))∧w'.cell? ⟨x,7,none⟩=some (.pointer (some ⟨b,0,none⟩))∧w'.cell? ⟨p.w,1,none⟩=some (.pointer (some ⟨p.a,0,none⟩))) (first|with_reducible exact⟨e2,e7,e1⟩|with_reducible exact⟨f2,f7,f1⟩)
  (first
   |(go_at_call 80;refine ym.out.mono ?_;rintro e w2 ⟨rfl,h2,Ap⟩;have f2:w2.cell? ⟨x,2,none⟩=some (.pointer (some ⟨p.w,0,none⟩)):=Ap.cell 2;have f7:w2.cell? ⟨x,7,none⟩=some (.pointer (some ⟨b,0,none⟩)):=Ap.cell 7;have f1:=h2.cell.2.1))
 go_wp2
 go_end0
 exact⟨rfl,h2⟩
theorem V4{w:World}{G:Nat→Prop}{p:Wp}{F:Fs}{n x:Nat}{t:Wt}{A:Option Addr}{m c:Nat}(h:Sys w G p F n)(hr:Row w x 122 (RB p t))(hb:Row w t.b 126 [.slice A m c])(hm:0<m)(hx:¬G x)(hst:wordsAt F.A.st t.b=some F.D.size)(Jt:x≠t.b)(hf:t.first≤2000000)(IB:t.blocks≤2000000):
  Calls Tryz.prog 38 #[.pointer (some ⟨x,0,none⟩)] w fun e w'=>(e=.returned (.tuple #[])∧Bk w G t.b p (Dx F t 0) n w'):=by
 have hc:=DX hr hb
 rw[decide_eq_true hm]at hc
 have HC:=Lib.hid hc
 have HW:Hid (Calls Tryz.prog 66 #[.pointer (some ⟨x,0,none⟩),.int .i64 0] w fun e w'=>e=.returned (.tuple #[])∧Bk w G t.b p (Dx F t 0) n w'):=Mb h hr hx hst Jt hf IB 0 (Nat.zero_le _)
 clear hc h hr hb hm hx hst Jt hf IB
 go_enter Tryz.func38,Tryz.ntmps38
 go_wp2_with fail
 refine HC.out.mono ?_;rintro e w1 ⟨rfl,rfl⟩
 go_wp2_with fail
 refine HW.out.mono ?_;rintro e w2 ⟨rfl,h2⟩
 have H2:=Lib.hid h2
 clear h2
 go_wp2
 go_end0
 exact⟨rfl,H2.out⟩
theorem Ob(u:FrameMode){w:World}{G:Nat→Prop}{p:Wp}{F:Fs}{n x:Nat}{t:Wt}{A:Option Addr}{m c:Nat}(h:Sys w G p F n)(hr:Row w x 122 (RB p t))(hb:Row w t.b 126 [.slice A m c])(hm:0<m)(hx:¬G x)(hst:wordsAt F.A.st t.b=some F.D.size)(Jt:x≠t.b)(hf:t.first≤2000000)(IB:t.blocks≤2000000):
  CallsD Tryz.prog 38 #[.pointer (some ⟨x,0,none⟩)] u w fun e u' w'=>u'=u∧(e=.returned (.tuple #[])∧Bk w G t.b p (Dx F t 0) n w'):=by
 have hc:=DX hr hb
 rw[decide_eq_true hm]at hc
 have HC:=Lib.hid hc
 have HW:Hid (Calls Tryz.prog 66 #[.pointer (some ⟨x,0,none⟩),.int .i64 0] w fun e w'=>e=.returned (.tuple #[])∧Bk w G t.b p (Dx F t 0) n w'):=Mb h hr hx hst Jt hf IB 0 (Nat.zero_le _)
 clear hc h hr hb hm hx hst Jt hf IB
 go_enter_d Tryz.func38,Tryz.ntmps38
 go_wp2_with fail
 refine HC.out.mono ?_;rintro e w1 ⟨rfl,rfl⟩
 go_wp2_with fail
 refine HW.out.mono ?_;rintro e w2 ⟨rfl,h2⟩
 have H2:=Lib.hid h2
 clear h2
 go_wp2
 go_end0
 exact⟨rfl,H2.out⟩
theorem E9(u:FrameMode){w:World}{p:Wp}{x:Nat}{t:Wt}{A:Option Addr}{c:Nat}(hr:Row w x 122 (RB p t))(hb:Row w t.b 126 [.slice A 0 c]):
  CallsD Tryz.prog 38 #[.pointer (some ⟨x,0,none⟩)] u w fun e u' w'=>u'=u∧(e=.returned (.tuple #[])∧w'=w):=by
 have hc:=DX hr hb
 rw[decide_eq_false (Nat.lt_irrefl 0)]at hc
 have HC:=Lib.hid hc
 clear hc hr hb
 go_enter_d Tryz.func38,Tryz.ntmps38
 go_wp2_with fail
 refine HC.out.mono ?_;rintro e w1 ⟨rfl,rfl⟩
 go_wp2
 go_end0
 exact⟨rfl,rfl⟩
structure Gp (w:World) (x:Nat) (p:Wp) (t:Wt) (sz:Nat) (ws:List Nat):Prop where
 row:Row w x 122 (RB p t)
 buf:Row w t.b 126 [.slice (some ⟨t.g,0,none⟩) sz sz]
 words:Row w t.g 127 (ws.map vw)
 len:ws.length=sz
 u64:I6 ws
structure OV (G:Nat→Prop) (x:Nat) (t:Wt):Prop where
 x:¬G x
 b:¬G t.b
 g:¬G t.g
theorem Gp.CU{w w':World}{x:Nat}{p:Wp}{t:Wt}{sz:Nat}{ws:List Nat}{R:Nat→Prop}(h:Gp w x p t sz ws)(hf:AK R w w')(h1:¬R x)(h2:¬R t.b)(h3:¬R t.g):Gp w' x p t sz ws:=⟨hf.row h.row h1,hf.row h.buf h2,hf.row h.words h3,h.len,h.u64⟩
theorem Gp.below{w w':World}{x:Nat}{p:Wp}{t:Wt}{sz:Nat}{ws:List Nat}(h:Gp w x p t sz ws)(hb:Below w.heap.size w w'):Gp w' x p t sz ws:=h.CU (AK.AJ hb fun _=>False) (fun h=>h) (fun h=>h) (fun h=>h)
theorem Gp.lt{w:World}{x:Nat}{p:Wp}{t:Wt}{sz:Nat}{ws:List Nat}(h:Gp w x p t sz ws):x<w.heap.size∧t.b<w.heap.size∧t.g<w.heap.size:=⟨h.row.lt,h.buf.lt,h.words.lt⟩
theorem Gp.apart{w:World}{x:Nat}{p:Wp}{t:Wt}{sz:Nat}{ws:List Nat}(h:Gp w x p t sz ws):x≠t.b∧x≠t.g∧t.b≠t.g:=
 ⟨fun e=>absurd (h.row.typed (e▸h.buf)) (by decide),fun e=>absurd (h.row.typed (e▸h.words)) (by decide),fun e=>absurd (h.buf.typed (e▸h.words)) (by decide)⟩
theorem EG(s:St)(i:Int)(l:List Nat):(write s i l).2.size=s.size∧(write s i l).2.blocks=s.blocks:=by
 obtain⟨e1,e2,e3,e4⟩:=Cs s (right s i&&decide (l.length=s.size))
 unfold write
 dsimp only
 split
 ·exact⟨e1,e2⟩
 ·exact⟨e1,e2⟩
theorem WB{w:World}{G:Nat→Prop}{p:Wp}{F:Fs}{n:Nat}(h:Sys w G p F n)(hn:n<1000000)(i:Int)(hi:Ff i)(A:Option Addr)(m c:Nat)(l:List Nat){B:Nat}(hl:Reads .u64 w B A m l)(hB:B≤w.heap.size):
  Calls Tryz.prog 88 #[.pointer (some ⟨p.d,0,none⟩),.int .i64 i,.slice A m c] w fun e w'=>e=.returned (.int .i64 (write F.D i l).1)∧AQ w G p {F with D:=(write F.D i l).2} (n+1) w':=by
 obtain⟨Gd,hd,Ef⟩:=h.dev
 exact(V0 p.d F.D n Gd i A m c l w hd hn hi hl hB).mono fun e w' ⟨he,h1⟩=>⟨he,Ef _ _ _ h1⟩
def AV(t:Wt):Nat:=t.first+(AA t.h t.l.length-1)
def AT(sz:Nat)(t:Wt):List Nat:=DB sz (AV t) t.k (BA t.k (Ck t.h t.l))
def Qo(w:World)(G:Nat→Prop)(p:Wp)(F:Fs)(n:Nat)(t:Wt)(e:Ending)(w':World):Prop:=
  e=.returned (.int .i64 (write F.D (AV t:Nat) (AT F.D.size t)).1)∧
  (((write F.D (AV t:Nat) (AT F.D.size t)).1=0∧AQ w G p {F with D:=(write F.D (AV t:Nat) (AT F.D.size t)).2} (n+1) w')∨
   ((write F.D (AV t:Nat) (AT F.D.size t)).1≠0∧Bk w G t.b p (Dx {F with D:=(write F.D (AV t:Nat) (AT F.D.size t)).2} t 0) (n+1) w'))
theorem Oa{w:World}{G:Nat→Prop}{p:Wp}{F:Fs}{n x:Nat}{t:Wt}{ws:List Nat}(h:Sys w G p F n)(hn:n<1000000)(hok:B8 t F.D.size)(hm:Gp w x p t F.D.size ws)(ho:OV G x t)(hst:wordsAt F.A.st t.b=some F.D.size)(hl:0<t.l.length)
  (iG:ws.take ((Ck t.h t.l).length*t.k)=BA t.k (Ck t.h t.l)):Calls Tryz.prog 69 #[.pointer (some ⟨x,0,none⟩)] w (Qo w G p F n t):=by
 obtain⟨i0,hi,Cy,CM,GJ⟩:=info_parts LV
 obtain⟨hx,EX,Hs⟩:=hm.lt
 obtain⟨Jt,Sy,Qz⟩:=hm.apart
 have hsz:=hok.sz
 have hk:=hok.k
 have hh:=hok.h
 have hbd:=hok.bound
 have IB:=hok.blocks
 have fI:=hok.first
 obtain⟨l1,l2,l3⟩:=Ix hh.1 hl
 have cU:=Bd hh.1 hl
 have xh:=BM t.h t.l.length
 obtain⟨j,hj⟩:∃j,j=AA t.h t.l.length-1:=⟨_,rfl⟩
 have lX:((AA t.h t.l.length:Nat):Int)-1=(j:Int):=by omega
 obtain⟨ad,had⟩:∃ad,ad=t.first+j:=⟨_,rfl⟩
 have K5:(t.first:Int)+(j:Int)=(ad:Int):=by omega
 have lW:j≤2000000:=by
  have h1:=Am (h:=t.h) hh.1 hbd.2
  have:=IB.1;have:=IB.2;omega
 have AE0:ad≤4000000:=by omega
 obtain⟨m,hmm⟩:∃m,m=(Ck t.h t.l).length*t.k:=⟨_,rfl⟩
 have oN:min t.h (t.l.length-j*t.h)*t.k=m:=by rw[hmm,l3,←hj];congr 1;rw[l3,←hj]at l1;omega
 have Qx:m≤F.D.size-2:=by
  rw[hmm];exact Nat.le_trans (Nat.mul_le_mul_right _ l1) hh.2.1
 have cS:j*t.h≤t.l.length:=by have:=(EM hh.1 hl).1;rw[←hj]at this;omega
 have MA:Hid (∀W,Calls Tryz.prog 62 #[.agg #[.int .i64 t.k,.int .i64 t.h],.int .i64 (t.l.length:Nat)] W fun e w'=>e=.returned (.int .i64 (AA t.h t.l.length:Nat))∧Below W.heap.size W w'):=fun W=>FV t.k t.h t.l.length W hh.1 hh.2.2 (by omega)
 have HWO:Hid (∀W,Calls Tryz.prog 87 #[.agg #[.int .i64 t.k,.int .i64 t.h],.int .i64 j,.int .i64 (t.l.length:Nat)] W fun e w'=>e=.returned (.int .i64 (m:Nat))∧Below W.heap.size W w'):=fun W=>by
  have:=MX t.k t.h j t.l.length W hk.2 hh.2.2 (by omega) cS
  rwa [oN]at this
 have Li:Hid (∀W,Below w.heap.size w W→Calls Tryz.prog 44 #[.pointer (some ⟨p.d,0,none⟩)] W fun e w'=>e=.returned (.int .i64 (F.D.size:Int))∧w'=W):=fun W hb=>(h.below hb).Dd
 have hku:∀y∈BA t.k (Ck t.h t.l),(Lit.int .u64 (y:Nat)).wf=true:=fun y hy=>Kk (LB _ _ y hy)
 have OY:Hid (∀W,Below w.heap.size w W→Calls Tryz.prog 86 #[.int .i64 (F.D.size:Int),.int .i64 ad,.int .u64 t.k,.slice (some ⟨t.g,0,none⟩) m F.D.size] W fun e w'=>e=.returned (.tuple #[.slice (some ⟨W.heap.size,0,none⟩) F.D.size F.D.size,.int .i64 0])∧Row w' W.heap.size 127 ((AT F.D.size t).map vw)∧Below W.heap.size W w'):=fun W hb=>by
  have hrd:=((hm.words.below hb Hs).words (n:=m) (by rw[hm.len];omega) (fun y hy=>Kk (hm.u64 y hy)))
  rw[hmm,iG]at hrd
  rw[←hmm]at hrd
  have:=kN F.D.size ad t.k (some ⟨t.g,0,none⟩) m F.D.size _ W hrd (Nat.le_refl _) hsz.1 hsz.2 (by omega) (by omega) Qx
  unfold AT AV;rw[←hj,←had];exact this
 have Ew:Hid ((AT F.D.size t).length=F.D.size∧∀y∈AT F.D.size t,(Lit.int .u64 (y:Nat)).wf=true):=by
  have ED:(BA t.k (Ck t.h t.l)).length≤F.D.size-2:=by rw[Gj hk.2,←hmm];exact Qx
  exact⟨IM ED (by omega),fun y hy=>Kk (Yw (LB _ _) (by omega) (by omega) y hy)⟩
 have bR:Hid (∀W g8,Below w.heap.size w W→Row W g8 127 ((AT F.D.size t).map vw)→Calls Tryz.prog 88 #[.pointer (some ⟨p.d,0,none⟩),.int .i64 ad,.slice (some ⟨g8,0,none⟩) F.D.size F.D.size] W fun e w'=>e=.returned (.int .i64 (write F.D (ad:Nat) (AT F.D.size t)).1)∧AQ w G p {F with D:=(write F.D (ad:Nat) (AT F.D.size t)).2} (n+1) w'):=fun W g8 hb Ec=>by
  have hrd:=Ec.words (n:=F.D.size) (by rw[Ew.out.1];exact Nat.le_refl _) Ew.out.2
  rw[List.take_of_length_le (by rw[Ew.out.1];exact Nat.le_refl _)]at hrd
  exact(WB (h.below hb) hn (ad:Int) (Ff.of (by omega) (by omega)) _ _ _ _ hrd (Nat.le_refl _)).mono fun e w' ⟨he,h1⟩=>⟨he,h1.behind hb⟩
 have jg:Hid (∀W D',D'.size=F.D.size→AQ w G p {F with D:=D'} (n+1) W→Calls Tryz.prog 38 #[.pointer (some ⟨x,0,none⟩)] W fun e w'=>e=.returned (.tuple #[])∧Bk w G t.b p (Dx {F with D:=D'} t 0) (n+1) w'):=fun W D' hD h1=>by
  have BS:=h1.row hm.row ho.x
  have Aj:=h1.row hm.buf ho.b
  obtain⟨G',k1,k2,k3,k4⟩:=h1.apart
  refine(V4 k1 BS Aj (by omega) (k4 x hx ho.x) (show wordsAt F.A.st t.b=some D'.size by rw[hD];exact hst) Jt fI (by omega)).mono ?_
  rintro e w' ⟨he,h2⟩
  exact⟨he,Bk.from k2 k3 h2⟩
 have HSE:Hid ((write F.D (ad:Nat) (AT F.D.size t)).2.size=F.D.size):=(EG _ _ _).1
 have vD:Hid (AV t=ad):=by unfold Hid AV;rw[←hj,←had]
 have Df:=Lib.hid hm.row
 have nr:=Lib.hid hm.buf
 have HC:Hid (∀W,Below w.heap.size w W→W.cell? ⟨x,0,none⟩=some (.int .i64 t.k)∧W.cell? ⟨x,1,none⟩=some (.int .i64 t.h)∧W.cell? ⟨x,4,none⟩=some (.int .i64 (t.l.length:Nat))∧W.cell? ⟨x,7,none⟩=some (.pointer (some ⟨t.b,0,none⟩))∧W.cell? ⟨t.b,0,none⟩=some (.slice (some ⟨t.g,0,none⟩) F.D.size F.D.size)):=fun W hb=>
  have r:=hm.row.below hb hx
  have rb:=hm.buf.below hb EX
  ⟨r.cell 0,r.cell 1,r.cell 4,r.cell 7,rb.cell 0⟩
 have c2:∀W,Below w.heap.size w W→W.cell? ⟨x,2,none⟩=some (.pointer (some ⟨p.w,0,none⟩))∧W.cell? ⟨x,5,none⟩=some (.int .i64 t.first)∧W.cell? ⟨p.w,0,none⟩=some (.pointer (some ⟨p.d,0,none⟩)):=fun W hb=>
  have r:=hm.row.below hb hx
  have rw_:=(h.below hb).row
  ⟨r.cell 2,r.cell 5,rw_.cell 0⟩
 have IG:=Lib.hid c2
 obtain⟨er,XL⟩:∃er,er=(write F.D (ad:Nat) (AT F.D.size t)).1:=⟨_,rfl⟩
 obtain⟨F1,S7⟩:∃F1:Fs,F1={F with D:=(write F.D (ad:Nat) (AT F.D.size t)).2}:=⟨_,rfl⟩
 have ni:Hid (∀W,AQ w G p F1 (n+1) W→Calls Tryz.prog 38 #[.pointer (some ⟨x,0,none⟩)] W fun e w'=>e=.returned (.tuple #[])∧Bk w G t.b p (Dx F1 t 0) (n+1) w'):=fun W h1=>by
  subst S7;exact jg.out W _ HSE.out h1
 have Jv:Hid (∀w',((er=0∧AQ w G p F1 (n+1) w')∨(er≠0∧Bk w G t.b p (Dx F1 t 0) (n+1) w'))→Qo w G p F n t (.returned (.int .i64 er)) w'):=fun w' h1=>by
  subst XL;subst S7
  unfold Qo;rw[vD.out];exact⟨rfl,h1⟩
 rw[←XL,←S7]at bR
 have hcut:=fun W=>B7 (P:=Tryz.prog) W 123 127 i0 Tryz.underlying123 hi (some ⟨t.g,0,none⟩) F.D.size F.D.size m (by omega) .i64 (m:Int) rfl
 generalize Qo w G p F n t=EO at*
 generalize AT F.D.size t=bk at*
 generalize Dx F1 t 0=FE at*
 clear XL S7 jg HSE vD iG hst hok hm ho h l1 l2 l3 cU xh hj oN hmm hi Cy CM GJ hl had cS hku Ew c2
 obtain⟨k,Ee,bound,first,blocks,b,g,l⟩:=t
 simp only at*
 generalize AA Ee l.length=nb at*
 generalize l.length=cnt at*
 generalize F.D.size=size at*
 have hwj:IntKind.i64.wrap (j:Int)=(j:Int):=IntWalk.i64_in _ (by omega)
 have hwk:IntKind.u64.wrap (k:Int)=(k:Int):=IntWalk.u64_in _ ⟨by clear hwj;omega,by clear hwj;omega⟩
 clear IB hbd hx EX Hs Jt Sy Qz fI
 have d1:=HC.out w (Below.refl _ _)
 have e1:=HC.out w.drew (AH (Below.refl _ _))
 go_enter Tryz.func69,Tryz.ntmps69
 go_wp2
 go_region_held3 (fun w'=>Below w.heap.size w w'∧w'.cell? ⟨x,0,none⟩=some (.int .i64 k)∧w'.cell? ⟨x,1,none⟩=some (.int .i64 Ee)∧w'.cell? ⟨x,4,none⟩=some (.int .i64 cnt)) (first|with_reducible exact⟨AH (Below.refl _ _),e1.1,e1.2.1,e1.2.2.1⟩|with_reducible exact⟨Aj,f1.1,f1.2.1,f1.2.2.1⟩)
  (first
   |(go_at_call 62;refine(MA.out _).mono ?_;rintro e w1 ⟨rfl,Aj⟩;replace Aj:=(AH (Below.refl w.heap.size w)).trans Aj;have f1:=HC.out w1 Aj))
 obtain⟨g2,g5,gd⟩:=IG.out w1 Aj
 have hbd:=AH Aj
 have q0:=HC.out w1 Aj
 have q1:=HC.out w1.drew hbd
 clear e1 f1 d1 MA IG
 go_wp2
 clear g2 g5 gd
 go_region_held3 (fun w'=>Below w.heap.size w w'∧w'.cell? ⟨x,0,none⟩=some (.int .i64 k)∧w'.cell? ⟨x,1,none⟩=some (.int .i64 Ee)∧w'.cell? ⟨x,4,none⟩=some (.int .i64 cnt)∧w'.cell? ⟨x,7,none⟩=some (.pointer (some ⟨b,0,none⟩))∧w'.cell? ⟨b,0,none⟩=some (.slice (some ⟨g,0,none⟩) size size))
  (first|with_reducible exact⟨hbd,q1⟩|with_reducible exact⟨AX,q2⟩|with_reducible exact⟨A9,q3⟩)
  (first
   |(go_at_call 44;(with_reducible refine(Li.out _ (by first|exact hbd|exact AX)).mono ?_);rintro e w8 ⟨rfl,rfl⟩)
   |(go_at_call 87;(with_reducible refine(HWO.out _).mono ?_);rintro e w2 ⟨rfl,AX⟩;replace AX:=hbd.trans (AX.mono hbd.size);have q2:=HC.out w2 AX)
   |(go_at_call 86;(with_reducible refine(OY.out _ AX).mono ?_);rintro e w3 ⟨rfl,Cm,A9⟩;replace A9:=AX.trans (A9.mono AX.size);have q3:=HC.out w3 A9;have Hq:=Lib.hid Cm;clear Cm))
 clear q0 q1 q2 q3 AX OY HWO Li HC hcut
 by_cases he:er=0
 ·subst he
  go_wp2_with fail
  refine(bR.out w3 _ A9 Hq.out).mono ?_;rintro e w4 ⟨rfl,h4⟩
  have H4:=Lib.hid (Jv.out w4 (.inl ⟨by trivial,h4⟩))
  clear h4 Jv ni bR
  go_wp2
  exact H4.out
 ·have g9:(er !=0)=true:=by simpa using he
  go_wp2_with fail
  refine(bR.out w3 _ A9 Hq.out).mono ?_;rintro e w4 ⟨rfl,h4⟩
  have H4:=Lib.hid h4
  clear h4 bR
  go_wp2_with fail
  refine(ni.out w4 H4.out).mono ?_;rintro e w5 ⟨rfl,h5⟩
  have H5:=Lib.hid (Jv.out w5 (.inr ⟨he,h5⟩))
  clear h5 Jv ni
  go_wp2
  exact H5.out
def JJ(w:World)(x:Nat)(p:Wp)(t:Wt)(sz:Nat):Prop:=∃ws,Gp w x p t sz ws∧Nq t.k t.h t.l ws
def Hv(w:World)(x:Nat)(p:Wp)(t:Wt):Prop:=Row w x 122 (RB p t)∧Row w t.b 126 [.slice none 0 0]
def Wt.snoc(t:Wt)(tu:AB):Wt:={t with l:=t.l++[tu]}
def jL(w:World)(G:Nat→Prop)(x:Nat)(p:Wp)(F:Fs)(n:Nat)(t:Wt)(w':World):Prop:=
 ∃G',Sys w' G' p F n∧JJ w' x p t F.D.size∧AK (fun k=>G k∨k=x∨k=t.g) w w'∧∀k,G' k→G k∨w.heap.size≤k
def Ho(w:World)(G:Nat→Prop)(x:Nat)(p:Wp)(F:Fs)(n:Nat)(t:Wt)(w':World):Prop:=
 ∃G',Sys w' G' p F n∧Hv w' x p t∧AK (fun k=>G k∨k=x∨k=t.g∨k=t.b) w w'∧∀k,G' k→G k∨w.heap.size≤k
def Pc(w:World)(G:Nat→Prop)(x:Nat)(p:Wp)(F:Fs)(n:Nat)(t:Wt)(tu:AB)(e:Ending)(w':World):Prop:=
  (Ac t.k tu=false∧e=.returned (.int .i64 1)∧Below w.heap.size w w')∨
  (Ac t.k tu=true∧t.l.length=t.bound∧e=.returned (.int .i64 5)∧Below w.heap.size w w')∨
  (Ac t.k tu=true∧t.l.length<t.bound∧
    (((t.l.length+1)%t.h≠0∧e=.returned (.int .i64 0)∧jL w G x p F n (t.snoc tu) w')∨
     ((t.l.length+1)%t.h=0∧(write F.D (AV (t.snoc tu):Nat) (AT F.D.size (t.snoc tu))).1=0∧e=.returned (.int .i64 0)∧jL w G x p {F with D:=(write F.D (AV (t.snoc tu):Nat) (AT F.D.size (t.snoc tu))).2} (n+1) (t.snoc tu) w')∨
     ((t.l.length+1)%t.h=0∧(write F.D (AV (t.snoc tu):Nat) (AT F.D.size (t.snoc tu))).1≠0∧e=.returned (.int .i64 (write F.D (AV (t.snoc tu):Nat) (AT F.D.size (t.snoc tu))).1)∧Ho w G x p (Dx {F with D:=(write F.D (AV (t.snoc tu):Nat) (AT F.D.size (t.snoc tu))).2} (t.snoc tu) 0) (n+1) (t.snoc tu) w')))
theorem TK{w:World}{G:Nat→Prop}{p:Wp}{F:Fs}{n x:Nat}{t:Wt}{ws:List Nat}(h:Sys w G p F n)(hok:B8 t F.D.size)(hm:Gp w x p t F.D.size ws)(tu:AB)(hfit:Ac t.k tu=false):Calls Tryz.prog 39 #[.pointer (some ⟨x,0,none⟩),.agg #[.int .i64 tu.a,.int .i64 tu.b,.int .i64 tu.c,.int .i64 tu.d,.int .i64 tu.e]] w fun e w'=>e=.returned (.int .i64 1)∧Below w.heap.size w w':=by
 obtain⟨hx,EX,Hs⟩:=hm.lt
 have hk:=hok.k
 have hh:=hok.h
 have hbd:=hok.bound
 obtain⟨za,zb,zc,zd,ze⟩:=tu
 have OA:=(Below.refl w.heap.size w).alloc (Nat.le_refl _) (.cells #[.int .i64 za,.int .i64 zb,.int .i64 zc,.int .i64 zd,.int .i64 ze] 63)
 have EC:Row (w.alloc (.cells #[.int .i64 za,.int .i64 zb,.int .i64 zc,.int .i64 zd,.int .i64 ze] 63)) w.heap.size 63 [.int .i64 za,.int .i64 zb,.int .i64 zc,.int .i64 zd,.int .i64 ze]:=heap_alloc_new _ _
 have ND:=hok.sz
 have KI:=fun d os=>below_regrown (w.alloc (.cells #[.int .i64 za,.int .i64 zb,.int .i64 zc,.int .i64 zd,.int .i64 ze] 63)) d os
 have kj:=OA.size
 have Q1:Hid (∀d' os,Calls Tryz.prog 65 #[.pointer (some ⟨x,0,none⟩)] (Sort.grow (redrawn (w.alloc (.cells #[.int .i64 za,.int .i64 zb,.int .i64 zc,.int .i64 zd,.int .i64 ze] 63)) d') os) fun e DG=>e=.returned (.bool false)∧∃p:Regrown,DG=Sort.grow (redrawn (w.alloc (.cells #[.int .i64 za,.int .i64 zb,.int .i64 zc,.int .i64 zd,.int .i64 ze] 63)) p.d) p.os):=fun d' os=>Calls.regrown_of ((DX (((hm.row.below OA hx).below (KI d' os) (Nat.lt_of_lt_of_le hx kj))) (((hm.buf.below OA EX).below (KI d' os) (Nat.lt_of_lt_of_le EX kj)))).mono fun e' w' ⟨he,hw⟩=>⟨by rw[he,decide_eq_true (by omega)];rfl,by subst hw;exact Below.refl _ _⟩)
 have Q2:Hid (∀d' os,Calls Tryz.prog 67 #[.agg #[.int .i64 za,.int .i64 zb,.int .i64 zc,.int .i64 zd,.int .i64 ze],.int .i64 t.k] (Sort.grow (redrawn (w.alloc (.cells #[.int .i64 za,.int .i64 zb,.int .i64 zc,.int .i64 zd,.int .i64 ze] 63)) d') os) fun e DG=>e=.returned (.bool false)∧∃p:Regrown,DG=Sort.grow (redrawn (w.alloc (.cells #[.int .i64 za,.int .i64 zb,.int .i64 zc,.int .i64 zd,.int .i64 ze] 63)) p.d) p.os):=fun d' os=>Calls.regrown_of ((Ma ⟨za,zb,zc,zd,ze⟩ t.k _ hk.1 hk.2).mono fun e' w' ⟨he,hw⟩=>⟨by rw[he,hfit],hw⟩)
 have k0:∀d' os,(Sort.grow (redrawn (w.alloc (.cells #[.int .i64 za,.int .i64 zb,.int .i64 zc,.int .i64 zd,.int .i64 ze] 63)) d') os).cell? ⟨x,0,none⟩=some (.int .i64 t.k):=cell_regrown ((hm.row.below OA hx).cell 0)
 have k1:∀d' os,(Sort.grow (redrawn (w.alloc (.cells #[.int .i64 za,.int .i64 zb,.int .i64 zc,.int .i64 zd,.int .i64 ze] 63)) d') os).cell? ⟨w.heap.size,0,none⟩=some (.int .i64 za):=cell_regrown (EC.cell 0)
 have k2:∀d' os,(Sort.grow (redrawn (w.alloc (.cells #[.int .i64 za,.int .i64 zb,.int .i64 zc,.int .i64 zd,.int .i64 ze] 63)) d') os).cell? ⟨w.heap.size,1,none⟩=some (.int .i64 zb):=cell_regrown (EC.cell 1)
 have k3:∀d' os,(Sort.grow (redrawn (w.alloc (.cells #[.int .i64 za,.int .i64 zb,.int .i64 zc,.int .i64 zd,.int .i64 ze] 63)) d') os).cell? ⟨w.heap.size,2,none⟩=some (.int .i64 zc):=cell_regrown (EC.cell 2)
 have k4:∀d' os,(Sort.grow (redrawn (w.alloc (.cells #[.int .i64 za,.int .i64 zb,.int .i64 zc,.int .i64 zd,.int .i64 ze] 63)) d') os).cell? ⟨w.heap.size,3,none⟩=some (.int .i64 zd):=cell_regrown (EC.cell 3)
 have k5:∀d' os,(Sort.grow (redrawn (w.alloc (.cells #[.int .i64 za,.int .i64 zb,.int .i64 zc,.int .i64 zd,.int .i64 ze] 63)) d') os).cell? ⟨w.heap.size,4,none⟩=some (.int .i64 ze):=cell_regrown (EC.cell 4)
 have tG:=Lib.hid OA
 have De:=Lib.hid EC
 have HM:=Lib.hid hm
 have Qq:=Lib.hid h
 have FY:=Lib.hid hok
 have Xu:=Lib.hid hfit
 have OZ:Hid (x<w.heap.size∧t.b<w.heap.size∧t.g<w.heap.size):=⟨hx,EX,Hs⟩
 clear OA EC hm h hok hx EX Hs KI kj ND hfit
 go_enter Tryz.func39,Tryz.ntmps39
 go_wp2
 refine wp_region_quiet_below (by kernel_rfl) (by kernel_rfl) ?_
 repeat(any_goals(first|go_big_quiet_step (with_reducible first|exact Q1.out _ _|exact Q2.out _ _)|quiet_step (with_reducible first|exact Q1.out _ _|exact Q2.out _ _)))
 refine wpQuiet_nil ?_
 intro w5 EU
 obtain⟨⟨dq,osq⟩,EU⟩:=EU
 have Bm:=below_regrown (w.alloc (.cells #[.int .i64 za,.int .i64 zb,.int .i64 zc,.int .i64 zd,.int .i64 ze] 63)) dq osq
 rw[←EU]at Bm
 clear EU
 have BW:=Lib.hid (tG.out.trans (Bm.mono (by simp)))
 have Cc:=Lib.hid (De.out.below Bm (by simp))
 clear Bm Q1 Q2 k0 k1 k2 k3 k4 k5 tG De
 go_wp2
 go_ret
 exact⟨rfl,BW.out⟩
theorem Sys.Of{w w':World}{G:Nat→Prop}{p:Wp}{F:Fs}{n:Nat}(h:Sys w G p F n){R:Nat→Prop}(hf:AK R w w')(hR:∀k,R k→¬G k∧∀v,¬Row w k 126 [v]):Sys w' G p F n:=
 h.CU hf (fun k hk hr=>(hR k hr).1 hk) fun q hq hr=>by
  obtain⟨⟨v,hb⟩,_⟩:=h.buf hq
  exact(hR _ hr).2 v hb
theorem Mm{α:Type}(L wl:List α)(off i:Nat)(u:α)(hi:wl[i]?=some u)(hl:off+wl.length≤L.length):(splice L off (wl.take i)).set (off+i) u=splice L off (wl.take (i+1)):=by
 have hil:i<wl.length:=(List.getElem?_eq_some_iff.1 hi).1
 apply List.ext_getElem?
 intro k
 have l1:(splice L off (wl.take i)).length=L.length:=AR L off _ (by rw[List.length_take];omega)
 rw[List.getElem?_set]
 by_cases hk:off+i=k
 ·subst hk
  rw[if_pos rfl,if_pos (by rw[l1];omega)]
  unfold splice
  rw[List.getElem?_append_right (by rw[List.length_take];omega),List.getElem?_append_left (by simp;omega),List.length_take,show off+i-min off L.length=i by omega,List.getElem?_take,if_pos (by omega),hi]
 ·rw[if_neg hk]
  by_cases h1:k<off∨off+(i+1)≤k
  ·rw[BL L off _ (by rw[List.length_take];omega) (by rw[List.length_take];omega),BL L off _ (by rw[List.length_take];omega) (by rw[List.length_take];omega)]
  ·unfold splice
   rw[List.getElem?_append_right (by rw[List.length_take];omega),List.getElem?_append_left (by simp;omega),List.getElem?_append_right (by rw[List.length_take];omega),List.getElem?_append_left (by simp;omega),List.getElem?_take,List.getElem?_take,if_pos (by simp;omega),if_pos (by simp;omega)]
theorem dz{w W:World}{G:Nat→Prop}{p:Wp}{F:Fs}{n x:Nat}{t:Wt}{ws:List Nat}(h:Sys w G p F n)(hok:B8 t F.D.size)(hm:Gp w x p t F.D.size ws)(ho:OV G x t)(IY:Nq t.k t.h t.l ws)(tu:AB)(Fw:t.l.length<t.bound)
  (hf:AK (fun k=>k=x∨k=t.g) w W) (hr:Row W x 122 (RB p (t.snoc tu))) (hg:Row W t.g 127 ((splice ws (t.l.length%t.h*t.k) (AY t.k tu)).map vw)):
  Sys W G p F n∧B8 (t.snoc tu) F.D.size∧Gp W x p (t.snoc tu) F.D.size (splice ws (t.l.length%t.h*t.k) (AY t.k tu))∧
   (splice ws (t.l.length%t.h*t.k) (AY t.k tu)).take ((Ck t.h (t.snoc tu).l).length*t.k)=BA t.k (Ck t.h (t.snoc tu).l):=by
 obtain⟨Jt,Sy,Qz⟩:=hm.apart
 have Oz:=CG hok.k.2 tu
 have hmod:=Nat.mod_lt t.l.length hok.h.1
 have hof:t.l.length%t.h*t.k+t.k≤t.h*t.k:=by
  have:=Nat.mul_le_mul_right t.k (show t.l.length%t.h+1≤t.h by omega)
  rw[Nat.add_mul,Nat.one_mul]at this;exact this
 have hfit:t.l.length%t.h*t.k+(AY t.k tu).length≤ws.length:=by rw[Oz,hm.len];have:=hok.h.2.1;omega
 refine⟨h.Of hf ?_,⟨hok.k,hok.h,hok.sz,⟨hok.bound.1,by show (t.l++[tu]).length≤t.bound;simp;omega⟩,hok.blocks,hok.first⟩,⟨hr,hf.row hm.buf (by rintro(e|e);exact Jt e.symm;exact Qz e),hg,by rw[AR _ _ _ hfit];exact hm.len,?_⟩,?_⟩
 ·rintro k (rfl|rfl)
  ·exact⟨ho.x,fun v hv=>absurd (hm.row.typed hv) (by decide)⟩
  ·exact⟨ho.g,fun v hv=>absurd (hm.words.typed hv) (by decide)⟩
 ·intro y hy
  unfold splice at hy
  rcases List.mem_append.1 hy with hy|hy
  ·exact hm.u64 y (List.mem_of_mem_take hy)
  ·rcases List.mem_append.1 hy with hy|hy
   ·exact LB t.k [tu] y (by rw[PL];exact hy)
   ·exact hm.u64 y (List.mem_of_mem_drop hy)
 ·exact aP hok.k.2 hok.h.1 IY (by rw[hm.len];have:=hok.h.2.1;omega) tu
theorem eA{w W:World}{G:Nat→Prop}{p:Wp}{F:Fs}{n x:Nat}{t:Wt}{ws:List Nat}(h:Sys w G p F n)(hn:n<1000000)(hok:B8 t F.D.size)(hm:Gp w x p t F.D.size ws)(ho:OV G x t)(hst:wordsAt F.A.st t.b=some F.D.size)(IY:Nq t.k t.h t.l ws)(tu:AB)(hfit:Ac t.k tu=true)(Fw:t.l.length<t.bound)
  (hf:AK (fun k=>k=x∨k=t.g) w W) (hr:Row W x 122 (RB p (t.snoc tu))) (hg:Row W t.g 127 ((splice ws (t.l.length%t.h*t.k) (AY t.k tu)).map vw)):
  (0<(t.l.length+1)%t.h→Pc w G x p F n t tu (.returned (.int .i64 0)) W)∧(¬0<(t.l.length+1)%t.h→Calls Tryz.prog 69 #[.pointer (some ⟨x,0,none⟩)] W fun e w'=>∃er,e=.returned (.int .i64 er)∧Pc w G x p F n t tu (.returned (.int .i64 er)) w'):=by
 obtain⟨h1,h2,h3,h4⟩:=dz h hok hm ho IY tu Fw hf hr hg
 obtain⟨Jt,Sy,Qz⟩:=hm.apart
 obtain⟨hx,EX,Hs⟩:=hm.lt
 have MJ:(t.snoc tu).l.length=t.l.length+1:=by show (t.l++[tu]).length= _;simp
 have DZ:AK (fun k=>G k∨k=x∨k=t.g) w W:=hf.mono fun k hk=>.inr hk
 refine⟨fun h0=>.inr (.inr ⟨hfit,Fw,.inl ⟨by omega,rfl,G,h1,⟨_,h3,?_⟩,DZ,fun k hk=>.inl hk⟩⟩),fun h0=>?_⟩
 ·exact(O9 (k:=t.k) (l:=(t.snoc tu).l) hok.h.1 (by rw[MJ];show (t.l.length+1)%t.h≠0;omega)).2 h4
 ·refine(Oa h1 hn h2 h3 ⟨ho.x,ho.b,ho.g⟩ hst (by rw[MJ];omega) h4).mono ?_
  rintro e w' ⟨he,h5⟩
  refine⟨_,he,.inr (.inr ⟨hfit,Fw,?_⟩)⟩
  rcases h5 with⟨h6,h7⟩|⟨h6,h7⟩
  ·refine .inr (.inl ⟨by omega,h6,by rw[h6],?_⟩)
   obtain⟨G',k1,k2,k3⟩:=h7
   have uA:=(EG F.D (AV (t.snoc tu):Nat) (AT F.D.size (t.snoc tu))).1
   refine⟨G',k1,⟨_,by show Gp w' x p (t.snoc tu) (write F.D (AV (t.snoc tu):Nat) (AT F.D.size (t.snoc tu))).2.size _;rw[uA];exact h3.CU k2 ho.x ho.b ho.g,?_⟩,DZ.trans k2 fun k hk=>.inl (.inl hk),fun k hk=>(k3 k hk).imp id fun h=>Nat.le_trans hf.size h⟩
   exact XM _ (by rw[MJ];show (t.l.length+1)%t.h=0;omega)
  ·refine .inr (.inr ⟨by omega,h6,rfl,?_⟩)
   obtain⟨G',k1,k2,k3,k4⟩:=h7
   refine⟨G',k1,⟨k2.row hr ?_,k4⟩,(DZ.mono (F':=fun k=>G k∨k=x∨k=t.g∨k=t.b) fun k hk=>hk.imp_right fun h=>h.imp_right .inl).trans k2 fun k hk=>.inl (hk.elim .inl fun h=>.inr (.inr (.inr h))),fun k hk=>(k3 k hk).imp id fun h=>Nat.le_trans hf.size h⟩
   rintro(h8|h8)
   ·exact ho.x h8
   ·exact Jt h8
theorem Ur{w:World}{G:Nat→Prop}{p:Wp}{F:Fs}{n x:Nat}{t:Wt}{ws:List Nat}(h:Sys w G p F n)(hok:B8 t F.D.size)(hm:Gp w x p t F.D.size ws)(hn:n<1000000)(ho:OV G x t)(hst:wordsAt F.A.st t.b=some F.D.size)(IY:Nq t.k t.h t.l ws)(tu:AB)(hfit:Ac t.k tu=true)(Fw:t.l.length<t.bound):Calls Tryz.prog 39 #[.pointer (some ⟨x,0,none⟩),.agg #[.int .i64 tu.a,.int .i64 tu.b,.int .i64 tu.c,.int .i64 tu.d,.int .i64 tu.e]] w (Pc w G x p F n t tu):=by
 obtain⟨hx,EX,Hs⟩:=hm.lt
 have hk:=hok.k
 have hh:=hok.h
 have hbd:=hok.bound
 obtain⟨za,zb,zc,zd,ze⟩:=tu
 have OA:=(Below.refl w.heap.size w).alloc (Nat.le_refl _) (.cells #[.int .i64 za,.int .i64 zb,.int .i64 zc,.int .i64 zd,.int .i64 ze] 63)
 have EC:Row (w.alloc (.cells #[.int .i64 za,.int .i64 zb,.int .i64 zc,.int .i64 zd,.int .i64 ze] 63)) w.heap.size 63 [.int .i64 za,.int .i64 zb,.int .i64 zc,.int .i64 zd,.int .i64 ze]:=heap_alloc_new _ _
 have ND:=hok.sz
 have KI:=fun d os=>below_regrown (w.alloc (.cells #[.int .i64 za,.int .i64 zb,.int .i64 zc,.int .i64 zd,.int .i64 ze] 63)) d os
 have kj:=OA.size
 have Q1:Hid (∀d' os,Calls Tryz.prog 65 #[.pointer (some ⟨x,0,none⟩)] (Sort.grow (redrawn (w.alloc (.cells #[.int .i64 za,.int .i64 zb,.int .i64 zc,.int .i64 zd,.int .i64 ze] 63)) d') os) fun e DG=>e=.returned (.bool false)∧∃p:Regrown,DG=Sort.grow (redrawn (w.alloc (.cells #[.int .i64 za,.int .i64 zb,.int .i64 zc,.int .i64 zd,.int .i64 ze] 63)) p.d) p.os):=fun d' os=>Calls.regrown_of ((DX (((hm.row.below OA hx).below (KI d' os) (Nat.lt_of_lt_of_le hx kj))) (((hm.buf.below OA EX).below (KI d' os) (Nat.lt_of_lt_of_le EX kj)))).mono fun e' w' ⟨he,hw⟩=>⟨by rw[he,decide_eq_true (by omega)];rfl,by subst hw;exact Below.refl _ _⟩)
 have Q2:Hid (∀d' os,Calls Tryz.prog 67 #[.agg #[.int .i64 za,.int .i64 zb,.int .i64 zc,.int .i64 zd,.int .i64 ze],.int .i64 t.k] (Sort.grow (redrawn (w.alloc (.cells #[.int .i64 za,.int .i64 zb,.int .i64 zc,.int .i64 zd,.int .i64 ze] 63)) d') os) fun e DG=>e=.returned (.bool true)∧∃p:Regrown,DG=Sort.grow (redrawn (w.alloc (.cells #[.int .i64 za,.int .i64 zb,.int .i64 zc,.int .i64 zd,.int .i64 ze] 63)) p.d) p.os):=fun d' os=>Calls.regrown_of ((Ma ⟨za,zb,zc,zd,ze⟩ t.k _ hk.1 hk.2).mono fun e' w' ⟨he,hw⟩=>⟨by rw[he,hfit],hw⟩)
 have k0:∀d' os,(Sort.grow (redrawn (w.alloc (.cells #[.int .i64 za,.int .i64 zb,.int .i64 zc,.int .i64 zd,.int .i64 ze] 63)) d') os).cell? ⟨x,0,none⟩=some (.int .i64 t.k):=cell_regrown ((hm.row.below OA hx).cell 0)
 have k1:∀d' os,(Sort.grow (redrawn (w.alloc (.cells #[.int .i64 za,.int .i64 zb,.int .i64 zc,.int .i64 zd,.int .i64 ze] 63)) d') os).cell? ⟨w.heap.size,0,none⟩=some (.int .i64 za):=cell_regrown (EC.cell 0)
 have k2:∀d' os,(Sort.grow (redrawn (w.alloc (.cells #[.int .i64 za,.int .i64 zb,.int .i64 zc,.int .i64 zd,.int .i64 ze] 63)) d') os).cell? ⟨w.heap.size,1,none⟩=some (.int .i64 zb):=cell_regrown (EC.cell 1)
 have k3:∀d' os,(Sort.grow (redrawn (w.alloc (.cells #[.int .i64 za,.int .i64 zb,.int .i64 zc,.int .i64 zd,.int .i64 ze] 63)) d') os).cell? ⟨w.heap.size,2,none⟩=some (.int .i64 zc):=cell_regrown (EC.cell 2)
 have k4:∀d' os,(Sort.grow (redrawn (w.alloc (.cells #[.int .i64 za,.int .i64 zb,.int .i64 zc,.int .i64 zd,.int .i64 ze] 63)) d') os).cell? ⟨w.heap.size,3,none⟩=some (.int .i64 zd):=cell_regrown (EC.cell 3)
 have k5:∀d' os,(Sort.grow (redrawn (w.alloc (.cells #[.int .i64 za,.int .i64 zb,.int .i64 zc,.int .i64 zd,.int .i64 ze] 63)) d') os).cell? ⟨w.heap.size,4,none⟩=some (.int .i64 ze):=cell_regrown (EC.cell 4)
 have tG:=Lib.hid OA
 have De:=Lib.hid EC
 have HM:=Lib.hid hm
 have Qq:=Lib.hid h
 have FY:=Lib.hid hok
 have Xu:=Lib.hid hfit
 have OZ:Hid (x<w.heap.size∧t.b<w.heap.size∧t.g<w.heap.size):=⟨hx,EX,Hs⟩
 clear OA EC hm h hok hx EX Hs KI kj ND hfit
 have g0:(((t.l.length:Nat):Int)==(t.bound:Int))=false:=by simp;omega
 obtain⟨Jt,Sy,Qz⟩:=HM.out.apart
 have MJ:(t.snoc ⟨za,zb,zc,zd,ze⟩).l.length=t.l.length+1:=by show (t.l++[_]).length= _;simp
 have Oz:=CG hk.2 ⟨za,zb,zc,zd,ze⟩
 obtain⟨off,hoff⟩:∃off,off=t.l.length%t.h*t.k:=⟨_,rfl⟩
 have hof:off+t.k≤F.D.size-2:=by
  have h1:=Nat.mul_le_mul_right t.k (show t.l.length%t.h+1≤t.h by have:=Nat.mod_lt t.l.length hh.1;omega)
  rw[Nat.add_mul,Nat.one_mul]at h1
  have:=hh.2.1;omega
 have hsz:=FY.out.sz
 have Dv:t.l.length<t.bound:=Fw
 obtain⟨cnt,KM⟩:∃cnt,cnt=t.l.length:=⟨_,rfl⟩
 have Aq:Hid (∀W,AK (fun k=>k=x∨k=t.g) w W→Row W x 122 [.int .i64 t.k,.int .i64 t.h,.pointer (some ⟨p.w,0,none⟩),.int .i64 t.bound,.int .i64 (cnt+1:Nat),.int .i64 t.first,.int .i64 t.blocks,.pointer (some ⟨t.b,0,none⟩)]→Row W t.g 127 ((splice ws off (AY t.k ⟨za,zb,zc,zd,ze⟩)).map vw)→
   (0<(cnt+1)%t.h→Pc w G x p F n t ⟨za,zb,zc,zd,ze⟩ (.returned (.int .i64 0)) W)∧(¬0<(cnt+1)%t.h→Calls Tryz.prog 69 #[.pointer (some ⟨x,0,none⟩)] W fun e w'=>∃er,e=.returned (.int .i64 er)∧Pc w G x p F n t ⟨za,zb,zc,zd,ze⟩ (.returned (.int .i64 er)) w')):=fun W h1 h2 h3=>by
  rw[KM];rw[KM,←MJ]at h2;rw[hoff]at h3
  exact eA Qq.out hn FY.out HM.out ho hst IY _ Xu.out Fw h1 h2 h3
 have Q3:Hid (∀W,Below w.heap.size w W→∀d' os,Calls Tryz.prog 68 #[.agg #[.int .i64 t.k,.int .i64 t.h],.slice (some ⟨t.g,0,none⟩) F.D.size F.D.size,.int .i64 cnt] (Sort.grow (redrawn W d') os) fun e DG=>e=.returned (.slice (some ⟨t.g,off,none⟩) t.k (F.D.size-off))∧∃p:Regrown,DG=Sort.grow (redrawn W p.d) p.os):=fun W hb d' os=>Calls.regrown_of (by
  rw[hoff,KM]
  exact QA t.k t.h t.l.length t.g F.D.size _ hk.1 hk.2 hh.1 hh.2.2 (by omega) (by rw[←hoff];omega) (by omega))
 have gf:Hid (∀i,i<t.k→∃z,[za,zb,zc,zd,ze][i]?=some z∧(AY t.k ⟨za,zb,zc,zd,ze⟩)[i]?=some (uw z)):=fun i hi=>by
  have oP:i<[za,zb,zc,zd,ze].length:=by simp;omega
  refine⟨_,List.getElem?_eq_getElem oP,?_⟩
  unfold AY
  rw[List.getElem?_map,List.getElem?_take,if_pos hi]
  show (([za,zb,zc,zd,ze]:List Int)[i]?).map uw= _
  rw[List.getElem?_eq_getElem oP];rfl
 have ek:=HM.out.len
 have gI:Hid (∀i z,i<t.k→(AY t.k ⟨za,zb,zc,zd,ze⟩)[i]?=some (uw z)→((splice ws off ((AY t.k ⟨za,zb,zc,zd,ze⟩).take i)).map vw).set (off+i) (.int .u64 (uw z:Nat))=(splice ws off ((AY t.k ⟨za,zb,zc,zd,ze⟩).take (i+1))).map vw∧off+i<((splice ws off ((AY t.k ⟨za,zb,zc,zd,ze⟩).take i)).map vw).length):=fun i z hi hz=>by
  refine⟨?_,?_⟩
  ·rw[←Mm ws _ off i (uw z) hz (by rw[Oz,ek];omega),List.map_set];rfl
  ·rw[List.length_map,AR _ _ _ (by rw[List.length_take,Oz,ek];omega),ek];omega
 have nC:Hid (ws.map vw=(splice ws off ((AY t.k ⟨za,zb,zc,zd,ze⟩).take 0)).map vw):=by unfold Hid splice;simp
 have oq:Hid ((AY t.k ⟨za,zb,zc,zd,ze⟩).take t.k=AY t.k ⟨za,zb,zc,zd,ze⟩):=List.take_of_length_le (by omega)
 have HX:=Lib.hid HM.out.row
 have HBF:=Lib.hid HM.out.buf
 have HG:=Lib.hid HM.out.words
 unfold RB at HX
 rw[←KM]at HX g0 Dv
 clear MJ Oz hoff ek FY Qq Xu ho hst IY hn KM
 generalize AY t.k ⟨za,zb,zc,zd,ze⟩=WL at*
 generalize Pc w G x p F n t ⟨za,zb,zc,zd,ze⟩=EO at*
 obtain⟨k,Ee,bound,first,blocks,b,g,l⟩:=t
 simp only at*
 generalize F.D.size=size at*
 obtain⟨r,hr⟩:∃r,r=(cnt+1)%Ee:=⟨_,rfl⟩
 obtain⟨c1,Gx⟩:∃c1,c1=cnt+1:=⟨_,rfl⟩
 have PC:(cnt:Int)+1=(c1:Int):=by omega
 have VT:c1≤100000000:=by have:=hbd.1;rw[Gx];omega
 have lE:Int.tmod (c1:Int) (Ee:Int)=(r:Int):=by rw[Gx,hr];rfl
 have DO:¬((Ee:Int)=0):=by have:=hh.1;omega
 have hrb:r≤254:=by rw[hr];have:=Nat.mod_lt (cnt+1) hh.1;omega
 rw[←hr,←Gx]at Aq
 clear hr Gx HM hbd Fw Dv
 go_enter Tryz.func39,Tryz.ntmps39
 go_wp2
 refine wp_region_quiet_below (by kernel_rfl) (by kernel_rfl) ?_
 repeat(any_goals(first|go_big_quiet_step (with_reducible first|exact Q1.out _ _|exact Q2.out _ _)|quiet_step (with_reducible first|exact Q1.out _ _|exact Q2.out _ _)))
 refine wpQuiet_nil ?_
 intro w5 EU
 obtain⟨⟨dq,osq⟩,EU⟩:=EU
 have Bm:=below_regrown (w.alloc (.cells #[.int .i64 za,.int .i64 zb,.int .i64 zc,.int .i64 zd,.int .i64 ze] 63)) dq osq
 rw[←EU]at Bm
 clear EU
 have BW:=Lib.hid (tG.out.trans (Bm.mono (by simp)))
 have Cc:=Lib.hid (De.out.below Bm (by simp))
 clear Bm Q1 Q2 k0 k1 k2 k3 k4 k5 tG De
 have c3:w5.cell? ⟨x,3,none⟩=some (.int .i64 bound):=(HX.out.below BW.out OZ.out.1).cell 3
 have c4:w5.cell? ⟨x,4,none⟩=some (.int .i64 cnt):=(HX.out.below BW.out OZ.out.1).cell 4
 go_wp2
 go_region
 clear c3 c4
 have Q9:=Lib.hid (AH BW.out)
 have uk:=Lib.hid (Cc.out.drewN 1)
 clear BW Cc
 have rD:w5.drewN 1=w5.drew:=rfl
 rw[rD]at uk
 clear rD
 generalize w5.drew=w6 at*
 have Q4:=Lib.hid (Q3.out w6 Q9.out)
 have k0:∀d' os,(Sort.grow (redrawn w6 d') os).cell? ⟨x,0,none⟩=some (.int .i64 k):=cell_regrown ((HX.out.below Q9.out OZ.out.1).cell 0)
 have k1:∀d' os,(Sort.grow (redrawn w6 d') os).cell? ⟨x,1,none⟩=some (.int .i64 Ee):=cell_regrown ((HX.out.below Q9.out OZ.out.1).cell 1)
 have k4:∀d' os,(Sort.grow (redrawn w6 d') os).cell? ⟨x,4,none⟩=some (.int .i64 cnt):=cell_regrown ((HX.out.below Q9.out OZ.out.1).cell 4)
 have k7:∀d' os,(Sort.grow (redrawn w6 d') os).cell? ⟨x,7,none⟩=some (.pointer (some ⟨b,0,none⟩)):=cell_regrown ((HX.out.below Q9.out OZ.out.1).cell 7)
 have kb:∀d' os,(Sort.grow (redrawn w6 d') os).cell? ⟨b,0,none⟩=some (.slice (some ⟨g,0,none⟩) size size):=cell_regrown ((HBF.out.below Q9.out OZ.out.2.1).cell 0)
 go_wp2
 refine wp_region_quiet_below (by kernel_rfl) (by kernel_rfl) ?_
 repeat(any_goals(first|go_big_quiet_step (with_reducible first|exact Q4.out _ _)|quiet_step (with_reducible first|exact Q4.out _ _)))
 refine wpQuiet_nil ?_
 intro w7 VH
 obtain⟨⟨dq,osq⟩,VH⟩:=VH
 have KN:=below_regrown w6 dq osq
 rw[←VH]at KN
 clear VH
 have Vu:=Lib.hid (Q9.out.trans (KN.mono Q9.out.size))
 have gL:=Lib.hid (uk.out.below KN uk.out.lt)
 clear KN Q4 Q3 k0 k1 k4 k7 kb uk Q9
 have Hs:=OZ.out.2.2
 have HG7:Hid (Row w7 g 127 ((splice ws off (WL.take 0)).map vw)):=by unfold Hid;rw[←nC.out];exact HG.out.below Vu.out Hs
 have wo:w.heap.size≠g:=by omega
 clear HG nC
 go_wp2
 go_loopw [48] (fun iv wr=>∃i:Nat,i≤k∧iv=.int .i64 (i:Int)∧Hid (AK (fun j=>j=g) w7 wr)∧Hid (Row wr g 127 ((splice ws off (WL.take i)).map vw))) (fun iv _=>k-(intOf iv).toNat)
 case atStart=>exact⟨0,Nat.zero_le _,rfl,AK.refl _ _,HG7.out⟩
 case round=>
  obtain⟨i,hi,rfl,HF,bU⟩:=hrel
  by_cases hlt:i<k
  ·obtain⟨z,hz,hwz⟩:=gf.out i hlt
   obtain⟨KF,hil⟩:=gI.out i z hlt hwz
   have ct:wr.cell? ⟨w.heap.size,i,none⟩=some (.int .i64 z):=by
    rw[(HF.out.row gL.out wo).cell i]
    match i,hlt,hz with
    |0,_,hz=>simpa using hz
    |1,_,hz=>simpa using hz
    |2,_,hz=>simpa using hz
    |3,_,hz=>simpa using hz
    |4,_,hz=>simpa using hz
    |i+5,hlt,_=>omega
   have cg:∃v,wr.cell? ⟨g,off+i,none⟩=some v:=⟨_,(bU.out.cell (off+i)).trans (List.getElem?_eq_getElem hil)⟩
   obtain⟨v0,cg⟩:=cg
   have fg:=bU.out.free (off+i)
   have Ea:Hid (Row (wr.setCell ⟨g,off+i,none⟩ (.int .u64 (uw z:Nat))) g 127 ((splice ws off (WL.take (i+1))).map vw)):=by
    have h1:=bU.out.set (off+i) (.int .u64 (uw z:Nat))
    rw[KF]at h1;exact h1
   have Jw:Hid (AK (fun j=>j=g) w7 (wr.setCell ⟨g,off+i,none⟩ (.int .u64 (uw z:Nat)))):=HF.out.set (p:=⟨g,off+i,none⟩) (.inl rfl) _
   have NK:(0:Int)≤(i:Int):=by omega
   have lX:(i:Int)<(k:Int):=by omega
   have VQ:(i:Int)<5:=by omega
   have AB0:IntKind.u64.wrap z=((uw z:Nat):Int):=Uw z
   clear KF hil hz hwz hi
   generalize uw z=u at*
   go_wp2
   go_roundw
   case rel=>exact⟨i+1,by omega,by go_num,Jw.out,Ea.out⟩
   case measure=>simp[intOf];omega
  ·obtain rfl:i=k:=by omega
   have MI:Row wr x 122 [.int .i64 i,.int .i64 Ee,.pointer (some ⟨p.w,0,none⟩),.int .i64 bound,.int .i64 cnt,.int .i64 first,.int .i64 blocks,.pointer (some ⟨b,0,none⟩)]:=HF.out.row (HX.out.below Vu.out OZ.out.1) Sy
   have c4:wr.cell? ⟨x,4,none⟩=some (.int .i64 cnt):=MI.cell 4
   have f4:=MI.free 4
   have ON:Row (wr.setCell ⟨x,4,none⟩ (.int .i64 c1)) x 122 [.int .i64 i,.int .i64 Ee,.pointer (some ⟨p.w,0,none⟩),.int .i64 bound,.int .i64 c1,.int .i64 first,.int .i64 blocks,.pointer (some ⟨b,0,none⟩)]:=MI.set 4 _
   have qS:Row (wr.setCell ⟨x,4,none⟩ (.int .i64 c1)) g 127 ((splice ws off WL).map vw):=by
    have h1:=bU.out
    rw[oq.out]at h1
    exact h1.CU (p:=⟨x,4,none⟩) (fun e=>Sy e.symm) _
   have iq:AK (fun k=>k=x∨k=g) w (wr.setCell ⟨x,4,none⟩ (.int .i64 c1)):=(((AK.AJ Vu.out (fun k=>k=x∨k=g)).trans HF.out fun b hb=>.inl (.inr hb))).set (p:=⟨x,4,none⟩) (.inl (.inl rfl)) _
   have d4:(wr.setCell ⟨x,4,none⟩ (.int .i64 c1)).cell? ⟨x,4,none⟩=some (.int .i64 c1):=ON.cell 4
   have d1:(wr.setCell ⟨x,4,none⟩ (.int .i64 c1)).cell? ⟨x,1,none⟩=some (.int .i64 Ee):=ON.cell 1
   have cY:=Lib.hid ON
   have sR:=Lib.hid qS
   have YJ:=Lib.hid iq
   clear MI ON qS iq bU HF HX gI gf oq HG7 gL
   go_wp2
   generalize wr.setCell ⟨x,4,none⟩ (.int .i64 c1)=w8 at*
   have HE:=Lib.hid (Aq.out w8.drew (YJ.out.drew) (cY.out.drewN 1) (sR.out.drewN 1))
   clear Aq cY sR YJ
   by_cases Cz:0<r
   ·have gr:decide ((r:Int)>0)=true:=by simp;omega
    have cD:=Lib.hid (HE.out.1 Cz)
    clear HE
    go_region
    go_wp2
    exact cD.out
   ·have gr:decide ((r:Int)>0)=false:=by simp;omega
    have cD:=Lib.hid (HE.out.2 Cz)
    clear HE
    go_region
    go_wp2_with fail
    refine cD.out.mono ?_;rintro e w9 ⟨er,rfl,h9⟩
    have H9:=Lib.hid h9
    clear h9 cD
    go_wp2
    exact H9.out
end Go.Proofs.YteldegofbbfaeaaGreat
