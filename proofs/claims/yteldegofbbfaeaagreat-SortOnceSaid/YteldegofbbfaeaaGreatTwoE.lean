/- What the laws stand on. -/
import Derived.Test.YteldegofbbfaeaaGreatTwoD
namespace Go.Proofs.YteldegofbbfaeaaGreat
set_option linter.unusedVariables false
set_option maxRecDepth 100000
set_option maxHeartbeats 8000000
open Go.ChangeShapes Go.WideShapes Go.ChangeAt Go.RowKit
open Go.Joins Go.Deep
open Go.ChangeShapes Go.WideShapes Go.ChangeAt Go.RowKit Go.Maps
open Go.ChangeMaps (setBlock heap_setBlock_same heap_setBlock_other)
section
variable {α : Type} {sx : Nat} {d : α} {lt : α → α → Bool} {R : List α → World → Prop} {h : List α} {n : Nat} {W : World}
structure Qg (sx:Nat) (d:α) (lt:α→α→Bool) (R:List α→World→Prop):Prop where
 len:∀h W,R h W→Calls Tryz.prog 130 #[.pointer (some ⟨sx,0,none⟩)] W fun e w'=>e=.returned (.int .i64 h.length)∧R h w'
 less:∀h W i j,R h W→i<h.length→j<h.length→Calls Tryz.prog 164 #[.pointer (some ⟨sx,0,none⟩),.int .i64 (i:Nat),.int .i64 (j:Nat)] W fun e w'=>e=.returned (.bool (lt (h.getD i d) (h.getD j d)))∧R h w'
 swap:∀h W i j,R h W→i<h.length→j<h.length→Calls Tryz.prog 167 #[.pointer (some ⟨sx,0,none⟩),.int .i64 (i:Nat),.int .i64 (j:Nat)] W fun e w'=>e=.returned (.tuple #[])∧R (swp d h i j) w'
theorem Pf(x:Nat)(w:World):Sem.run Tryz.prog (method 335 184 (.pointer (some ⟨x,0,none⟩)) "Less") w=.ok (164,.pointer (some ⟨x,0,none⟩)) w:=by kernel_rfl
theorem LX(x:Nat)(w:World):Sem.run Tryz.prog (method 335 184 (.pointer (some ⟨x,0,none⟩)) "Swap") w=.ok (167,.pointer (some ⟨x,0,none⟩)) w:=by kernel_rfl
theorem NV(x:Nat)(w:World):Sem.run Tryz.prog (method 335 184 (.pointer (some ⟨x,0,none⟩)) "Len") w=.ok (130,.pointer (some ⟨x,0,none⟩)) w:=by kernel_rfl
theorem fB(W:World):Calls Tryz.prog 137 #[.iface 184 (.pointer (some ⟨sx,0,none⟩)),.int .i64 0] W fun e w'=>e=.returned (.tuple #[])∧w'=W:=by
 go_enter Tryz.func137,Tryz.ntmps137
 go_wp2_with fail
 go_loopw [1] (fun iv wr=>iv=.int .i64 0∧wr=W) (fun _ _=>0)
 case atStart=>exact⟨rfl,rfl⟩
 case round=>
  obtain⟨rfl,rfl⟩:=hrel
  go_wp2
  go_end0
  exact⟨rfl,rfl⟩
theorem M8{i j:Nat}(hi:i<h.length)(hj:j<h.length):Chg (fun p=>h.getD p d) (fun p=>(swp d h i j).getD p d) i j:=fun p=>by
 show (swp d h i j).getD p d=if p=i then h.getD j d else if p=j then h.getD i d else h.getD p d
 rw[B0 hi hj]
 by_cases h1:p=i
 ·by_cases h2:p=j
  ·rw[if_pos h2,if_pos h1,←h1,←h2]
  ·rw[if_neg h2,if_pos h1,if_pos h1]
 ·by_cases h2:p=j
  ·rw[if_pos h2,if_neg h1,if_pos h2]
  ·rw[if_neg h2,if_neg h1,if_neg h1,if_neg h2]
variable [DecidableEq α]
def dz(d:α)(lt:α→α→Bool)(R:List α→World→Prop)(h:List α)(n:Nat)(e:Ending)(w':World):Prop:=∃b h',e=.returned (.bool b)∧Hp lt (fun p=>h'.getD p d) n∧h'.Perm h∧(∀p,n≤p→h'.getD p d=h.getD p d)∧(b=false→h'=h)∧R h' w'
theorem P5(hC:Qg sx d lt R)(ho:eR lt)(hr:R h W)(hn:n≤h.length∧n≤1000000)(hx:Yw lt (fun p=>h.getD p d) n 0):
  Calls Tryz.prog 170 #[.iface 184 (.pointer (some ⟨sx,0,none⟩)),.int .i64 0,.int .i64 (n:Nat)] W (dz d lt R h n):=by
 have HC:=Lib.hid hC
 have hO:=Lib.hid ho
 have mL:=Pf sx
 have mS:=LX sx
 have uL:=Lib.hid hx
 have Hj:=Lib.hid hr
 obtain⟨kF,TM⟩:=hn
 clear hC ho hx hr
 go_enter Tryz.func170,Tryz.ntmps170
 go_wp2_with fail
 go_loopw [7] (fun iv wr=>∃(i:Nat) (h':List α),iv=.int .i64 (i:Nat)∧i≤n∧h'.length=h.length∧(i=0→h'=h)∧Hid (Yw lt (fun p=>h'.getD p d) n i)∧Hid (h'.Perm h)∧Hid (∀p,n≤p→h'.getD p d=h.getD p d)∧Hid (R h' wr)) (fun iv _=>n-(intOf iv).toNat)
 case atStart=>exact⟨0,h,rfl,by omega,rfl,fun _=>rfl,uL,List.Perm.refl _,fun _ _=>rfl,Hj⟩
 case round=>
  obtain⟨i,h',rfl,PI,hlen,h0,HX,HP,HT,h3⟩:=hrel
  generalize wr=w2 at*
  clear uL Hj
  obtain⟨e2,he2⟩:∃e2,2*i=e2:=⟨_,rfl⟩
  obtain⟨c1,Hh⟩:∃c1,e2+1=c1:=⟨_,rfl⟩
  obtain⟨c2,Lr⟩:∃c2,c1+1=c2:=⟨_,rfl⟩
  have m1:(2:Int)*(i:Int)=(e2:Int):=by omega
  have m2:(e2:Int)+1=(c1:Int):=by omega
  have m3:(c1:Int)+1=(c2:Int):=by omega
  have WW:2*i+1≤c1∧c1≤2*i+1∧c2≤2*i+2∧2*i+2≤c2:=by omega
  have uZ:Hid (∀j,0<j→par j=i→j=c1∨j=c2):=fun j _ hj=>by unfold par at hj;omega
  have AF8:e2≤2*i∧2*i≤e2:=by omega
  clear he2 Hh Lr
  have hir:∀a,lt a a=false:=fun a=>by
   cases hq:lt a a with
   |false=>rfl
   |true=>have:=hO.out.asym a a hq;rw[hq]at this;exact this
  have HIR:=Lib.hid hir
  clear hir
  by_cases AF2:c1<n
  ·by_cases yW:c2<n
   ·have O6:=Lib.hid (HC.out.less h' w2 c2 c1 h3.out (by omega) (by omega))
    clear h3
    go_wp2_with fail
    refine O6.out.mono ?_
    rintro e w3 ⟨rfl,h3⟩
    replace h3:=Lib.hid h3
    by_cases Am:lt (h'.getD c2 d) (h'.getD c1 d)=true
    ·rw[Am]
     have HM:Hid (∀j,0<j→j<n→par j=i→lt (h'.getD j d) (h'.getD c2 d)=false):=fun j j0 j1 j2=>by
      rcases uZ.out j j0 j2 with rfl|rfl
      ·exact hO.out.asym _ _ Am
      ·exact HIR.out _
     clear Am
     have RS:c2<h'.length:=by omega
     have pK:=Lib.hid (HC.out.less h' w3 c2 i h3.out RS (by omega))
     go_wp2_with fail
     refine pK.out.mono ?_
     rintro e w4 ⟨rfl,h4⟩
     replace h4:=Lib.hid h4
     by_cases AZ:lt (h'.getD c2 d) (h'.getD i d)=true
     ·rw[AZ]
      have KK:=Lib.hid (HC.out.swap h' w4 i c2 h4.out (by omega) RS)
      have ES:=Lib.hid (HX.out.step hO.out (c:=c2) (by omega) (by omega) AZ HM.out (M8 (by omega) RS))
      have Ko:(swp d h' i c2).length=h'.length:=CG
      have o8:=Lib.hid ((Ge (d:=d) (i:=i) (j:=c2) (by omega) RS).trans HP.out)
      have Rp:Hid (∀p,n≤p→(swp d h' i c2).getD p d=h.getD p d):=fun p hp=>by rw[B0 (by omega) RS,if_neg (by omega),if_neg (by omega)];exact HT.out p hp
      have hib:i<c2:=by omega
      have WW:c2<n:=by omega
      generalize swp d h' i c2=h2 at*
      clear AZ
      go_wp2_with fail
      refine KK.out.mono ?_
      rintro e w5 ⟨rfl,h5⟩
      replace h5:=Lib.hid h5
      go_wp2
      go_roundw
      case rel=>exact⟨c2,h2,rfl,by omega,by omega,fun h0=>by omega,ES,o8,Rp,h5⟩
      case measure=>simp[intOf];omega
     ·have A8:lt (h'.getD c2 d) (h'.getD i d)=false:=by simpa using AZ
      rw[A8]
      have Aw:=Lib.hid (HX.out.stop hO.out A8 HM.out)
      clear AZ A8
      by_cases B7:i=0
      ·subst B7
       obtain rfl:=h0 rfl
       go_wp2
       go_ret
       exact⟨_,_,rfl,Aw.out,List.Perm.refl _,fun _ _=>rfl,fun _=>rfl,h4.out⟩
      ·have yl:0<i:=by omega
       go_wp2
       go_ret
       exact⟨_,_,rfl,Aw.out,HP.out,HT.out,fun hf=>by simp at hf,h4.out⟩
    ·have nY:lt (h'.getD c2 d) (h'.getD c1 d)=false:=by simpa using Am
     rw[nY]
     have HM:Hid (∀j,0<j→j<n→par j=i→lt (h'.getD j d) (h'.getD c1 d)=false):=fun j j0 j1 j2=>by
      rcases uZ.out j j0 j2 with rfl|rfl
      ·exact HIR.out _
      ·exact nY
     clear Am nY
     have RS:c1<h'.length:=by omega
     have pK:=Lib.hid (HC.out.less h' w3 c1 i h3.out RS (by omega))
     go_wp2_with fail
     refine pK.out.mono ?_
     rintro e w4 ⟨rfl,h4⟩
     replace h4:=Lib.hid h4
     by_cases AZ:lt (h'.getD c1 d) (h'.getD i d)=true
     ·rw[AZ]
      have KK:=Lib.hid (HC.out.swap h' w4 i c1 h4.out (by omega) RS)
      have ES:=Lib.hid (HX.out.step hO.out (c:=c1) (by omega) (by omega) AZ HM.out (M8 (by omega) RS))
      have Ko:(swp d h' i c1).length=h'.length:=CG
      have o8:=Lib.hid ((Ge (d:=d) (i:=i) (j:=c1) (by omega) RS).trans HP.out)
      have Rp:Hid (∀p,n≤p→(swp d h' i c1).getD p d=h.getD p d):=fun p hp=>by rw[B0 (by omega) RS,if_neg (by omega),if_neg (by omega)];exact HT.out p hp
      have hib:i<c1:=by omega
      have WW:c1<n:=by omega
      generalize swp d h' i c1=h2 at*
      clear AZ
      go_wp2_with fail
      refine KK.out.mono ?_
      rintro e w5 ⟨rfl,h5⟩
      replace h5:=Lib.hid h5
      go_wp2
      go_roundw
      case rel=>exact⟨c1,h2,rfl,by omega,by omega,fun h0=>by omega,ES,o8,Rp,h5⟩
      case measure=>simp[intOf];omega
     ·have A8:lt (h'.getD c1 d) (h'.getD i d)=false:=by simpa using AZ
      rw[A8]
      have Aw:=Lib.hid (HX.out.stop hO.out A8 HM.out)
      clear AZ A8
      by_cases B7:i=0
      ·subst B7
       obtain rfl:=h0 rfl
       go_wp2
       go_ret
       exact⟨_,_,rfl,Aw.out,List.Perm.refl _,fun _ _=>rfl,fun _=>rfl,h4.out⟩
      ·have yl:0<i:=by omega
       go_wp2
       go_ret
       exact⟨_,_,rfl,Aw.out,HP.out,HT.out,fun hf=>by simp at hf,h4.out⟩
   ·generalize w2=w3 at*
    have HM:Hid (∀j,0<j→j<n→par j=i→lt (h'.getD j d) (h'.getD c1 d)=false):=fun j j0 j1 j2=>by
     rcases uZ.out j j0 j2 with rfl|rfl
     ·exact HIR.out _
     ·exact absurd j1 yW
    have RS:c1<h'.length:=by omega
    have pK:=Lib.hid (HC.out.less h' w3 c1 i h3.out RS (by omega))
    go_wp2_with fail
    refine pK.out.mono ?_
    rintro e w4 ⟨rfl,h4⟩
    replace h4:=Lib.hid h4
    by_cases AZ:lt (h'.getD c1 d) (h'.getD i d)=true
    ·rw[AZ]
     have KK:=Lib.hid (HC.out.swap h' w4 i c1 h4.out (by omega) RS)
     have ES:=Lib.hid (HX.out.step hO.out (c:=c1) (by omega) (by omega) AZ HM.out (M8 (by omega) RS))
     have Ko:(swp d h' i c1).length=h'.length:=CG
     have o8:=Lib.hid ((Ge (d:=d) (i:=i) (j:=c1) (by omega) RS).trans HP.out)
     have Rp:Hid (∀p,n≤p→(swp d h' i c1).getD p d=h.getD p d):=fun p hp=>by rw[B0 (by omega) RS,if_neg (by omega),if_neg (by omega)];exact HT.out p hp
     have hib:i<c1:=by omega
     have WW:c1<n:=by omega
     generalize swp d h' i c1=h2 at*
     clear AZ
     go_wp2_with fail
     refine KK.out.mono ?_
     rintro e w5 ⟨rfl,h5⟩
     replace h5:=Lib.hid h5
     go_wp2
     go_roundw
     case rel=>exact⟨c1,h2,rfl,by omega,by omega,fun h0=>by omega,ES,o8,Rp,h5⟩
     case measure=>simp[intOf];omega
    ·have A8:lt (h'.getD c1 d) (h'.getD i d)=false:=by simpa using AZ
     rw[A8]
     have Aw:=Lib.hid (HX.out.stop hO.out A8 HM.out)
     clear AZ A8
     by_cases B7:i=0
     ·subst B7
      obtain rfl:=h0 rfl
      go_wp2
      go_ret
      exact⟨_,_,rfl,Aw.out,List.Perm.refl _,fun _ _=>rfl,fun _=>rfl,h4.out⟩
     ·have yl:0<i:=by omega
      go_wp2
      go_ret
      exact⟨_,_,rfl,Aw.out,HP.out,HT.out,fun hf=>by simp at hf,h4.out⟩
  ·have Aw:=Lib.hid (HX.out.leaf (by omega))
   by_cases B7:i=0
   ·subst B7
    obtain rfl:=h0 rfl
    go_wp2
    go_ret
    exact⟨_,_,rfl,Aw.out,List.Perm.refl _,fun _ _=>rfl,fun _=>rfl,h3.out⟩
   ·have yl:0<i:=by omega
    go_wp2
    go_ret
    exact⟨_,_,rfl,Aw.out,HP.out,HT.out,fun hf=>by simp at hf,h3.out⟩
end
section
variable {α : Type} [DecidableEq α] {sx : Nat} {d : α} {lt : α → α → Bool} {R : List α → World → Prop} {h : List α} {n x : Nat} {W : World}
theorem gT(hC:Qg sx d lt R)(ho:eR lt)(hr:R h W)(hn:n=h.length∧n≤1000000∧x<n)(hx:iX lt (fun p=>h.getD p d) n x):
  Calls Tryz.prog 137 #[.iface 184 (.pointer (some ⟨sx,0,none⟩)),.int .i64 (x:Nat)] W fun e w'=>e=.returned (.tuple #[])∧∃h',Hp lt (fun p=>h'.getD p d) n∧h'.Perm h∧R h' w':=by
 have HC:=Lib.hid hC
 have hO:=Lib.hid ho
 have mL:=Pf sx
 have mS:=LX sx
 have uL:=Lib.hid hx
 have Hj:=Lib.hid hr
 obtain⟨kF,TM,hxn⟩:=hn
 have HN:=Lib.hid kF
 clear hC ho hx hr kF
 go_enter Tryz.func137,Tryz.ntmps137
 go_wp2_with fail
 go_loopw [1] (fun iv wr=>∃(j:Nat) (h':List α),iv=.int .i64 (j:Nat)∧j<n∧Hid (h'.length=h.length)∧Hid (iX lt (fun p=>h'.getD p d) n j)∧Hid (h'.Perm h)∧Hid (R h' wr)) (fun iv _=>(intOf iv).toNat)
 case atStart=>exact⟨x,h,rfl,by omega,rfl,uL,List.Perm.refl _,Hj⟩
 case round=>
  obtain⟨j,h',rfl,hjn,hlen,HX,HP,h3⟩:=hrel
  generalize wr=w2 at*
  clear uL Hj
  by_cases PG:j=0
  ·subst PG
   have HE:=Lib.hid HX.out.root
   go_wp2
   go_end0
   exact⟨rfl,h',HE.out,HP.out,h3.out⟩
  ·obtain⟨jm,kK⟩:∃jm,j-1=jm:=⟨_,rfl⟩
   obtain⟨pj,sL⟩:∃pj,jm/2=pj:=⟨_,rfl⟩
   have m1:(j:Int)-1=(jm:Int):=by omega
   have m2:(jm:Int).tdiv 2=(pj:Int):=by rw[←sL];rfl
   have sM:par j=pj:=by unfold par;rw[kK];exact sL
   have Am:pj<j∧jm<j:=by omega
   have g1:((pj:Int)==(j:Int))=false:=by simp;omega
   have E1:j<h'.length:=by have:=hlen.out;have:=HN.out;omega
   have O6:=Lib.hid (HC.out.less h' w2 j pj h3.out E1 (by omega))
   have eV:=Lib.hid sM
   have nQ:0<j:=by omega
   have qg:=Lib.hid E1
   clear sL kK sM h3 E1
   go_wp2_with fail
   refine O6.out.mono ?_
   rintro e w3 ⟨rfl,h3⟩
   replace h3:=Lib.hid h3
   by_cases hb:lt (h'.getD j d) (h'.getD pj d)=true
   ·rw[hb]
    have ES:=Lib.hid (HX.out.step hO.out nQ hjn (by show lt (h'.getD j d) (h'.getD (par j) d)=true;rw[eV.out];exact hb) (M8 (by rw[eV.out];have:=qg.out;omega) qg.out))
    rw[eV.out]at ES
    have lE:=Lib.hid (HC.out.swap h' w3 pj j h3.out (by have:=qg.out;omega) qg.out)
    have pJ:Hid ((swp d h' pj j).length=h.length):=CG.trans hlen.out
    have o8:=Lib.hid ((Ge (d:=d) (i:=pj) (j:=j) (by have:=qg.out;omega) qg.out).trans HP.out)
    generalize swp d h' pj j=h2 at*
    clear hb
    go_wp2_with fail
    refine lE.out.mono ?_
    rintro e w4 ⟨rfl,h4⟩
    replace h4:=Lib.hid h4
    go_wp2
    go_roundw
    case rel=>exact⟨pj,h2,rfl,by omega,pJ,ES,o8,h4⟩
    case measure=>simp[intOf];omega
   ·have hb':lt (h'.getD j d) (h'.getD pj d)=false:=by simpa using hb
    rw[hb']
    have HE:=Lib.hid (HX.out.stop (by show lt (h'.getD j d) (h'.getD (par j) d)=false;rw[eV.out];exact hb'))
    clear hb hb'
    go_wp2
    go_end0
    exact⟨rfl,h',HE.out,HP.out,h3.out⟩
theorem XU(x:Nat)(w:World):Sem.run Tryz.prog (method 335 184 (.pointer (some ⟨x,0,none⟩)) "Push") w=.ok (166,.pointer (some ⟨x,0,none⟩)) w:=by kernel_rfl
theorem Zo(x:Nat)(w:World):Sem.run Tryz.prog (method 335 184 (.pointer (some ⟨x,0,none⟩)) "Pop") w=.ok (172,.pointer (some ⟨x,0,none⟩)) w:=by kernel_rfl
theorem bh(hC:Qg sx d lt R)(ho:eR lt)(hr:R h W)(hn:h.length≤1000000)(hx:Yw lt (fun p=>h.getD p d) h.length 0):
  Calls Tryz.prog 168 #[.iface 184 (.pointer (some ⟨sx,0,none⟩)),.int .i64 0] W fun e w'=>e=.returned (.tuple #[])∧∃h',Hp lt (fun p=>h'.getD p d) h.length∧h'.Perm h∧R h' w':=by
 have mN:=NV sx
 have HL:=Lib.hid (hC.len h W hr)
 have HD:Hid (∀W,R h W→Calls Tryz.prog 170 #[.iface 184 (.pointer (some ⟨sx,0,none⟩)),.int .i64 0,.int .i64 (h.length:Nat)] W (dz d lt R h h.length)):=fun W h1=>P5 hC ho h1 ⟨Nat.le_refl _,hn⟩ hx
 clear hC ho hr hx
 generalize hN:h.length=N at*
 clear hN
 go_enter Tryz.func168,Tryz.ntmps168
 go_wp2_with fail
 refine HL.out.mono ?_
 rintro e w2 ⟨rfl,h2⟩
 have HD2:=Lib.hid (HD.out w2 h2)
 clear h2 HD
 go_wp2_with fail
 refine HD2.out.mono ?_
 rintro e w3 ⟨b,h',rfl,h3,h4,h5,h6,h7⟩
 have H3:=Lib.hid h3
 have H4:=Lib.hid h4
 have H7:=Lib.hid h7
 clear h3 h4 h5 h6 h7
 cases b
 ·have HU:=Lib.hid (fB (sx:=sx) w3)
  go_wp2_with fail
  refine HU.out.mono ?_
  rintro e w4 ⟨rfl,rfl⟩
  go_wp2
  go_end0
  exact⟨rfl,h',H3.out,H4.out,H7.out⟩
 ·go_wp2
  go_end0
  exact⟨rfl,h',H3.out,H4.out,H7.out⟩
theorem bQ{enc:α→Value}(hC:Qg sx d lt R)(ho:eR lt)(hr:R h W)(hn:h.length≤1000000)(hne:0<h.length)(hx:Hp lt (fun p=>h.getD p d) h.length)
  (sJ:∀h W,R h W→0<h.length→Calls Tryz.prog 172 #[.pointer (some ⟨sx,0,none⟩)] W fun e w'=>e=.returned (enc (h.getD (h.length-1) d))∧R (h.take (h.length-1)) w'):
  Calls Tryz.prog 169 #[.iface 184 (.pointer (some ⟨sx,0,none⟩))] W fun e w'=>e=.returned (enc (h.getD 0 d))∧∃h',Hp lt (fun p=>h'.getD p d) (h.length-1)∧h'.length=h.length-1∧(h.getD 0 d::h').Perm h∧R h' w':=by
 have mN:=NV sx
 have mS:=LX sx
 have mP:=Zo sx
 have HL:=Lib.hid (hC.len h W hr)
 obtain⟨n,hN⟩:∃n,h.length-1=n:=⟨_,rfl⟩
 have lE:Hid (∀W,R h W→Calls Tryz.prog 167 #[.pointer (some ⟨sx,0,none⟩),.int .i64 0,.int .i64 (n:Nat)] W fun e w'=>e=.returned (.tuple #[])∧R (swp d h 0 n) w'):=fun W h1=>hC.swap h W 0 n h1 hne (by omega)
 have hD0:Yw lt (fun p=>(swp d h 0 n).getD p d) n 0:=Hp.ko fun j h0 h1 hp=>by
  have Bm:=Ii h0
  have hpn:par j≠n:=by omega
  show lt ((swp d h 0 n).getD j d) ((swp d h 0 n).getD (par j) d)=false
  rw[B0 hne (by omega),B0 hne (by omega),if_neg (by omega),if_neg (by omega),if_neg hpn,if_neg hp]
  exact hx j h0 (by omega)
 have HD:Hid (∀W,R (swp d h 0 n) W→Calls Tryz.prog 170 #[.iface 184 (.pointer (some ⟨sx,0,none⟩)),.int .i64 0,.int .i64 (n:Nat)] W (dz d lt R (swp d h 0 n) n)):=fun W h1=>P5 hC ho h1 ⟨by rw[CG];omega,by omega⟩ hD0
 have jD:=Lib.hid sJ
 have Aw:Hid (∀h':List α,h'.Perm (swp d h 0 n)→(∀p,n≤p→h'.getD p d=(swp d h 0 n).getD p d)→h'.length-1=n∧0<h'.length∧h'.getD n d=h.getD 0 d∧(h.getD 0 d::h'.take n).Perm h):=fun h' hp ht=>by
  have hl:h'.length=h.length:=by rw[hp.length_eq,CG]
  have h1:h'.getD n d=h.getD 0 d:=by rw[ht n (Nat.le_refl _),B0 hne (by omega),if_pos rfl]
  refine⟨by omega,by omega,h1,?_⟩
  have h2:h'=h'.take n++[h'.getD n d]:=by
   have h3:h'.take (n+1)=h':=List.take_of_length_le (by omega)
   rw[List.take_add_one,List.getElem?_eq_getElem (by omega)]at h3
   have h4:h'.getD n d=h'[n]:=by rw[List.getD_eq_getElem?_getD,List.getElem?_eq_getElem (by omega)];rfl
   rw[h4];exact h3.symm
  rw[h1]at h2
  have h5:(h.getD 0 d::h'.take n).Perm h':=by
   have h6:(h.getD 0 d::h'.take n).Perm (h'.take n++[h.getD 0 d]):=(List.perm_append_singleton _ _).symm
   rw[←h2]at h6;exact h6
  exact h5.trans (hp.trans (Ge hne (by omega)))
 have m1:(h.length:Int)-1=(n:Int):=by omega
 have Hu:h.length≤1000000:=hn
 generalize hH0:h.getD 0 d=s0 at*
 clear hC ho hr hx sJ hD0 hH0
 have lH:=Lib.hid hN
 clear hN
 generalize wH:h.length=L at*
 clear wH
 generalize swp d h 0 n=h1 at*
 go_enter Tryz.func169,Tryz.ntmps169
 go_wp2_with fail
 refine HL.out.mono ?_
 rintro e w2 ⟨rfl,h2⟩
 have H2:=Lib.hid (lE.out w2 h2)
 clear h2 lE
 go_wp2_with fail
 refine H2.out.mono ?_
 rintro e w3 ⟨rfl,h3⟩
 have H3:=Lib.hid (HD.out w3 h3)
 clear h3 HD
 go_wp2_with fail
 refine H3.out.mono ?_
 rintro e w4 ⟨b,h',rfl,h4,h5,h6,h7,h8⟩
 obtain⟨k1,k2,k3,k4⟩:=Aw.out h' h5 h6
 have H8:=jD.out h' w4 h8 k2
 rw[k1,k3]at H8
 have H9:=Lib.hid H8
 have H4:=Lib.hid h4
 have K4:=Lib.hid k4
 have K1:=Lib.hid k1
 clear h4 h5 h6 h7 h8 k1 k2 k3 k4 H8
 go_wp2_with fail
 refine H9.out.mono ?_
 rintro e w5 ⟨rfl,h9⟩
 have wv:=Lib.hid h9
 clear h9
 go_wp2
 go_ret
 refine⟨rfl,h'.take n,?_,?_,K4.out,wv.out⟩
 ·rw[lH.out]
  intro j h0 h1
  have h2:=H4.out j h0 h1
  have h3:=Ii h0
  show lt ((h'.take n).getD j d) ((h'.take n).getD (par j) d)=false
  rw[List.getD_eq_getElem?_getD,List.getD_eq_getElem?_getD,List.getElem?_take,List.getElem?_take,if_pos h1,if_pos (by omega),←List.getD_eq_getElem?_getD,←List.getD_eq_getElem?_getD]
  exact h2
 ·rw[lH.out,List.length_take];have:=K1.out;omega
theorem YJ{v:Value}{a:α}(hC:Qg sx d lt R)(ho:eR lt)(hn:h.length+1≤1000000)(hx:Hp lt (fun p=>h.getD p d) h.length)
  (j4:Calls Tryz.prog 166 #[.pointer (some ⟨sx,0,none⟩),v] W fun e w'=>e=.returned (.tuple #[])∧R (h++[a]) w'):
  Calls Tryz.prog 131 #[.iface 184 (.pointer (some ⟨sx,0,none⟩)),v] W fun e w'=>e=.returned (.tuple #[])∧∃h',Hp lt (fun p=>h'.getD p d) (h.length+1)∧h'.Perm (h++[a])∧R h' w':=by
 have mN:=NV sx
 have mP:=XU sx
 have qZ:=Lib.hid j4
 have hl:(h++[a]).length=h.length+1:=by rw[List.length_append];rfl
 have U3:∀p,p<h.length→(h++[a]).getD p d=h.getD p d:=fun p hp=>by rw[List.getD_eq_getElem?_getD,List.getD_eq_getElem?_getD,List.getElem?_append_left hp]
 have HL:Hid (∀W,R (h++[a]) W→Calls Tryz.prog 130 #[.pointer (some ⟨sx,0,none⟩)] W fun e w'=>e=.returned (.int .i64 ((h.length+1:Nat):Int))∧R (h++[a]) w'):=fun W h1=>by
  have h2:=hC.len _ W h1
  rw[hl]at h2;exact h2
 have HU:Hid (∀W,R (h++[a]) W→Calls Tryz.prog 137 #[.iface 184 (.pointer (some ⟨sx,0,none⟩)),.int .i64 (h.length:Nat)] W fun e w'=>e=.returned (.tuple #[])∧∃h',Hp lt (fun p=>h'.getD p d) (h.length+1)∧h'.Perm (h++[a])∧R h' w'):=fun W h1=>by
  refine gT hC ho h1 ⟨hl.symm,hn,by omega⟩ ⟨fun j h0 h2 hj=>?_,fun hp j h0 h2 hj=>by unfold par at hj;omega⟩
  have h3:=Ii h0
  show lt ((h++[a]).getD j d) ((h++[a]).getD (par j) d)=false
  rw[U3 j (by omega),U3 (par j) (by omega)]
  exact hx j h0 (by omega)
 obtain⟨L,hL⟩:∃L,h.length+1=L:=⟨_,rfl⟩
 have m1:(L:Int)-1=(h.length:Int):=by omega
 have wG:1≤L∧L≤1000000:=by omega
 rw[hL]at HL HU⊢
 clear hC ho hx j4 hl U3 hL hn
 generalize h.length=n at*
 generalize h++[a]=h1 at*
 go_enter Tryz.func131,Tryz.ntmps131
 go_wp2_with fail
 refine qZ.out.mono ?_
 rintro e w2 ⟨rfl,h2⟩
 have H2:=Lib.hid (HL.out w2 h2)
 clear h2 HL
 go_wp2_with fail
 refine H2.out.mono ?_
 rintro e w3 ⟨rfl,h3⟩
 have H3:=Lib.hid (HU.out w3 h3)
 clear h3 HU
 go_wp2_with fail
 refine H3.out.mono ?_
 rintro e w4 ⟨rfl,h',h4,h5,h6⟩
 have H4:=Lib.hid h4
 have H5:=Lib.hid h5
 have H6:=Lib.hid h6
 clear h4 h5 h6
 go_wp2
 go_end0
 exact⟨rfl,h',H4.out,H5.out,H6.out⟩
end
def Gg(k g N cap:Nat)(o:AB)(lv:Value):List Value:=[.int .i64 k,.slice (some ⟨g,0,none⟩) N cap,.int .i64 o.a,.int .i64 o.b,.int .i64 o.c,.int .i64 o.d,.int .i64 o.e,lv]
def Mc(o:AB)(cur:Nat→AB)(a b:Nat×Nat):Bool:=decide (AO o (cur a.1) (cur b.1)<0)||(decide (AO o (cur a.1) (cur b.1)=0)&&decide (a.1<b.1))
theorem Kj(o:AB)(cur:Nat→AB):eR (Mc o cur) where
 asym:=fun a b h=>by
  have h1:=Ah o (cur a.1) (cur b.1)
  unfold Mc at*
  simp only[Bool.or_eq_true,Bool.and_eq_true,decide_eq_true_eq,Bool.or_eq_false_iff,Bool.and_eq_false_iff,decide_eq_false_iff_not]at*
  omega
 trans:=fun a b c h k=>by
  have h1:=Ah o (cur a.1) (cur b.1)
  have h2:=Ah o (cur b.1) (cur c.1)
  have h3:=Ah o (cur a.1) (cur c.1)
  unfold Mc at*
  simp only[Bool.or_eq_false_iff,Bool.and_eq_false_iff,decide_eq_false_iff_not]at*
  have h4:AO o (cur a.1) (cur b.1)≤0:=by omega
  have h5:AO o (cur b.1) (cur c.1)≤0:=by omega
  have h6:=CB h4 h5
  refine⟨by omega,?_⟩
  by_cases h7:AO o (cur c.1) (cur a.1)=0
  ·right
   have h8:AO o (cur a.1) (cur b.1)=0:=by
    by_cases h9:AO o (cur a.1) (cur b.1)<0
    ·have:=Gu h9 h5;omega
    ·omega
   have FJ:AO o (cur b.1) (cur c.1)=0:=by
    by_cases h9:AO o (cur b.1) (cur c.1)<0
    ·have:=Gv h4 h9;omega
    ·omega
   omega
  ·left;exact h7
section
variable {W : World} {sx k g N cap n c : Nat} {o : AB} {A : Option Addr}
theorem KV(hr:Row W sx 187 (Gg k g N cap o (.slice A n c))):Calls Tryz.prog 130 #[.pointer (some ⟨sx,0,none⟩)] W fun e w'=>e=.returned (.int .i64 n)∧w'=W:=by
 have c7:W.cell? ⟨sx,7,none⟩=some (.slice A n c):=hr.cell 7
 clear hr
 go_enter Tryz.func130,Tryz.ntmps130
 go_wp2
 go_ret
 exact⟨rfl,rfl⟩
end
section
variable {o : AB} {P : Nat} {live live' : Nat → List AB} {Y8 out : List AB} {p0 : Nat} {t : AB} {r : List AB}
def Ss(o:AB)(P:Nat)(live:Nat→List AB)(c:AB):List AB:=(List.range P).flatMap fun p=>(live p).filter (EB o c)
structure T5 (o:AB) (P:Nat) (live:Nat→List AB) (Y8 out:List AB):Prop where
 cl:∀c,out.filter (EB o c)++Ss o P live c=Y8.filter (EB o c)
 asc:Hl o out
 le:∀x∈out,∀p,p<P→∀y∈live p,AO o x y≤0
 live:∀p,p<P→Hl o (live p)
theorem OH{f g:Nat→List AB}:∀(l:List Nat) (_:∀p∈l,f p=g p),l.flatMap f=l.flatMap g
 |[],_=>rfl
 |a::l,h=>by rw[List.flatMap_cons,List.flatMap_cons,h a List.mem_cons_self,OH l fun p hp=>h p (List.mem_cons_of_mem _ hp)]
theorem range_split{P p0:Nat}(h:p0<P):List.range P=List.range p0++p0::(List.range (P-p0-1)).map (fun i=>p0+1+i):=by
 refine List.ext_getElem (by simp;omega) fun i h1 h2=>?_
 rw[List.getElem_range]
 rcases Nat.lt_trichotomy i p0 with hl|he|hg
 ·rw[List.getElem_append_left (by simp;omega),List.getElem_range]
 ·subst he
  rw[List.getElem_append_right (by simp)]
  simp
 ·rw[List.getElem_append_right (by simp;omega)]
  obtain⟨k,hk⟩:∃k,i-(List.range p0).length=k+1:=⟨i-p0-1,by simp;omega⟩
  simp only[hk,List.getElem_cons_succ,List.getElem_map,List.getElem_range]
  simp at hk
  omega
theorem T5.step(h:T5 o P live Y8 out)(hp:p0<P)(hl:live p0=t::r)(Ir:∀p u us,p<P→live p=u::us→AO o t u<0∨(AO o t u=0∧p0≤p))
  (h0:live' p0=r) (h1:∀p,p≠p0→live' p=live p):T5 o P live' Y8 (out++[t]):=by
 have Hw:∀p,p<P→∀y∈live p,AO o t y≤0:=fun p N4 y hy=>by
  cases hq:live p with
  |nil=>rw[hq]at hy;cases hy
  |cons u us=>
   have h2:AO o t u≤0:=by rcases Ir p u us N4 hq with h|h<;>omega
   rw[hq]at hy
   rcases List.mem_cons.1 hy with rfl|hy
   ·exact h2
   ·have h3:=h.live p N4
    rw[hq]at h3
    exact CB h2 ((List.pairwise_cons.1 h3).1 y hy)
 have hlt:∀p,p<p0→∀y∈live p,AO o t y<0:=fun p N4 y hy=>by
  cases hq:live p with
  |nil=>rw[hq]at hy;cases hy
  |cons u us=>
   have h2:AO o t u<0:=by rcases Ir p u us (by omega) hq with h|h<;>omega
   rw[hq]at hy
   rcases List.mem_cons.1 hy with rfl|hy
   ·exact h2
   ·have h3:=h.live p (by omega)
    rw[hq]at h3
    exact Gu h2 ((List.pairwise_cons.1 h3).1 y hy)
 have Fc:∀p,∀y∈live' p,y∈live p:=fun p y hy=>by
  by_cases N4:p=p0
  ·rw[N4]at hy⊢;rw[hl];rw[h0]at hy;exact List.mem_cons_of_mem _ hy
  ·rwa [h1 p N4]at hy
 refine⟨fun c=>?_,?_,fun x hx p N4 y hy=>?_,fun p N4=>?_⟩
 ·rw[←h.cl c,List.filter_append,List.append_assoc]
  congr 1
  unfold Ss
  rw[range_split hp,List.flatMap_append,List.flatMap_append,List.flatMap_cons,List.flatMap_cons,h0,hl]
  have e1:(List.range p0).flatMap (fun p=>(live' p).filter (EB o c))=(List.range p0).flatMap (fun p=>(live p).filter (EB o c)):=by
   refine OH _ fun p N4=>?_
   rw[h1 p (by have:=List.mem_range.1 N4;omega)]
  have e2:((List.range (P-p0-1)).map (fun i=>p0+1+i)).flatMap (fun p=>(live' p).filter (EB o c))=((List.range (P-p0-1)).map (fun i=>p0+1+i)).flatMap (fun p=>(live p).filter (EB o c)):=by
   refine OH _ fun p N4=>?_
   obtain⟨i,_,rfl⟩:=List.mem_map.1 N4
   rw[h1 _ (by omega)]
  rw[e1,e2]
  by_cases hc:EB o c t=true
  ·have e3:(List.range p0).flatMap (fun p=>(live p).filter (EB o c))=[]:=by
    refine List.flatMap_eq_nil_iff.2 fun p N4=>List.filter_eq_nil_iff.2 fun y hy he=>?_
    have h2:=hlt p (List.mem_range.1 N4) y hy
    unfold EB at he hc
    simp only[decide_eq_true_eq]at he hc
    have:=Gt hc he
    omega
   rw[e3,List.filter_cons_of_pos hc,List.filter_cons_of_pos hc]
   rfl
  ·rw[List.filter_cons_of_neg hc,List.filter_cons_of_neg hc]
   rfl
 ·exact List.pairwise_append.2 ⟨h.asc,List.pairwise_singleton _ _,fun x hx y hy=>by
   rw[List.mem_singleton.1 hy]
   exact h.le x hx p0 hp t (by rw[hl];exact List.mem_cons_self)⟩
 ·rcases List.mem_append.1 hx with hx|hx
  ·exact h.le x hx p N4 y (Fc p y hy)
  ·rw[List.mem_singleton.1 hx];exact Hw p N4 y (Fc p y hy)
 ·by_cases hq:p=p0
  ·rw[hq,h0]
   have h3:=h.live p0 hp
   rw[hl]at h3
   exact(List.pairwise_cons.1 h3).2
  ·rw[h1 p hq];exact h.live p N4
theorem T5.done(h:T5 o P live Y8 out)(hn:∀p,p<P→live p=[]):Cl o Y8 out∧Hl o out:=by
 refine⟨fun c=>?_,h.asc⟩
 rw[←h.cl c]
 have e:Ss o P live c=[]:=List.flatMap_eq_nil_iff.2 fun p hp=>by rw[hn p (List.mem_range.1 hp)];rfl
 rw[e,List.append_nil]
theorem T5.start(ha:∀p,p<P→Hl o (live p))(hi:Y8=(List.range P).flatMap live):T5 o P live Y8 []:=by
 refine⟨fun c=>?_,K7 o,fun x hx=>absurd hx List.not_mem_nil,ha⟩
 rw[hi]
 unfold Ss
 rw[List.filter_nil,List.nil_append]
 generalize List.range P=ps
 induction ps with
 |nil=>rfl
 |cons q ps ih=>rw[List.flatMap_cons,List.flatMap_cons,List.filter_append,ih]
end
section
variable {W : World} {sx k g N cap n c gl i j a b : Nat} {o ta tb : AB}
theorem Xb(hr:Row W sx 187 (Gg k g N cap o (.slice (some ⟨gl,0,none⟩) n c)))(hi:i<n)(hj:j<n)
  (su:W.cell? ⟨gl,i*2,none⟩=some (.int .i64 (a:Nat))) (hcj:W.cell? ⟨gl,j*2,none⟩=some (.int .i64 (b:Nat)))
  (hA:∀W',Below W.heap.size W W'→Calls Tryz.prog 163 #[.agg #[.int .i64 k,.slice (some ⟨g,0,none⟩) N cap],.int .i64 (a:Nat)] W' fun e w'=>e=.returned (.agg #[.int .i64 ta.a,.int .i64 ta.b,.int .i64 ta.c,.int .i64 ta.d,.int .i64 ta.e])∧Below W'.heap.size W' w')
  (hB:∀W',Below W.heap.size W W'→Calls Tryz.prog 163 #[.agg #[.int .i64 k,.slice (some ⟨g,0,none⟩) N cap],.int .i64 (b:Nat)] W' fun e w'=>e=.returned (.agg #[.int .i64 tb.a,.int .i64 tb.b,.int .i64 tb.c,.int .i64 tb.d,.int .i64 tb.e])∧Below W'.heap.size W' w'):
  Calls Tryz.prog 164 #[.pointer (some ⟨sx,0,none⟩),.int .i64 (i:Nat),.int .i64 (j:Nat)] W fun e w'=>e=.returned (.bool (decide (AO o ta tb<0)||(decide (AO o ta tb=0)&&decide (a<b))))∧Below W.heap.size W w':=by
 have c7:W.drew.cell? ⟨sx,7,none⟩=some (.slice (some ⟨gl,0,none⟩) n c):=hr.cell 7
 have ci:W.drew.cell? ⟨gl,i*2,none⟩=some (.int .i64 (a:Nat)):=su
 have cj:W.drew.cell? ⟨gl,j*2,none⟩=some (.int .i64 (b:Nat)):=hcj
 have i1:(0:Int)≤(i:Int):=by omega
 have i2:(i:Int)<(n:Int):=by omega
 have j1:(0:Int)≤(j:Int):=by omega
 have j2:(j:Int)<(n:Int):=by omega
 have Q1:Hid (∀d os,Calls Tryz.prog 163 #[.agg #[.int .i64 k,.slice (some ⟨g,0,none⟩) N cap],.int .i64 (a:Nat)] (Sort.grow (redrawn W.drew d) os) fun e Cq=>e=.returned (.agg #[.int .i64 ta.a,.int .i64 ta.b,.int .i64 ta.c,.int .i64 ta.d,.int .i64 ta.e])∧∃p:Regrown,Cq=Sort.grow (redrawn W.drew p.d) p.os):=fun d os=>Calls.regrown_of (hA _ ((AG (Below.refl _ _)).trans (below_regrown W.drew d os)))
 have Q2:Hid (∀d os,Calls Tryz.prog 163 #[.agg #[.int .i64 k,.slice (some ⟨g,0,none⟩) N cap],.int .i64 (b:Nat)] (Sort.grow (redrawn W.drew d) os) fun e Cq=>e=.returned (.agg #[.int .i64 tb.a,.int .i64 tb.b,.int .i64 tb.c,.int .i64 tb.d,.int .i64 tb.e])∧∃p:Regrown,Cq=Sort.grow (redrawn W.drew p.d) p.os):=fun d os=>Calls.regrown_of (hB _ ((AG (Below.refl _ _)).trans (below_regrown W.drew d os)))
 have Q3:Hid (∀d os,Calls Tryz.prog 159 #[.agg #[.int .i64 ta.a,.int .i64 ta.b,.int .i64 ta.c,.int .i64 ta.d,.int .i64 ta.e],.agg #[.int .i64 tb.a,.int .i64 tb.b,.int .i64 tb.c,.int .i64 tb.d,.int .i64 tb.e],.agg #[.int .i64 o.a,.int .i64 o.b,.int .i64 o.c,.int .i64 o.d,.int .i64 o.e]] (Sort.grow (redrawn W.drew d) os) fun e Cq=>e=.returned (.int .i64 (AO o ta tb))∧∃p:Regrown,Cq=Sort.grow (redrawn W.drew p.d) p.os):=fun d os=>Calls.regrown_of (M5 o _ _ _)
 have hrd:Row W.drew sx 187 (Gg k g N cap o (.slice (some ⟨gl,0,none⟩) n c)):=hr.drewN 1
 have k0:∀d os,(Sort.grow (redrawn W.drew d) os).cell? ⟨sx,0,none⟩=some (.int .i64 k):=cell_regrown (hrd.cell 0)
 have k1:∀d os,(Sort.grow (redrawn W.drew d) os).cell? ⟨sx,1,none⟩=some (.slice (some ⟨g,0,none⟩) N cap):=cell_regrown (hrd.cell 1)
 have k2:∀d os,(Sort.grow (redrawn W.drew d) os).cell? ⟨sx,2,none⟩=some (.int .i64 o.a):=cell_regrown (hrd.cell 2)
 have k3:∀d os,(Sort.grow (redrawn W.drew d) os).cell? ⟨sx,3,none⟩=some (.int .i64 o.b):=cell_regrown (hrd.cell 3)
 have k4:∀d os,(Sort.grow (redrawn W.drew d) os).cell? ⟨sx,4,none⟩=some (.int .i64 o.c):=cell_regrown (hrd.cell 4)
 have k5:∀d os,(Sort.grow (redrawn W.drew d) os).cell? ⟨sx,5,none⟩=some (.int .i64 o.d):=cell_regrown (hrd.cell 5)
 have k6:∀d os,(Sort.grow (redrawn W.drew d) os).cell? ⟨sx,6,none⟩=some (.int .i64 o.e):=cell_regrown (hrd.cell 6)
 have GW:Hid (Below W.heap.size W W.drew):=AG (Below.refl _ _)
 generalize AO o ta tb=res at*
 obtain⟨ia,ib,ic,id,ie⟩:=ta
 obtain⟨ja,jb,jc,jd,je⟩:=tb
 obtain⟨oa,ob,oc,od,oe⟩:=o
 simp only at*
 clear hr hrd hA hB su hcj hi hj
 go_enter Tryz.func164,Tryz.ntmps164
 go_wp2_with fail
 go_region_held3 (fun W=>W.cell? ⟨sx,7,none⟩=some (.slice (some ⟨gl,0,none⟩) n c)∧W.cell? ⟨gl,i*2,none⟩=some (.int .i64 (a:Nat))∧W.cell? ⟨gl,j*2,none⟩=some (.int .i64 (b:Nat))) (with_reducible exact⟨c7,ci,cj⟩) (fail)
 clear c7 ci cj
 go_wp2_with fail
 generalize W.drew=W1 at*
 refine wp_region_quiet_below (by kernel_rfl) (by kernel_rfl) ?_
 repeat(any_goals(first|go_big_quiet_step (with_reducible first|exact Q1.out _ _|exact Q2.out _ _|exact Q3.out _ _)|quiet_step (with_reducible first|exact Q1.out _ _|exact Q2.out _ _|exact Q3.out _ _)))
 refine wpQuiet_nil ?_
 intro w5 EJ
 obtain⟨⟨dq,osq⟩,EJ⟩:=EJ
 have Bu:=below_regrown W1 dq osq
 rw[←EJ]at Bu
 have HB:=Lib.hid Bu
 clear EJ Bu
 have HF:Hid (Below W.heap.size W w5):=GW.out.trans (HB.out.mono GW.out.size)
 by_cases h1:res<0
 ·have HR:Hid ((decide (res<0)||decide (res=0)&&decide (a<b))=true):=by unfold Hid;rw[decide_eq_true h1];rfl
  go_wp2
  go_ret
  exact⟨by rw[HR.out];rfl,HF.out⟩
 ·by_cases h2:res=0
  ·subst h2
   clear h1
   by_cases h3:a<b
   ·go_wp2
    go_ret
    exact⟨by simp,HF.out⟩
   ·go_wp2
    go_ret
    exact⟨by simp,HF.out⟩
  ·have HD9:Hid (decide (res<0)=false):=decide_eq_false h1
   have g2:(res==0)=false:=by simpa using h2
   go_wp2
   go_ret
   exact⟨by rw[HD9.out];rfl,HF.out⟩
end
section
variable {W : World} {sx k g N cap n m c gl a : Nat} {o : AB} {v : Value}
theorem Zq(hr:Row W sx 187 (Gg k g N cap o (.slice (some ⟨gl,0,none⟩) n c)))(hm:n=m+1)(hn:n≤c∧n≤1000000){x:Nat}
  (zF:W.cell? ⟨gl,m*2,none⟩=some (.int .i64 (a:Nat))) (hcv:W.cell? ⟨gl,m*2+1,none⟩=some (.pointer (some ⟨x,0,none⟩))):
  Calls Tryz.prog 172 #[.pointer (some ⟨sx,0,none⟩)] W fun e w'=>e=.returned (.iface 202 (.agg #[.int .i64 (a:Nat),.pointer (some ⟨x,0,none⟩)]))∧Row w' sx 187 (Gg k g N cap o (.slice (some ⟨gl,0,none⟩) m c))∧AL (fun b=>b=sx) W w':=by
 have c7:W.cell? ⟨sx,7,none⟩=some (.slice (some ⟨gl,0,none⟩) n c):=hr.cell 7
 have f7:=hr.free 7
 have m1:(n:Int)-1=(m:Int):=by omega
 have i1:(0:Int)≤(m:Int):=by omega
 have i2:(m:Int)<(n:Int):=by omega
 have i3:(m:Int)≤(c:Int):=by omega
 have hnc:=hn.2
 have HR:=Lib.hid hr
 have hlt:=hr.lt
 clear hm hr
 go_enter Tryz.func172,Tryz.ntmps172
 go_wp2
 go_ret
 refine⟨rfl,?_,?_⟩
 ·have h1:=(HR.out.set 7 (.slice (some ⟨gl,0,none⟩) m c)).alloc (.cells #[.int .i64 (a:Nat),.pointer (some ⟨x,0,none⟩)] 202)
  exact h1
 ·have h0:AL (fun b=>b=sx) W W:=AL.refl _ _
  have h2:=h0.set (p:=⟨sx,7,none⟩) (.inl rfl) (.slice (some ⟨gl,0,none⟩) m c)
  exact h2.trans (AL.AJ ((Below.refl _ _).alloc (Nat.le_refl _) _) (fun b=>b=sx)) fun b hb=>.inl hb
end
section
variable {W : World} {sx k g N cap n c gl i j a b xa xb B p x : Nat} {o : AB} {lv : Value} {cs xs : List Value}
theorem XX(hr:Row W sx 187 (Gg k g N cap o (.slice (some ⟨gl,0,none⟩) n c)))(hl:Row W gl 202 cs)(hi:i<n)(hj:j<n)
  (zF:cs[i*2]?=some (.int .i64 (a:Nat))) (so:cs[i*2+1]?=some (.pointer (some ⟨xa,0,none⟩))) (WW:cs[j*2]?=some (.int .i64 (b:Nat))) (hU:cs[j*2+1]?=some (.pointer (some ⟨xb,0,none⟩))):
  Calls Tryz.prog 167 #[.pointer (some ⟨sx,0,none⟩),.int .i64 (i:Nat),.int .i64 (j:Nat)] W fun e w'=>e=.returned (.tuple #[])∧
   Row w' gl 202 ((((cs.set (i*2) (.int .i64 (b:Nat))).set (i*2+1) (.pointer (some ⟨xb,0,none⟩))).set (j*2) (.int .i64 (a:Nat))).set (j*2+1) (.pointer (some ⟨xa,0,none⟩)))∧AL (fun b=>b=gl) W w':=by
 have c7:W.cell? ⟨sx,7,none⟩=some (.slice (some ⟨gl,0,none⟩) n c):=hr.cell 7
 have ca:W.cell? ⟨gl,i*2,none⟩=some (.int .i64 (a:Nat)):=(hl.cell _).trans zF
 have cxa:W.cell? ⟨gl,i*2+1,none⟩=some (.pointer (some ⟨xa,0,none⟩)):=(hl.cell _).trans so
 have cb:W.cell? ⟨gl,j*2,none⟩=some (.int .i64 (b:Nat)):=(hl.cell _).trans WW
 have cxb:W.cell? ⟨gl,j*2+1,none⟩=some (.pointer (some ⟨xb,0,none⟩)):=(hl.cell _).trans hU
 have fa:=hl.free (i*2)
 have fxa:=hl.free (i*2+1)
 have fb:=hl.free (j*2)
 have fxb:=hl.free (j*2+1)
 have i1:(0:Int)≤(i:Int):=by omega
 have i2:(i:Int)<(n:Int):=by omega
 have j1:(0:Int)≤(j:Int):=by omega
 have j2:(j:Int)<(n:Int):=by omega
 have HL:=Lib.hid hl
 have hz:∀v1 v2,Row ((W.setCell ⟨gl,i*2,none⟩ v1).setCell ⟨gl,i*2+1,none⟩ v2) gl 202 ((cs.set (i*2) v1).set (i*2+1) v2):=fun v1 v2=>(hl.set _ _).set _ _
 have hlen:j*2+1<cs.length:=by
  rcases Nat.lt_or_ge (j*2+1) cs.length with hx|hx
  ·exact hx
  ·rw[List.getElem?_eq_none hx]at hU;cases hU
 obtain⟨v3,z3⟩:∃v3,((W.setCell ⟨gl,i*2,none⟩ (.int .i64 (b:Nat))).setCell ⟨gl,i*2+1,none⟩ (.pointer (some ⟨xb,0,none⟩))).cell? ⟨gl,j*2,none⟩=some v3:=⟨_,by rw[(hz _ _).cell];exact List.getElem?_eq_getElem (by simp;omega)⟩
 obtain⟨v5,z5⟩:∃v3,(W.setCell ⟨gl,i*2,none⟩ (.int .i64 (b:Nat))).cell? ⟨gl,j*2,none⟩=some v3:=⟨_,by rw[(hl.set _ _).cell];exact List.getElem?_eq_getElem (by simp;omega)⟩
 obtain⟨v4,z4⟩:∃v4,(((W.setCell ⟨gl,i*2,none⟩ (.int .i64 (b:Nat))).setCell ⟨gl,i*2+1,none⟩ (.pointer (some ⟨xb,0,none⟩))).setCell ⟨gl,j*2,none⟩ (.int .i64 (a:Nat))).cell? ⟨gl,j*2+1,none⟩=some v4:=⟨_,by rw[((hz _ _).set _ _).cell];exact List.getElem?_eq_getElem (by simp;omega)⟩
 have f3:=(hz (.int .i64 (b:Nat)) (.pointer (some ⟨xb,0,none⟩))).free (j*2)
 have f4:=((hz (.int .i64 (b:Nat)) (.pointer (some ⟨xb,0,none⟩))).set (j*2) (.int .i64 (a:Nat))).free (j*2+1)
 clear hr hl zF so WW hU hi hj hz hlen
 go_enter Tryz.func167,Tryz.ntmps167
 go_wp2_with fail
 go_region
 go_wp2
 go_end0
 refine⟨rfl,?_,?_⟩
 ·exact((((HL.out.set (i*2) (.int .i64 (b:Nat))).set (i*2+1) (.pointer (some ⟨xb,0,none⟩))).set (j*2) (.int .i64 (a:Nat))).set (j*2+1) (.pointer (some ⟨xa,0,none⟩))).drewN 1
 ·exact(((((AL.refl (fun b=>b=gl) W).set (p:=⟨gl,i*2,none⟩) (.inl rfl) (.int .i64 (b:Nat))).set (p:=⟨gl,i*2+1,none⟩) (.inl rfl) (.pointer (some ⟨xb,0,none⟩))).set (p:=⟨gl,j*2,none⟩) (.inl rfl) (.int .i64 (a:Nat))).set (p:=⟨gl,j*2+1,none⟩) (.inl rfl) (.pointer (some ⟨xa,0,none⟩))).drew
theorem Nb(a:Nat×Nat)(w:World):Sem.run Tryz.prog (Instr.typeAssert (.iface 202 (.agg #[.int .i64 (a.1:Nat),.pointer (some ⟨a.2,0,none⟩)])) 20 202 false) w=.ok (.agg #[.int .i64 (a.1:Nat),.pointer (some ⟨a.2,0,none⟩)]) w:=by kernel_rfl
theorem mb:(Tryz.prog.info? 202).map (fun i=>(i.zero,i.size,i.bytes))=some (some (.agg #[.int .i64 0,.pointer none]),2,16):=by kernel_rfl
theorem XY(hr:Row W sx 187 (Gg k g N cap o lv))(Ap:W.ownsRow B 202 2 lv n xs)(hB:B≤W.heap.size)(hn:n≤1000000):
  Calls Tryz.prog 166 #[.pointer (some ⟨sx,0,none⟩),.iface 202 (.agg #[.int .i64 (p:Nat),.pointer (some ⟨x,0,none⟩)])] W fun e w'=>e=.returned (.tuple #[])∧
   ∃Fb,Row w' sx 187 (Gg k g N cap o Fb)∧w'.ownsRow B 202 2 Fb (n+1) (xs++[.int .i64 (p:Nat),.pointer (some ⟨x,0,none⟩)])∧AL (fun b=>b=sx∨lv.ownBlock=some b) W w'∧(∀b,Fb.ownBlock=some b→lv.ownBlock=some b∨W.heap.size≤b):=by
 obtain⟨it,B7,By,B3,EX⟩:=info_parts mb
 have hno:some sx≠lv.ownBlock:=fun e=>by
  obtain⟨h1,⟨h4,_⟩|⟨gl,c,c2,h4,h5,h6,_⟩⟩:=Ap
  ·rw[h4]at e;cases e
  ·rw[h4]at e
   have e:sx=gl:=by injection e
   subst e
   have hx:Row W sx 202 c2.toList:=by unfold Row;rw[Array.toArray_toList];exact h6
   exact absurd (hr.typed hx) (by decide)
 have Am:Below W.heap.size W (W.drew.alloc (.cells #[.int .i64 (p:Nat),.pointer (some ⟨x,0,none⟩)] 202)):=(AG (Below.refl _ _)).alloc (Nat.le_refl _) _
 have AZ:Below W.heap.size W (W.alloc (.cells #[.int .i64 (p:Nat),.pointer (some ⟨x,0,none⟩)] 202)).drew:=AG ((Below.refl _ _).alloc (Nat.le_refl _) _)
 have o1:=BZ Ap Am
 have o2:=BZ Ap AZ
 have c7:W.drew.cell? ⟨sx,7,none⟩=some lv:=hr.cell 7
 have c8:(W.alloc (.cells #[.int .i64 (p:Nat),.pointer (some ⟨x,0,none⟩)] 202)).cell? ⟨sx,7,none⟩=some lv:=(hr.alloc _).cell 7
 have HK:Hid (∀w6 gg PL w7,Below W.heap.size W w6→w7.ownsRow B 202 2 (.slice (some ⟨gg,0,none⟩) (n+1) PL) (n+1) (xs++[.int .i64 (p:Nat),.pointer (some ⟨x,0,none⟩)])→w6.grownBy w7 lv.ownBlock→(lv.ownBlock=some gg∨gg=W.heap.size+1)→
   Row w7 sx 187 (Gg k g N cap o lv)∧Row (w7.setCell ⟨sx,7,none⟩ (.slice (some ⟨gg,0,none⟩) (n+1) PL)) sx 187 (Gg k g N cap o (.slice (some ⟨gg,0,none⟩) (n+1) PL))∧(w7.setCell ⟨sx,7,none⟩ (.slice (some ⟨gg,0,none⟩) (n+1) PL)).ownsRow B 202 2 (.slice (some ⟨gg,0,none⟩) (n+1) PL) (n+1) (xs++[.int .i64 (p:Nat),.pointer (some ⟨x,0,none⟩)])∧
   AL (fun b=>b=sx∨lv.ownBlock=some b) W (w7.setCell ⟨sx,7,none⟩ (.slice (some ⟨gg,0,none⟩) (n+1) PL))∧(∀b,(Value.slice (some ⟨gg,0,none⟩) (n+1) PL).ownBlock=some b→lv.ownBlock=some b∨W.heap.size≤b)):=fun w6 gg PL w7 hb ho hg Bp=>by
  have KI:AL (fun b=>lv.ownBlock=some b) W w6:=AL.AJ hb _
  have T2:=KI.grown hg fun k hk=>.inl hk
  have p5:=T2.row hr fun e=>hno e.symm
  refine⟨p5,p5.set 7 _,Si ho p5 (by decide) _,(T2.mono fun b hb=>.inr hb).set (p:=⟨sx,7,none⟩) (.inl (.inl rfl)) _,fun b hb=>?_⟩
  have hb:gg=b:=by injection hb
  subst hb
  exact Bp.elim .inl fun e=>.inr (by omega)
 have xx:=Nb (p,x)
 have hBs:=Lib.hid hB
 clear Ap hB hno hr
 go_enter Tryz.func166,Tryz.ntmps166
 go_wp2_with fail
 go_region_law ((refine step_append_lies _ rfl _ _ 185 rfl B 202 it _ 2 16 Tryz.underlying185 B7 By B3 EX rfl (by decide) lv n xs (by rfl) (by first|exact o1|exact o2) ⟨W.heap.size,0,none⟩ 1 1 [.int .i64 (p:Nat),.pointer (some ⟨x,0,none⟩)] (by rfl) (by rfl) (World.news_of_block (cs:=#[.int .i64 (p:Nat),.pointer (some ⟨x,0,none⟩)]) (t:=202) (fr:=(0,0)) (by first|exact heap_alloc_new W _|exact heap_alloc_new W.drew _)) (by simp[Value.oneCell']) (by omega) (by unfold maxLen;omega) (by omega) (by have:=hBs.out;simp;omega) (W.heap.size+1) (by simp) ?_;intro gg PL w7 Ap kO Bp hlt;have q7:=HK.out _ gg PL w7 (by first|exact Am|exact AZ) Ap kO Bp;have q8:w7.cell? ⟨sx,7,none⟩=some lv:=q7.1.cell 7;have q9:=q7.1.free 7;have vY:=Lib.hid q7.2;clear q7 Ap kO Bp))
 all_goals
  go_wp2
  go_end0
  exact⟨rfl,_,vY.out.1,vY.out.2.1,vY.out.2.2.1,vY.out.2.2.2⟩
end
def Hq(a:Nat×Nat):List Value:=[.int .i64 (a.1:Nat),.pointer (some ⟨a.2,0,none⟩)]
def Dl(h:List (Nat×Nat)):List Value:=h.flatMap Hq
theorem J3(a:Nat×Nat)(h:List (Nat×Nat)):Dl (a::h)=.int .i64 (a.1:Nat)::.pointer (some ⟨a.2,0,none⟩)::Dl h:=rfl
theorem VK(h:List (Nat×Nat))(a:Nat×Nat):Dl (h++[a])=Dl h++Hq a:=by unfold Dl;rw[List.flatMap_append];simp
theorem Cz:∀{h:List (Nat×Nat)} {i:Nat} {a:Nat×Nat},h[i]?=some a→(Dl h)[i*2]?=some (.int .i64 (a.1:Nat))∧(Dl h)[i*2+1]?=some (.pointer (some ⟨a.2,0,none⟩))
 |[],_,_,hi=>by simp at hi
 |b::h,0,a,hi=>by
  simp at hi;subst hi;exact⟨rfl,rfl⟩
 |b::h,i+1,a,hi=>by
  have h1:=Cz (h:=h) (i:=i) (a:=a) (by simpa using hi)
  rw[J3,show (i+1)*2=i*2+1+1 by omega]
  exact h1
theorem Lx:∀{h:List (Nat×Nat)} {i:Nat} (a:Nat×Nat),i<h.length→((Dl h).set (i*2) (.int .i64 (a.1:Nat))).set (i*2+1) (.pointer (some ⟨a.2,0,none⟩))=Dl (h.set i a)
 |[],_,_,hi=>by simp at hi
 |b::h,0,a,_=>rfl
 |b::h,i+1,a,hi=>by
  have h1:=Lx (h:=h) (i:=i) a (by simpa using hi)
  rw[J3,show (i+1)*2=i*2+1+1 by omega,List.set_cons_succ,List.set_cons_succ,List.set_cons_succ,List.set_cons_succ,h1]
  rfl
theorem OK:∀(h:List (Nat×Nat)) (n:Nat),(Dl h).take (n*2)=Dl (h.take n)
 |[],n=>by rw[List.take_nil];exact List.take_nil
 |a::h,0=>by rw[Nat.zero_mul,List.take_zero,List.take_zero];rfl
 |a::h,n+1=>by
  rw[J3,show (n+1)*2=n*2+1+1 by omega,List.take_succ_cons,List.take_succ_cons,OK h n]
  rfl
theorem FT{w:World}{base:Nat}{e:TypeId}{v:Value}{n:Nat}{xs:List Value}(h:w.ownsRow base e 2 v n xs)(hn:0<n):
  ∃gl c cs,v=.slice (some ⟨gl,0,none⟩) n c∧base≤gl∧Row w gl e cs∧n≤c∧c≤maxLen∧cs.length=c*2∧cs.take (n*2)=xs:=by
 obtain⟨h1,⟨_,h2⟩|⟨gl,c,cur,h2,h3,h4,h5,h6,h7,h8⟩⟩:=h
 ·omega
 ·exact⟨gl,c,cur.toList,h2,h3,by unfold Row;rw[Array.toArray_toList];exact h4,h5,h6,by simpa using h7,h8⟩
theorem JF{w:World}{base:Nat}{e:TypeId}{v:Value}{n:Nat}{xs:List Value}(h:w.ownsRow base e 2 v n xs):∃A c,v=.slice A n c:=by
 obtain⟨h1,⟨h2,h3⟩|⟨gl,c,cur,h2,_⟩⟩:=h
 ·exact⟨none,0,by rw[h2,h3]⟩
 ·exact⟨_,_,h2⟩
theorem aM{w:World}{base:Nat}{e:TypeId}{n gl c:Nat}{cs xs:List Value}(hr:Row w gl e cs)(hb:base≤gl)(hn:n≤c)(hc:c≤maxLen)(hl:cs.length=c*2)(hx:cs.take (n*2)=xs):w.ownsRow base e 2 (.slice (some ⟨gl,0,none⟩) n c) n xs:=by
 refine⟨by rw[←hx,List.length_take];omega,.inr ⟨gl,c,cs.toArray,rfl,hb,hr,hn,hc,by simpa using hl,by simpa using hx⟩⟩
def JW(X:Cx)(sx k g M:Nat)(o:AB)(lv:Value)(h:List (Nat×Nat)):AW:=⟨fun b=>b=sx∨lv.ownBlock=some b,fun W=>Row W sx 187 (Gg k g M M o lv)∧W.ownsRow X.w0.heap.size 202 2 lv h.length (Dl h),none,(0,0),fun _=>True⟩
section
variable {X : Cx} {os : List AW} {m iz ig : Nat} {W W' : World} {sx k b g M : Nat} {o : AB} {lv : Value} {h cl : List (Nat × Nat)} {cur : List AB}
theorem Zp:(JW X sx k g M o lv h).Ok:=⟨fun W W' ⟨h1,h2⟩ hk=>⟨Bd h1 (hk _ (.inl rfl)),CV h2 fun k he=>hk k (.inr he)⟩,fun _ _ _ _ _=>trivial,fun _ _ h=>by cases h⟩
theorem Wd.streams(hw:Wd X os m W)(hi:os[iz]?=some (JW X sx k g M o lv h)){Fb:Value}{h':List (Nat×Nat)}(hf:AL (fun b=>b=sx∨lv.ownBlock=some b) W W')(hr:Row W' sx 187 (Gg k g M M o Fb))(ho:W'.ownsRow X.w0.heap.size 202 2 Fb h'.length (Dl h'))
  (hb:∀b,Fb.ownBlock=some b→lv.ownBlock=some b∨W.heap.size≤b):Wd X (os.set iz (JW X sx k g M o Fb h')) m W':=by
 obtain⟨h1,h2⟩:=hw.at_ hi
 refine hw.Ju hi hf (fun b hb=>⟨hb,fun v hv=>?_⟩) Zp ⟨hr,ho⟩ (fun b AZ=>⟨?_,?_⟩) rfl rfl (fun _ _=>trivial)
 ·rcases hb with rfl|hb
  ·exact absurd (h1.typed hv) (by decide)
  ·obtain⟨h3,⟨h4,_⟩|⟨gl,c,c2,h4,h5,h6,_⟩⟩:=h2
   ·rw[h4]at hb;cases hb
   ·rw[h4]at hb
    have hb:gl=b:=by injection hb
    subst hb
    have hx:Row W gl 202 c2.toList:=by unfold Row;rw[Array.toArray_toList];exact h6
    exact absurd (hx.typed hv) (by decide)
 ·rcases AZ with rfl|AZ
  ·exact .inl (.inl rfl)
  ·exact(hb b AZ).elim (fun h=>.inl (.inr h)) .inr
 ·rcases AZ with rfl|AZ
  ·exact hr.lt
  ·exact(ho.lt b AZ).2
def qS(X:Cx)(os:List AW)(m iz:Nat)(sx k g M:Nat)(o:AB)(P:Nat)(h:List (Nat×Nat))(W:World):Prop:=(∀a∈h,a.1<P)∧h.length≤100000∧∃lv,Wd X (os.set iz (JW X sx k g M o lv h)) m W
theorem Bx{h:List (Nat×Nat)}{i:Nat}(hi:i<h.length):h[i]?=some (h.getD i (0,0))∧h.getD i (0,0)∈h:=by
 have e:h.getD i (0,0)=h[i]:=by rw[List.getD_eq_getElem?_getD,List.getElem?_eq_getElem hi];rfl
 rw[e]
 exact⟨List.getElem?_eq_getElem hi,List.getElem_mem hi⟩
theorem Zg{h:List (Nat×Nat)}{i j:Nat}(hi:i<h.length)(hj:j<h.length):∀a∈swp (0,0) h i j,a∈h:=fun _ ha=>(Ge hi hj).mem_iff.1 ha
theorem RV(hw:Wd X os m W)(hg:os[ig]?=some (CX b g M k cur))(hk:0<k∧k≤5)(hM:cur.length*k≤M∧M≤1000000)(hf:Ds k cur){p:Nat}(hp:p<cur.length):
  Calls Tryz.prog 163 #[.agg #[.int .i64 k,.slice (some ⟨g,0,none⟩) M M],.int .i64 (p:Nat)] W fun e w'=>e=.returned (.agg #[.int .i64 (cur.getD p AD).a,.int .i64 (cur.getD p AD).b,.int .i64 (cur.getD p AD).c,.int .i64 (cur.getD p AD).d,.int .i64 (cur.getD p AD).e])∧Below W.heap.size W w':=by
 obtain⟨_,ws,h2,h3,h4⟩:=hw.at_ hg
 obtain⟨h5,h6⟩:=Ky hk.2 rfl rfl h4 (getD_some hp)
 obtain⟨h7,h8⟩:=hf _ (JJ hp)
 exact WZ h3 hk (by omega) (Nat.le_refl _) hM.2 (by omega) h6 h7 h8
theorem LV(hg:os[ig]?=some (CX b g M k cur))(hi:iz≠ig)(hlt:iz<os.length)(hk:0<k∧k≤5)(hM:cur.length*k≤M∧M≤1000000)(hf:Ds k cur):
  Qg sx (0,0) (Mc o fun p=>cur.getD p AD) (qS X os m iz sx k g M o cur.length):=by
 have hs:∀lv h,(os.set iz (JW X sx k g M o lv h))[iz]?=some (JW X sx k g M o lv h):=fun lv h=>by rw[List.getElem?_set,if_pos rfl,if_pos hlt]
 have CP:∀lv h,(os.set iz (JW X sx k g M o lv h))[ig]?=some (CX b g M k cur):=fun lv h=>CH hg hi
 refine⟨fun h W ⟨h0,hle,lv,hw⟩=>?_,fun h W i j ⟨h0,hle,lv,hw⟩ hi hj=>?_,fun h W i j ⟨h0,hle,lv,hw⟩ hi hj=>?_⟩
 ·obtain⟨h1,h2⟩:=hw.at_ (hs lv h)
  obtain⟨A,c,rfl⟩:=JF h2
  exact(KV h1).mono fun e w' ⟨he,hW⟩=>⟨he,h0,hle,.slice A h.length c,by rw[hW];exact hw⟩
 ·obtain⟨h1,h2⟩:=hw.at_ (hs lv h)
  obtain⟨gl,c,cs,rfl,h3,h4,h5,h6,h7,h8⟩:=FT h2 (by omega)
  obtain⟨m1,m2⟩:=Bx hi
  obtain⟨m3,m4⟩:=Bx hj
  have Bk:∀(p q:Nat) (v:Value),p<h.length→q<2→(Dl h)[p*2+q]?=some v→W.cell? ⟨gl,p*2+q,none⟩=some v:=fun p q v hp hq hv=>by
   rw[h4.cell,←hv,←h8,List.getElem?_take,if_pos (by omega)]
  refine(Xb h1 hi hj (Bk i 0 _ hi (by omega) (Cz m1).1) (Bk j 0 _ hj (by omega) (Cz m3).1) (fun W' hb=>RV (hw.below hb) (CP _ h) hk hM hf (h0 _ m2)) (fun W' hb=>RV (hw.below hb) (CP _ h) hk hM hf (h0 _ m4))).mono ?_
  exact fun e w' ⟨he,hb⟩=>⟨he,h0,hle,_,hw.below hb⟩
 ·obtain⟨h1,h2⟩:=hw.at_ (hs lv h)
  obtain⟨gl,c,cs,rfl,h3,h4,h5,h6,h7,h8⟩:=FT h2 (by omega)
  obtain⟨m1,m2⟩:=Bx hi
  obtain⟨m3,m4⟩:=Bx hj
  have Bk:∀(p q:Nat) (v:Value),p<h.length→q<2→(Dl h)[p*2+q]?=some v→cs[p*2+q]?=some v:=fun p q v hp hq hv=>by
   rw[←hv,←h8,List.getElem?_take,if_pos (by omega)]
  refine(XX h1 h4 hi hj (Bk i 0 _ hi (by omega) (Cz m1).1) (Bk i 1 _ hi (by omega) (Cz m1).2) (Bk j 0 _ hj (by omega) (Cz m3).1) (Bk j 1 _ hj (by omega) (Cz m3).2)).mono ?_
  rintro e w' ⟨he,hr,hF⟩
  have EM:((((cs.set (i*2) (.int .i64 ((h.getD j (0,0)).1:Nat))).set (i*2+1) (.pointer (some ⟨(h.getD j (0,0)).2,0,none⟩))).set (j*2) (.int .i64 ((h.getD i (0,0)).1:Nat))).set (j*2+1) (.pointer (some ⟨(h.getD i (0,0)).2,0,none⟩))).take (h.length*2)=Dl (swp (0,0) h i j):=by
   rw[List.take_set,List.take_set,List.take_set,List.take_set,h8,Lx _ hi,Lx _ (by rw[List.length_set];exact hj)]
   rfl
  have hne:sx≠gl:=fun e=>absurd (h1.typed (e▸h4)) (by decide)
  have ho:w'.ownsRow X.w0.heap.size 202 2 (.slice (some ⟨gl,0,none⟩) h.length c) (swp (0,0) h i j).length (Dl (swp (0,0) h i j)):=by rw[CG];exact aM hr h3 h5 h6 (by simp[h7]) EM
  have h9:=hw.streams (h':=swp (0,0) h i j) (hs _ h) (hF.mono fun b hb=>by
   have hb:b=gl:=hb
   subst hb;exact .inr rfl) (hF.row h1 hne) ho (fun b hb=>.inl hb)
  rw[List.set_set]at h9
  exact⟨he,fun a ha=>h0 a (Zg hi hj a ha),by rw[CG];exact hle,_,h9⟩
def lq(a:Nat×Nat):Value:=.iface 202 (.agg #[.int .i64 (a.1:Nat),.pointer (some ⟨a.2,0,none⟩)])
theorem fR{P:Nat}(hlt:iz<os.length)(h:List (Nat×Nat))(W:World)(hr:qS X os m iz sx k g M o P h W)(hne:0<h.length):
  Calls Tryz.prog 172 #[.pointer (some ⟨sx,0,none⟩)] W fun e w'=>e=.returned (lq (h.getD (h.length-1) (0,0)))∧qS X os m iz sx k g M o P (h.take (h.length-1)) w':=by
 obtain⟨h0,hle,lv,hw⟩:=hr
 have hs:∀lv h,(os.set iz (JW X sx k g M o lv h))[iz]?=some (JW X sx k g M o lv h):=fun lv h=>by rw[List.getElem?_set,if_pos rfl,if_pos hlt]
 obtain⟨h1,h2⟩:=hw.at_ (hs lv h)
 obtain⟨gl,c,cs,rfl,h3,h4,h5,h6,h7,h8⟩:=FT h2 hne
 obtain⟨m1,m2⟩:=Bx (show h.length-1<h.length by omega)
 have Bk:∀(p q:Nat) (v:Value),p<h.length→q<2→(Dl h)[p*2+q]?=some v→W.cell? ⟨gl,p*2+q,none⟩=some v:=fun p q v hp hq hv=>by
  rw[h4.cell,←hv,←h8,List.getElem?_take,if_pos (by omega)]
 refine(Zq h1 (show h.length=(h.length-1)+1 by omega) ⟨h5,by omega⟩ (Bk _ 0 _ (by omega) (by omega) (Cz m1).1) (Bk _ 1 _ (by omega) (by omega) (Cz m1).2)).mono ?_
 rintro e w' ⟨he,hr,hF⟩
 have bV:gl≠sx:=fun e=>absurd (h1.typed (e▸h4)) (by decide)
 have nL:(h.take (h.length-1)).length=h.length-1:=by rw[List.length_take];omega
 have ho:w'.ownsRow X.w0.heap.size 202 2 (.slice (some ⟨gl,0,none⟩) (h.length-1) c) (h.take (h.length-1)).length (Dl (h.take (h.length-1))):=by
  rw[nL]
  refine aM (hF.row h4 bV) h3 (by omega) h6 h7 ?_
  rw[←OK,←h8,List.take_take,Nat.min_eq_left (by omega)]
 have h9:=hw.streams (h':=h.take (h.length-1)) (hs _ h) (hF.mono fun b hb=>.inl hb) hr ho (fun b hb=>.inl hb)
 rw[List.set_set]at h9
 exact⟨he,fun a ha=>h0 a (List.mem_of_mem_take ha),by omega,_,h9⟩
theorem Zl{P:Nat}(hlt:iz<os.length){h:List (Nat×Nat)}{W:World}(hr:qS X os m iz sx k g M o P h W)(a:Nat×Nat)(ha:a.1<P)(hl:h.length+1≤100000):
  Calls Tryz.prog 166 #[.pointer (some ⟨sx,0,none⟩),lq a] W fun e w'=>e=.returned (.tuple #[])∧qS X os m iz sx k g M o P (h++[a]) w':=by
 obtain⟨h0,hle,lv,hw⟩:=hr
 have hs:∀lv h,(os.set iz (JW X sx k g M o lv h))[iz]?=some (JW X sx k g M o lv h):=fun lv h=>by rw[List.getElem?_set,if_pos rfl,if_pos hlt]
 obtain⟨h1,h2⟩:=hw.at_ (hs lv h)
 refine(XY (p:=a.1) (x:=a.2) h1 h2 hw.size (by omega)).mono ?_
 rintro e w' ⟨he,Fb,k1,k2,k3,k4⟩
 have ho:w'.ownsRow X.w0.heap.size 202 2 Fb (h++[a]).length (Dl (h++[a])):=by rw[List.length_append,VK];exact k2
 have h9:=hw.streams (h':=h++[a]) (hs _ h) k3 k1 ho k4
 rw[List.set_set]at h9
 refine⟨he,fun b hb=>?_,by rw[List.length_append];exact hl,_,h9⟩
 rcases List.mem_append.1 hb with hb|hb
 ·exact h0 b hb
 ·rw[List.mem_singleton.1 hb];exact ha
end
theorem Ag{a b:List AW}{i:Nat}{v:AW}(h:a[i]?=some v):(a++b)[i]?=some v:=by rw[List.getElem?_append_left (Ik h)];exact h
theorem Dz{a b:List AW}{i:Nat}{u v:AW}(h:a[i]?=some u):(a++b).set i v=a.set i v++b:=List.set_append_left _ _ (Ik h)
theorem AM(a b:List AW)(j:Nat):(a++b)[a.length+j]?=b[j]?:=by rw[List.getElem?_append_right (by omega),Nat.add_sub_cancel_left]
theorem Wd.forget{X:Cx}{a b:List AW}{m:Nat}{W:World}(h:Wd X (a++b) m W)(hb:GX b):Wd X a m W:=by
 have h1:Wd X (a++b++[]) m W:=by rw[List.append_nil];exact h
 have h2:=h1.iP b hb
 rwa [List.append_nil]at h2
theorem DU(g:Nat)(t:TypeId)(cs:List Value):(AI g t cs).gr=none∧(AI g t cs).ex.2=0:=⟨rfl,rfl⟩
theorem AN{a:AW}{l:List AW}(ha:a.gr=none∧a.ex.2=0)(hl:GX l):GX (a::l):=fun q hq=>(List.mem_cons.1 hq).elim (fun e=>by rw[e];exact ha) (hl q)
theorem BW:GX []:=fun q hq=>by cases hq
section
variable {X : Cx} {os : List AW} {m iz ig ip : Nat} {W W' : World} {sx k b g M p0 x0 : Nat} {o t nx : AB} {lv : Value} {hp : List (Nat × Nat)} {cur l : List AB} {rt : Rt}
theorem PZ{W:World}{b:Nat}{u t:AB}(hr:Row W b 63 (Ai u)):Row (((((W.setCell ⟨b,0,none⟩ (.int .i64 t.a)).setCell ⟨b,1,none⟩ (.int .i64 t.b)).setCell ⟨b,2,none⟩ (.int .i64 t.c)).setCell ⟨b,3,none⟩ (.int .i64 t.d)).setCell ⟨b,4,none⟩ (.int .i64 t.e)) b 63 (Ai t)∧
  AL (fun k=>k=b) W (((((W.setCell ⟨b,0,none⟩ (.int .i64 t.a)).setCell ⟨b,1,none⟩ (.int .i64 t.b)).setCell ⟨b,2,none⟩ (.int .i64 t.c)).setCell ⟨b,3,none⟩ (.int .i64 t.d)).setCell ⟨b,4,none⟩ (.int .i64 t.e)):=by
 refine⟨((((hr.set 0 _).set 1 _).set 2 _).set 3 _).set 4 _,?_⟩
 exact((((((AL.refl (fun k=>k=b) W).set (p:=⟨b,0,none⟩) (.inl rfl) _).set (p:=⟨b,1,none⟩) (.inl rfl) _).set (p:=⟨b,2,none⟩) (.inl rfl) _).set (p:=⟨b,3,none⟩) (.inl rfl) _).set (p:=⟨b,4,none⟩) (.inl rfl) _)
theorem JE{z:List AW}{W w':World}{s0:Nat}{u t:AB}(h:Wd X (os++AI s0 63 (Ai u)::z) m W)(hz:GX z)(hw:w'=(((((W.setCell ⟨s0,0,none⟩ (.int .i64 t.a)).setCell ⟨s0,1,none⟩ (.int .i64 t.b)).setCell ⟨s0,2,none⟩ (.int .i64 t.c)).setCell ⟨s0,3,none⟩ (.int .i64 t.d)).setCell ⟨s0,4,none⟩ (.int .i64 t.e))):
  (w'.cell? ⟨s0,0,none⟩=some (.int .i64 t.a)∧w'.cell? ⟨s0,1,none⟩=some (.int .i64 t.b)∧w'.cell? ⟨s0,2,none⟩=some (.int .i64 t.c)∧w'.cell? ⟨s0,3,none⟩=some (.int .i64 t.d)∧w'.cell? ⟨s0,4,none⟩=some (.int .i64 t.e))∧Hid (Wd X os m w'):=by
 subst hw
 have h1:Wd X ((os++[AI s0 63 (Ai u)])++z) m W:=by rw[List.append_assoc];exact h
 have h2:=h1.forget hz
 have Bp:(os++[AI s0 63 (Ai u)])[os.length]?=some (AI s0 63 (Ai u)):=by rw[List.getElem?_append_right (Nat.le_refl _),Nat.sub_self];rfl
 obtain⟨h3,h4⟩:=PZ (t:=t) (h2.row Bp)
 have h5:=h2.MU Bp (by decide) h4 h3
 rw[Ct]at h5
 exact⟨⟨h3.cell 0,h3.cell 1,h3.cell 2,h3.cell 3,h3.cell 4⟩,h5.forget (AN (DU _ _ _) BW)⟩
theorem UQ(h:Wd X os m W)(hs:os[iz]?=some (JW X sx k g M o lv [])):Calls Tryz.prog 165 #[.pointer (some ⟨sx,0,none⟩)] W fun e w'=>e=.returned (.tuple #[JM AD,.bool false,.int .i64 0])∧Wd X os m w':=by
 obtain⟨W1,B8⟩:∃W1,W1=W.alloc (.cells #[.int .i64 0,.int .i64 0,.int .i64 0,.int .i64 0,.int .i64 0] 63):=⟨_,rfl⟩
 have Am:Below W.heap.size W W1:=by rw[B8];exact(Below.refl _ _).alloc (Nat.le_refl _) _
 have Bl:Row W1 W.heap.size 63 [.int .i64 0,.int .i64 0,.int .i64 0,.int .i64 0,.int .i64 0]:=by rw[B8];exact heap_alloc_new _ _
 have h1:Hid (Wd X (os++[AI W.heap.size 63 (Ai AD)]) m W1):=h.new Am (g:=W.heap.size) (t:=63) (cs:=Ai AD) Bl (Nat.le_refl _)
 obtain⟨A,c,rfl⟩:=JF (h.at_ hs).2
 have HL:Hid (Calls Tryz.prog 130 #[.pointer (some ⟨sx,0,none⟩)] W1 fun e w'=>e=.returned (.int .i64 0)∧w'=W1):=KV (h1.out.at_ (Ag hs)).1
 have Ef:=Lib.hid B8
 have c0:W1.cell? ⟨W.heap.size,0,none⟩=some (.int .i64 0):=Bl.cell 0
 have c1:W1.cell? ⟨W.heap.size,1,none⟩=some (.int .i64 0):=Bl.cell 1
 have c2:W1.cell? ⟨W.heap.size,2,none⟩=some (.int .i64 0):=Bl.cell 2
 have c3:W1.cell? ⟨W.heap.size,3,none⟩=some (.int .i64 0):=Bl.cell 3
 have c4:W1.cell? ⟨W.heap.size,4,none⟩=some (.int .i64 0):=Bl.cell 4
 have d0:W1.frozen? ⟨W.heap.size,0,none⟩=false:=Bl.free 0
 have d1:W1.frozen? ⟨W.heap.size,1,none⟩=false:=Bl.free 1
 have d2:W1.frozen? ⟨W.heap.size,2,none⟩=false:=Bl.free 2
 have d3:W1.frozen? ⟨W.heap.size,3,none⟩=false:=Bl.free 3
 have d4:W1.frozen? ⟨W.heap.size,4,none⟩=false:=Bl.free 4
 generalize ZF:W.heap.size=s0 at*
 clear h hs Am B8 Bl
 go_enter Tryz.func165,Tryz.ntmps165
 go_upto_region 1 with(fail)
 rw[←Ef.out]
 clear Ef
 go_wp2_with fail
 refine HL.out.mono ?_
 rintro e w2 ⟨rfl,rfl⟩
 clear HL ZF
 go_wp2
 have h9:=JE (t:=⟨0,0,0,0,0⟩) h1.out BW rfl
 dsimp only at h9
 generalize(((((w2.setCell ⟨s0,0,none⟩ (.int .i64 0)).setCell ⟨s0,1,none⟩ (.int .i64 0)).setCell ⟨s0,2,none⟩ (.int .i64 0)).setCell ⟨s0,3,none⟩ (.int .i64 0)).setCell ⟨s0,4,none⟩ (.int .i64 0))=w9 at*
 obtain⟨⟨q0,q1,q2,q3,q4⟩,H9⟩:=h9
 exact bodyPost_ret (v:=.tuple #[.agg #[.int .i64 0,.int .i64 0,.int .i64 0,.int .i64 0,.int .i64 0],.bool false,.int .i64 0]) (by simp[results,Tryz.results165,go_sem,q0,q1,q2,q3,q4]) rfl ⟨rfl,H9.out⟩
theorem Sf{hp:List (Nat×Nat)}(p9:(hp.map (·.1)).Nodup){i j:Nat}(hi:i<hp.length)(hj:j<hp.length)(Fq:i≠j):(hp.getD i (0,0)).1≠(hp.getD j (0,0)).1:=fun e=>by
 have e1:∀{i:Nat} (h:i<hp.length),(hp.getD i (0,0)).1=(hp.map (·.1))[i]'(by rw[List.length_map];exact h):=fun {i} h=>by
  rw[List.getElem_map,List.getD_eq_getElem?_getD,List.getElem?_eq_getElem h];rfl
 rw[e1 hi,e1 hj]at e
 have hpw:=List.pairwise_iff_getElem.1 p9
 rcases Nat.lt_or_gt_of_ne Fq with h|h
 ·exact hpw i j _ _ h e
 ·exact hpw j i _ _ h e.symm
theorem YW(p9:(hp.map (·.1)).Nodup)(hne:0<hp.length)(h0:hp.getD 0 (0,0)=(p0,x0))(gf:p0≤cur.length)(hh:Hp (Mc o fun p=>cur.getD p AD) (fun i=>hp.getD i (0,0)) hp.length):Yw (Mc o fun p=>(Da cur p0 nx).getD p AD) (fun i=>hp.getD i (0,0)) hp.length 0:=by
 refine Hp.ko fun j PG hj sL=>?_
 have h1:=hh j PG hj
 have h2:=Ii PG
 have h3:=Sf p9 hj hne (by omega)
 have h4:=Sf p9 (show par j<hp.length by omega) hne sL
 rw[h0]at h3 h4
 unfold Mc at h1⊢
 simp only[Ke gf]
 rw[if_neg h3,if_neg h4]
 exact h1
theorem Zz(a:Nat×Nat)(w:World):Sem.run Tryz.prog (Instr.field 202 (.agg #[.int .i64 (a.1:Nat),.pointer (some ⟨a.2,0,none⟩)]) 1) w=.ok (.pointer (some ⟨a.2,0,none⟩)) w:=by kernel_rfl
theorem Xa(h:Wd X os m W)(hg:os[ig]?=some (CX b g M k cur))(hs:os[iz]?=some (JW X sx k g M o lv hp))(hr:os[ip]?=some (DZ X.p x0 rt X.sz l))(hd:ig≠iz∧ip≠ig∧ip≠iz)
    (hne:0<hp.length∧hp.length≤100000) (h0:hp.getD 0 (0,0)=(p0,x0)) (hk:0<k∧k≤5) (hM:cur.length*k≤M∧M≤1000000) (hf:Ds k cur) (Bm:∀a∈hp,a.1<cur.length) (p9:(hp.map (·.1)).Nodup)
    (hh:Hp (Mc o fun p=>cur.getD p AD) (fun i=>hp.getD i (0,0)) hp.length) (hok:iU rt X.sz l) (hn:X.N+m<1000000) (B4:Src os X.sz rt.first rt.k rt.h l) (hrk:rt.k=k) (ht:cur.getD p0 AD=t):
    Calls Tryz.prog 165 #[.pointer (some ⟨sx,0,none⟩)] W fun e w'=>
      (e=.returned (.tuple #[JM t,.bool true,.int .i64 0])∧
        ((∃ nx eI Fb,rt.pos<rt.count∧l[rt.pos]?=some nx∧Hp (Mc o fun p=>(Da cur p0 nx).getD p AD) (fun i=>eI.getD i (0,0)) eI.length∧eI.Perm hp∧
            Wd X (((os.set ip (DZ X.p x0 {rt with pos:=rt.pos+1} X.sz l)).set ig (CX b g M k (Da cur p0 nx))).set iz (JW X sx k g M o Fb eI)) (m+(AA rt.h (rt.pos+1)-AA rt.h rt.pos)) w')∨
         (∃ eI Fb,rt.pos=rt.count∧Hp (Mc o fun p=>cur.getD p AD) (fun i=>eI.getD i (0,0)) eI.length∧((p0,x0)::eI).Perm hp∧
            Wd X ((os.set ip (Ot X.p x0 rt)).set iz (JW X sx k g M o Fb eI)) m w')))∨
      (e=.returned (.tuple #[JM AD,.bool false,.int .i64 6])∧¬X.cm∧Wd X (os.set ip (Ot X.p x0 rt)) (m+1) w'):=by
  obtain⟨gl,c,cs,rfl,h3,h4,h5,h6,h7,h8⟩:=FT (h.at_ hs).2 hne.1
  have hm0:=(Bx hne.1).1
  rw[h0]at hm0
  have gf:p0<cur.length:=by
    have:=Bm _ (Bx hne.1).2
    rw[h0]at this;exact this
  have Dr:Hid (∀(os' z:List AW) m' W',os'[iz]?=some (JW X sx k g M o (.slice (some ⟨gl,0,none⟩) hp.length c) hp)→Wd X (os'++z) m' W'→Row W' sx 187 (Gg k g M M o (.slice (some ⟨gl,0,none⟩) hp.length c))∧W'.cell? ⟨gl,0,none⟩=some (.int .i64 (p0:Nat))∧W'.cell? ⟨gl,1,none⟩=some (.pointer (some ⟨x0,0,none⟩))):=fun os' z m' W' hi hw=>by
    obtain⟨k1,k2⟩:=hw.at_ (Ag hi)
    obtain⟨gl2,c2,cs2,e2,_,k4,k5,_,k7,k8⟩:=FT k2 hne.1
    injection e2 with e2 _ e3
    injection e2 with e2
    injection e2 with e2
    subst e2
    obtain⟨m1,m2⟩:=Cz hm0
    refine⟨k1,?_,?_⟩
    · rw[k4.cell,←m1,←k8,List.getElem?_take,if_pos (by omega),Nat.zero_mul]
    · rw[k4.cell,←m2,←k8,List.getElem?_take,if_pos (by omega),Nat.zero_mul]
  have R2:Hid (∀W4 z,Wd X (os++z) m W4→Calls Tryz.prog 52 #[.pointer (some ⟨x0,0,none⟩)] W4 fun e w'=>
      (∃ na nb nc nd ne,e=.returned (.tuple #[.agg #[.int .i64 na,.int .i64 nb,.int .i64 nc,.int .i64 nd,.int .i64 ne],.bool true,.int .i64 0])∧rt.pos<rt.count∧l[rt.pos]?=some ⟨na,nb,nc,nd,ne⟩∧Wd X (os.set ip (DZ X.p x0 {rt with pos:=rt.pos+1} X.sz l)++z) (m+(AA rt.h (rt.pos+1)-AA rt.h rt.pos)) w')∨
      (e=.returned (.tuple #[.agg #[.int .i64 0,.int .i64 0,.int .i64 0,.int .i64 0,.int .i64 0],.bool false,.int .i64 0])∧rt.pos=rt.count∧Wd X (os++z) m w')∨
      (e=.returned (.tuple #[.agg #[.int .i64 0,.int .i64 0,.int .i64 0,.int .i64 0,.int .i64 0],.bool false,.int .i64 6])∧¬X.cm∧Wd X (os.set ip (Ot X.p x0 rt)++z) (m+1) w')):=fun W4 z h4=>by
    have hrz:(os++z)[ip]?=some (DZ X.p x0 rt X.sz l):=Ag hr
    rcases Nat.eq_or_lt_of_le hok.ok.count.2 with he|hlt
    · refine(L7 h4 hrz hok.ok he).mono ?_
      exact fun e w' ⟨h1,h2⟩=>.inr (.inl ⟨h1,he,h2⟩)
    · obtain⟨nx,Lk⟩:∃nx,l[rt.pos]?=some nx:=⟨_,List.getElem?_eq_getElem (by rw[hok.cnt];exact hlt)⟩
      have hsz:Src (os++z) X.sz rt.first rt.k rt.h l:=by
        obtain⟨j,f,k1,k2,k3⟩:=B4
        exact⟨j,f,Ag k1,k2,k3⟩
      refine(Mp h4 hrz hok hn hlt hsz Lk).mono ?_
      rintro e w' (⟨h1,h2⟩|⟨h1,h2,h3⟩)
      · rw[Dz hr]at h2
        exact .inl ⟨nx.a,nx.b,nx.c,nx.d,nx.e,h1,hlt,Lk,h2⟩
      · rw[Dz hr]at h3
        exact .inr (.inr ⟨h1,h2,h3⟩)
  clear h3 h4 h5 h6 h7 h8
  generalize wH:hp.length=n at*
  obtain⟨W1,B8⟩:∃W1,W1=W.alloc (.cells #[.int .i64 0,.int .i64 0,.int .i64 0,.int .i64 0,.int .i64 0] 63):=⟨_,rfl⟩
  have Am:Below W.heap.size W W1:=by rw[B8];exact(Below.refl _ _).alloc (Nat.le_refl _) _
  have H1:Hid (Wd X (os++[AI W.heap.size 63 (Ai AD)]) m W1):=h.new Am (by rw[B8];exact heap_alloc_new _ _) (Nat.le_refl _)
  have Ef:=Lib.hid B8
  clear B8 Am
  generalize ZF:W.heap.size=s0 at*
  obtain⟨W2,T3⟩:∃W2,W2=W1.alloc (.cells #[.int .i64 (p0:Nat),.pointer (some ⟨x0,0,none⟩)] 202):=⟨_,rfl⟩
  have AZ:Below W1.heap.size W1 W2:=by rw[T3];exact(Below.refl _ _).alloc (Nat.le_refl _) _
  have H2:Hid (Wd X (os++[AI s0 63 (Ai AD),AI W1.heap.size 202 (Hq (p0,x0))]) m W2):=by
    have h9:=H1.out.new AZ (g:=W1.heap.size) (t:=202) (cs:=Hq (p0,x0)) (by rw[T3];exact heap_alloc_new _ _) (Nat.le_refl _)
    rw[List.append_assoc]at h9;exact h9
  have Vb:=Lib.hid T3
  clear T3 AZ
  generalize hS1:W1.heap.size=s1 at*
  have Bl:=Dr.out os _ _ _ hs H1.out
  have HL:=Lib.hid (KV Bl.1)
  have c7:W1.cell? ⟨sx,7,none⟩=some (.slice (some ⟨gl,0,none⟩) n c):=Bl.1.cell 7
  have l0:=Bl.2.1
  have l1:=Bl.2.2
  have n1:(0:Int)<(n:Int):=by omega
  have n2:((n:Int)==0)=false:=by simp;omega
  clear Bl
  go_enter Tryz.func165,Tryz.ntmps165
  go_upto_region 1 with(fail)
  rw[←Ef.out]
  clear Ef
  go_wp2_with fail
  refine HL.out.mono ?_
  rintro e w2 ⟨rfl,rfl⟩
  clear HL
  go_upto_region 4 with(fail)
  rw[←Vb.out]
  clear Vb c7 l0 l1 ZF hS1
  have vQ:=H2.out.drewN 1
  rw[show W2.drewN 1=W2.drew from rfl]at vQ
  have Av:=Dr.out os _ _ _ hs vQ
  have c0:W2.drew.cell? ⟨sx,0,none⟩=some (.int .i64 k):=Av.1.cell 0
  have c1:W2.drew.cell? ⟨sx,1,none⟩=some (.slice (some ⟨g,0,none⟩) M M):=Av.1.cell 1
  have e0:W2.drew.cell? ⟨s1,0,none⟩=some (.int .i64 (p0:Nat)):=(vQ.row (AM os _ 1)).cell 0
  have HG:=Lib.hid (RV vQ (Ag hg) hk hM hf gf)
  rw[ht]at HG
  have HK:Hid (∀w3,Below W2.heap.size W2 w3→(w3.cell? ⟨sx,0,none⟩=some (.int .i64 k)∧w3.cell? ⟨sx,1,none⟩=some (.slice (some ⟨g,0,none⟩) M M)∧w3.cell? ⟨s1,0,none⟩=some (.int .i64 (p0:Nat)))):=fun w3 hb=>by
    have h9:=H2.out.below hb
    have h8:=Dr.out os _ _ _ hs h9
    exact⟨h8.1.cell 0,h8.1.cell 1,(h9.row (AM os _ 1)).cell 0⟩
  clear Av vQ
  obtain⟨W3,M4⟩:∃W3,W3=W2.alloc (.cells #[.int .i64 0,.int .i64 0,.int .i64 0,.int .i64 0,.int .i64 0] 63):=⟨_,rfl⟩
  have A8:Below W2.heap.size W2 W3.drew:=by rw[M4];exact((Below.refl _ _).alloc (Nat.le_refl _) _).drew
  have H3:Hid (Wd X (os++[AI s0 63 (Ai AD),AI s1 202 (Hq (p0,x0)),AI W2.heap.size 63 (Ai AD)]) m W3.drew):=by
    have h9:=H2.out.new A8 (g:=W2.heap.size) (t:=63) (cs:=Ai AD) (by rw[M4];exact heap_alloc_new _ _) (Nat.le_refl _)
    rw[List.append_assoc]at h9;exact h9
  have ZI:=Lib.hid (RV H3.out (Ag hg) hk hM hf gf)
  rw[ht]at ZI
  have b3:=HK.out _ A8
  have BM:Hid (∀w3,Below W3.drew.heap.size W3.drew w3→Below W2.heap.size W2 w3∧Hid (Wd X (os++[AI s0 63 (Ai AD),AI s1 202 (Hq (p0,x0)),AI W2.heap.size 63 (Ai AD)]) m w3)):=fun w3 hb=>⟨A8.trans (hb.mono A8.size),H3.out.below hb⟩
  have Vl:Hid (∀w3,Wd X (os++[AI s0 63 (Ai AD),AI s1 202 (Hq (p0,x0)),AI W2.heap.size 63 (Ai AD)]) m w3→(w3.cell? ⟨W2.heap.size,0,none⟩=some (.int .i64 0)∧w3.cell? ⟨W2.heap.size,1,none⟩=some (.int .i64 0)∧w3.cell? ⟨W2.heap.size,2,none⟩=some (.int .i64 0)∧w3.cell? ⟨W2.heap.size,3,none⟩=some (.int .i64 0)∧w3.cell? ⟨W2.heap.size,4,none⟩=some (.int .i64 0))∧
      (w3.frozen? ⟨W2.heap.size,0,none⟩=false∧w3.frozen? ⟨W2.heap.size,1,none⟩=false∧w3.frozen? ⟨W2.heap.size,2,none⟩=false∧w3.frozen? ⟨W2.heap.size,3,none⟩=false∧w3.frozen? ⟨W2.heap.size,4,none⟩=false)):=fun w3 h9=>by
    have hr:=h9.row (AM os _ 2)
    exact⟨⟨hr.cell 0,hr.cell 1,hr.cell 2,hr.cell 3,hr.cell 4⟩,hr.free 0,hr.free 1,hr.free 2,hr.free 3,hr.free 4⟩
  have Bt:Hid (∀w3,Below W2.drew.heap.size W2.drew w3→Below W2.heap.size W2 w3∧Hid (Wd X (os++[AI s0 63 (Ai AD),AI s1 202 (Hq (p0,x0))]) m w3)):=fun w3 hb=>⟨(AG (Below.refl _ _)).trans hb,H2.out.below ((AG (Below.refl _ _)).trans hb)⟩
  rw[M4]at ZI b3 BM
  clear M4 A8 H3
  go_region_held3 (fun w'=>w'.cell? ⟨sx,0,none⟩=some (.int .i64 k)∧w'.cell? ⟨sx,1,none⟩=some (.slice (some ⟨g,0,none⟩) M M)∧w'.cell? ⟨s1,0,none⟩=some (.int .i64 (p0:Nat))) (first|with_reducible exact⟨c0,c1,e0⟩|with_reducible exact b3|with_reducible exact q3|with_reducible exact q4|with_reducible exact q5)
    (first
      | (go_at_call 163;(with_reducible refine HG.out.mono ?_);rintro e w3 ⟨rfl,A8⟩;obtain⟨Dp,H9⟩:=Bt.out w3 A8;have q3:=HK.out w3 Dp;have q4:=HK.out _ (Dp.alloc Dp.size (.cells #[.int .i64 0,.int .i64 0,.int .i64 0,.int .i64 0,.int .i64 0] 63));have q5:=HK.out _ (Dp.alloc Dp.size (.cells #[.int .i64 t.a,.int .i64 t.b,.int .i64 t.c,.int .i64 t.d,.int .i64 t.e] 63)))
      | (go_at_call 163;(with_reducible refine ZI.out.mono ?_);rintro e w3 ⟨rfl,A8⟩;obtain⟨Dp,H9⟩:=BM.out w3 A8;have q3:=HK.out w3 Dp;obtain⟨⟨z0,z1,z2,z3,z4⟩,⟨y0,y1,y2,y3,y4⟩⟩:=Vl.out w3 H9.out;have q4:=HK.out _ (((((Dp.setCell (p:=⟨W2.heap.size,0,none⟩) (Nat.le_refl _) (.int .i64 t.a)).setCell (p:=⟨W2.heap.size,1,none⟩) (Nat.le_refl _) (.int .i64 t.b)).setCell (p:=⟨W2.heap.size,2,none⟩) (Nat.le_refl _) (.int .i64 t.c)).setCell (p:=⟨W2.heap.size,3,none⟩) (Nat.le_refl _) (.int .i64 t.d)).setCell (p:=⟨W2.heap.size,4,none⟩) (Nat.le_refl _) (.int .i64 t.e));have q5:=q4))
  all_goals
    first
      | (have hx:Wd X (os++[AI s0 63 (Ai AD),AI s1 202 (Hq (p0,x0)),AI w3.heap.size 63 (Ai t)]) m (w3.alloc (.cells #[.int .i64 t.a,.int .i64 t.b,.int .i64 t.c,.int .i64 t.d,.int .i64 t.e] 63)):=by
           have h9:=H9.out.new ((Below.refl _ _).alloc (Nat.le_refl _) _) (g:=w3.heap.size) (t:=63) (cs:=Ai t) (heap_alloc_new w3 (.cells #[.int .i64 t.a,.int .i64 t.b,.int .i64 t.c,.int .i64 t.d,.int .i64 t.e] 63)) (Nat.le_refl _)
           rw[List.append_assoc]at h9;exact h9
         clear q3 q4 q5 A8 Dp
         generalize w3.alloc (.cells #[.int .i64 t.a,.int .i64 t.b,.int .i64 t.c,.int .i64 t.d,.int .i64 t.e] 63)=W4 at*
         generalize w3.heap.size=s3 at*)
      | (have hx:Wd X (os++[AI s0 63 (Ai AD),AI s1 202 (Hq (p0,x0)),AI W2.heap.size 63 (Ai t)]) m (((((w3.setCell ⟨W2.heap.size,0,none⟩ (.int .i64 t.a)).setCell ⟨W2.heap.size,1,none⟩ (.int .i64 t.b)).setCell ⟨W2.heap.size,2,none⟩ (.int .i64 t.c)).setCell ⟨W2.heap.size,3,none⟩ (.int .i64 t.d)).setCell ⟨W2.heap.size,4,none⟩ (.int .i64 t.e)):=by
           have Bp:(os++[AI s0 63 (Ai AD),AI s1 202 (Hq (p0,x0)),AI W2.heap.size 63 (Ai AD)])[os.length+2]?=some (AI W2.heap.size 63 (Ai AD)):=AM os _ 2
           obtain⟨h3,h4⟩:=PZ (t:=t) (H9.out.row Bp)
           have h9:=H9.out.MU Bp (by decide) h4 h3
           rw[List.set_append_right _ _ (by omega),show os.length+2-os.length=2 by omega]at h9
           exact h9
         clear q3 q4 q5 A8 Dp z0 z1 z2 z3 z4 y0 y1 y2 y3 y4
         generalize((((w3.setCell ⟨W2.heap.size,0,none⟩ (.int .i64 t.a)).setCell ⟨W2.heap.size,1,none⟩ (.int .i64 t.b)).setCell ⟨W2.heap.size,2,none⟩ (.int .i64 t.c)).setCell ⟨W2.heap.size,3,none⟩ (.int .i64 t.d)).setCell ⟨W2.heap.size,4,none⟩ (.int .i64 t.e)=W4 at*
         generalize W2.heap.size=s3 at*)
    have H4:=Lib.hid hx
    have e1:W4.cell? ⟨s1,1,none⟩=some (.pointer (some ⟨x0,0,none⟩)):=(hx.row (AM os _ 1)).cell 1
    have wW:=Lib.hid (R2.out W4 _ hx)
    clear hx H9 c0 c1 e0 b3 HG ZI BM Bt Vl HK H2 H1
    go_wp2_with fail
    refine wW.out.mono ?_
    rintro e w5 (⟨na,nb,nc,nd,ne,rfl,hlt,Lk,h5⟩|⟨rfl,p7,h5⟩|⟨rfl,Dn,h5⟩)
    · obtain⟨Y7,bS⟩:∃Y7,Y7=os.set ip (DZ X.p x0 {rt with pos:=rt.pos+1} X.sz l):=⟨_,rfl⟩
      obtain⟨m1,KH⟩:∃m1,m1=m+(AA rt.h (rt.pos+1)-AA rt.h rt.pos):=⟨_,rfl⟩
      rw[←bS,←KH]at h5
      have Rx:Y7[iz]?=some (JW X sx k g M o (.slice (some ⟨gl,0,none⟩) n c) hp):=by rw[bS];exact CH hs hd.2.2
      have Lm:Y7[ig]?=some (CX b g M k cur):=by rw[bS];exact CH hg hd.2.1
      have hnf:=hok.fit _ (List.mem_of_getElem? Lk)
      rw[hrk]at hnf
      have h6:Wd X (Y7++[AI s0 63 (Ai AD),AI s1 202 (Hq (p0,x0)),AI s3 63 (Ai t),AI w5.heap.size 63 (Ai ⟨na,nb,nc,nd,ne⟩)]) m1 (w5.alloc (.cells #[.int .i64 na,.int .i64 nb,.int .i64 nc,.int .i64 nd,.int .i64 ne] 63)):=by
        have h9:=h5.new ((Below.refl _ _).alloc (Nat.le_refl _) _) (g:=w5.heap.size) (t:=63) (cs:=Ai ⟨na,nb,nc,nd,ne⟩) (heap_alloc_new w5 (.cells #[.int .i64 na,.int .i64 nb,.int .i64 nc,.int .i64 nd,.int .i64 ne] 63)) (Nat.le_refl _)
        rw[List.append_assoc]at h9;exact h9
      have HOS:=Lib.hid bS
      have pI:=Lib.hid KH
      have HNF:=Lib.hid hnf
      have IP:=Lib.hid hlt
      have AB3:=Lib.hid Lk
      clear h5 wW H4 bS KH hnf Lk e1
      go_upto_region 10 with(fail)
      generalize w5.alloc (.cells #[.int .i64 na,.int .i64 nb,.int .i64 nc,.int .i64 nd,.int .i64 ne] 63)=w6 at*
      generalize w5.heap.size=s5 at*
      have QB:=h6.drewN 1
      rw[show w6.drewN 1=w6.drew from rfl]at QB
      have Ez:=Dr.out Y7 _ _ _ Rx QB
      have c0:w6.drew.cell? ⟨sx,0,none⟩=some (.int .i64 k):=Ez.1.cell 0
      have c1:w6.drew.cell? ⟨sx,1,none⟩=some (.slice (some ⟨g,0,none⟩) M M):=Ez.1.cell 1
      have e0:w6.drew.cell? ⟨s1,0,none⟩=some (.int .i64 (p0:Nat)):=(QB.row (AM _ _ 1)).cell 0
      have d0:w6.drew.cell? ⟨s5,0,none⟩=some (.int .i64 na):=(QB.row (AM _ _ 3)).cell 0
      have d1:w6.drew.cell? ⟨s5,1,none⟩=some (.int .i64 nb):=(QB.row (AM _ _ 3)).cell 1
      have d2:w6.drew.cell? ⟨s5,2,none⟩=some (.int .i64 nc):=(QB.row (AM _ _ 3)).cell 2
      have d3:w6.drew.cell? ⟨s5,3,none⟩=some (.int .i64 nd):=(QB.row (AM _ _ 3)).cell 3
      have d4:w6.drew.cell? ⟨s5,4,none⟩=some (.int .i64 ne):=(QB.row (AM _ _ 3)).cell 4
      have sK:p0*k+k≤M:=by
        have h1:=Nat.mul_le_mul_right k (show p0+1≤cur.length from gf)
        rw[Nat.add_mul,Nat.one_mul]at h1;omega
      have Vc:Hid (Calls Tryz.prog 112 #[.agg #[.int .i64 k,.slice (some ⟨g,0,none⟩) M M],.int .i64 (p0:Nat),.agg #[.int .i64 na,.int .i64 nb,.int .i64 nc,.int .i64 nd,.int .i64 ne]] w6.drew fun e w'=>e=.returned (.tuple #[])∧Wd X (Y7.set ig (CX b g M k (Da cur p0 ⟨na,nb,nc,nd,ne⟩))++[AI s0 63 (Ai AD),AI s1 202 (Hq (p0,x0)),AI s3 63 (Ai t),AI s5 63 (Ai ⟨na,nb,nc,nd,ne⟩)]) m1 w'):=by
        refine(UG QB (Ag Lm) hk p0 ⟨na,nb,nc,nd,ne⟩ (by omega) sK ⟨Nat.le_refl _,hM.2⟩ hM.1).mono ?_
        rintro e w' ⟨h1,h2,_⟩
        rw[Dz Lm]at h2
        exact⟨h1,h2⟩
      have vG:Hid (∀w',Wd X (Y7.set ig (CX b g M k (Da cur p0 ⟨na,nb,nc,nd,ne⟩))++[AI s0 63 (Ai AD),AI s1 202 (Hq (p0,x0)),AI s3 63 (Ai t),AI s5 63 (Ai ⟨na,nb,nc,nd,ne⟩)]) m1 w'→(w'.cell? ⟨sx,0,none⟩=some (.int .i64 k)∧w'.cell? ⟨sx,1,none⟩=some (.slice (some ⟨g,0,none⟩) M M)∧w'.cell? ⟨s1,0,none⟩=some (.int .i64 (p0:Nat))∧w'.cell? ⟨s5,0,none⟩=some (.int .i64 na)∧w'.cell? ⟨s5,1,none⟩=some (.int .i64 nb)∧w'.cell? ⟨s5,2,none⟩=some (.int .i64 nc)∧w'.cell? ⟨s5,3,none⟩=some (.int .i64 nd)∧w'.cell? ⟨s5,4,none⟩=some (.int .i64 ne))):=fun w' h9=>by
        have GG:=Dr.out _ _ _ _ (CH Rx hd.1) h9
        exact⟨GG.1.cell 0,GG.1.cell 1,(h9.row (AM _ _ 1)).cell 0,(h9.row (AM _ _ 3)).cell 0,(h9.row (AM _ _ 3)).cell 1,(h9.row (AM _ _ 3)).cell 2,(h9.row (AM _ _ 3)).cell 3,(h9.row (AM _ _ 3)).cell 4⟩
      have H6:=Lib.hid h6
      clear h6 QB Ez sK
      go_region_held3 (fun w'=>w'.cell? ⟨sx,0,none⟩=some (.int .i64 k)∧w'.cell? ⟨sx,1,none⟩=some (.slice (some ⟨g,0,none⟩) M M)∧w'.cell? ⟨s1,0,none⟩=some (.int .i64 (p0:Nat))∧w'.cell? ⟨s5,0,none⟩=some (.int .i64 na)∧w'.cell? ⟨s5,1,none⟩=some (.int .i64 nb)∧w'.cell? ⟨s5,2,none⟩=some (.int .i64 nc)∧w'.cell? ⟨s5,3,none⟩=some (.int .i64 nd)∧w'.cell? ⟨s5,4,none⟩=some (.int .i64 ne)) (first|with_reducible exact⟨c0,c1,e0,d0,d1,d2,d3,d4⟩|with_reducible exact q7)
        ((go_at_call 112;(with_reducible refine Vc.out.mono ?_);rintro e w7 ⟨rfl,h7⟩;have q7:=vG.out w7 h7))
      have TG:(Y7.set ig (CX b g M k (Da cur p0 ⟨na,nb,nc,nd,ne⟩)))[iz]?=some (JW X sx k g M o (.slice (some ⟨gl,0,none⟩) n c) hp):=CH Rx hd.1
      have qD:(Y7.set ig (CX b g M k (Da cur p0 ⟨na,nb,nc,nd,ne⟩)))[ig]?=some (CX b g M k (Da cur p0 ⟨na,nb,nc,nd,ne⟩)):=NZ Y7 Lm _
      have D9:(Da cur p0 ⟨na,nb,nc,nd,ne⟩).length=cur.length:=by rw[Kc (by omega)];omega
      have hFX:Calls Tryz.prog 168 #[.iface 184 (.pointer (some ⟨sx,0,none⟩)),.int .i64 0] w7 fun e w'=>e=.returned (.tuple #[])∧∃h' Fb,Hp (Mc o fun p=>(Da cur p0 ⟨na,nb,nc,nd,ne⟩).getD p AD) (fun i=>h'.getD i (0,0)) h'.length∧h'.Perm hp∧
          Wd X ((Y7.set ig (CX b g M k (Da cur p0 ⟨na,nb,nc,nd,ne⟩))).set iz (JW X sx k g M o Fb h')++[AI s0 63 (Ai AD),AI s1 202 (Hq (p0,x0)),AI s3 63 (Ai t),AI s5 63 (Ai ⟨na,nb,nc,nd,ne⟩)]) m1 w':=by
        have hC:=LV (X:=X) (m:=m1) (o:=o) (sx:=sx) (Ag (b:=[AI s0 63 (Ai AD),AI s1 202 (Hq (p0,x0)),AI s3 63 (Ai t),AI s5 63 (Ai ⟨na,nb,nc,nd,ne⟩)]) qD) (fun e=>hd.1 e.symm) (Ik (Ag TG)) hk ⟨by rw[D9];exact hM.1,hM.2⟩ (Sc hf HNF.out)
        refine(bh (h:=hp) hC (Kj _ _) ⟨fun a ha=>by rw[D9];exact Bm a ha,by omega,.slice (some ⟨gl,0,none⟩) n c,by rw[EV (Ag TG)];exact h7⟩ (by omega) ?_).mono ?_
        · exact YW p9 (by omega) h0 (by omega) (by rw[wH];exact hh)
        · rintro e w' ⟨h1,h',h2,h3,_,_,Fb,h5⟩
          rw[Dz TG]at h5
          exact⟨h1,h',Fb,by rw[h3.length_eq];exact h2,h3,h5⟩
      have HFX:=Lib.hid hFX
      clear hFX h7 q7 H6 Vc vG c0 c1 e0 d0 d1 d2 d3 d4
      go_wp2_with fail
      refine HFX.out.mono ?_
      rintro e w8 ⟨rfl,h',Fb,k1,k2,h8⟩
      have lK:=Lib.hid k1
      have Vi:=Lib.hid k2
      clear k1 k2 HFX
      have Ey:=h8.row (AM _ _ 0)
      have YF:=h8.row (AM _ _ 2)
      have y0:w8.cell? ⟨s0,0,none⟩=some (.int .i64 0):=Ey.cell 0
      have y1:w8.cell? ⟨s0,1,none⟩=some (.int .i64 0):=Ey.cell 1
      have y2:w8.cell? ⟨s0,2,none⟩=some (.int .i64 0):=Ey.cell 2
      have y3:w8.cell? ⟨s0,3,none⟩=some (.int .i64 0):=Ey.cell 3
      have y4:w8.cell? ⟨s0,4,none⟩=some (.int .i64 0):=Ey.cell 4
      have x0':w8.frozen? ⟨s0,0,none⟩=false:=Ey.free 0
      have x1':w8.frozen? ⟨s0,1,none⟩=false:=Ey.free 1
      have x2':w8.frozen? ⟨s0,2,none⟩=false:=Ey.free 2
      have x3':w8.frozen? ⟨s0,3,none⟩=false:=Ey.free 3
      have x4':w8.frozen? ⟨s0,4,none⟩=false:=Ey.free 4
      have v0:w8.cell? ⟨s3,0,none⟩=some (.int .i64 t.a):=YF.cell 0
      have v1:w8.cell? ⟨s3,1,none⟩=some (.int .i64 t.b):=YF.cell 1
      have v2:w8.cell? ⟨s3,2,none⟩=some (.int .i64 t.c):=YF.cell 2
      have v3:w8.cell? ⟨s3,3,none⟩=some (.int .i64 t.d):=YF.cell 3
      have v4:w8.cell? ⟨s3,4,none⟩=some (.int .i64 t.e):=YF.cell 4
      have H8:=Lib.hid h8
      clear h8 Ey YF
      go_wp2
      have h9:=JE (t:=t) H8.out (AN (DU _ _ _) (AN (DU _ _ _) (AN (DU _ _ _) BW))) rfl
      generalize(((((w8.setCell ⟨s0,0,none⟩ (.int .i64 t.a)).setCell ⟨s0,1,none⟩ (.int .i64 t.b)).setCell ⟨s0,2,none⟩ (.int .i64 t.c)).setCell ⟨s0,3,none⟩ (.int .i64 t.d)).setCell ⟨s0,4,none⟩ (.int .i64 t.e))=w9 at*
      obtain⟨⟨q0,q1,q2,q3,q4⟩,H9⟩:=h9
      exact bodyPost_ret (v:=.tuple #[JM t,.bool true,.int .i64 0]) (by simp[results,Tryz.results165,go_sem,q0,q1,q2,q3,q4,JM]) rfl (.inl ⟨rfl,.inl ⟨⟨na,nb,nc,nd,ne⟩,h',Fb,IP.out,AB3.out,lK.out,Vi.out,by rw[←HOS.out,←pI.out];exact H9.out⟩⟩)
    · have h6:=h5.below ((Below.refl _ _).alloc (Nat.le_refl _) (.cells #[.int .i64 0,.int .i64 0,.int .i64 0,.int .i64 0,.int .i64 0] 63))
      have PK:Calls Tryz.prog 169 #[.iface 184 (.pointer (some ⟨sx,0,none⟩))] (w5.alloc (.cells #[.int .i64 0,.int .i64 0,.int .i64 0,.int .i64 0,.int .i64 0] 63)) fun e w'=>e=.returned (.iface 202 (.agg #[.int .i64 (p0:Nat),.pointer (some ⟨x0,0,none⟩)]))∧∃h' Fb,Hp (Mc o fun p=>cur.getD p AD) (fun i=>h'.getD i (0,0)) h'.length∧((p0,x0)::h').Perm hp∧
          Wd X (os.set iz (JW X sx k g M o Fb h')++[AI s0 63 (Ai AD),AI s1 202 (Hq (p0,x0)),AI s3 63 (Ai t)]) m w':=by
        have hC:=LV (X:=X) (m:=m) (o:=o) (sx:=sx) (Ag (b:=[AI s0 63 (Ai AD),AI s1 202 (Hq (p0,x0)),AI s3 63 (Ai t)]) hg) (fun e=>hd.1 e.symm) (Ik (Ag hs)) hk hM hf
        refine(bQ (h:=hp) (enc:=lq) hC (Kj _ _) ⟨Bm,by omega,.slice (some ⟨gl,0,none⟩) n c,by rw[EV (Ag hs)];exact h6⟩ (by omega) (by omega) (by rw[wH];exact hh) fun h W hr hne=>fR (Ik (Ag hs)) h W hr hne).mono ?_
        rintro e w' ⟨h1,h',h2,h3,h4,_,_,Fb,h5⟩
        rw[h0]at h1 h4
        rw[Dz hs]at h5
        exact⟨h1,h',Fb,by rw[h3];exact h2,h4,h5⟩
      have jD:=Lib.hid PK
      have xx:=Nb (p0,x0)
      have hfd:=Zz (p0,x0)
      dsimp only at xx hfd
      have HPE:=Lib.hid p7
      clear PK h5 h6 wW H4 p7 e1
      go_wp2_with fail
      refine jD.out.mono ?_
      rintro e w7 ⟨rfl,h',Fb,k1,k2,h7⟩
      have hCL:Calls Tryz.prog 51 #[.pointer (some ⟨x0,0,none⟩)] w7 fun e w'=>e=.returned (.tuple #[])∧Wd X ((os.set ip (Ot X.p x0 rt)).set iz (JW X sx k g M o Fb h')++[AI s0 63 (Ai AD),AI s1 202 (Hq (p0,x0)),AI s3 63 (Ai t)]) m w':=by
        have Bp:(os.set iz (JW X sx k g M o Fb h'))[ip]?=some (DZ X.p x0 rt X.sz l):=CH hr fun e=>hd.2.2 e.symm
        refine(PX h7 (Ag Bp)).mono ?_
        rintro e w' ⟨h1,h2⟩
        rw[Dz Bp,List.set_comm _ _ (fun e=>hd.2.2 e.symm)]at h2
        exact⟨h1,h2⟩
      have DJ:=Lib.hid hCL
      have lK:=Lib.hid k1
      have Vi:=Lib.hid k2
      clear hCL k1 k2 h7 jD
      go_wp2_with fail
      refine DJ.out.mono ?_
      rintro e w8 ⟨rfl,h8⟩
      clear DJ xx hfd
      have Ey:=h8.row (AM _ _ 0)
      have YF:=h8.row (AM _ _ 2)
      have y0:w8.cell? ⟨s0,0,none⟩=some (.int .i64 0):=Ey.cell 0
      have y1:w8.cell? ⟨s0,1,none⟩=some (.int .i64 0):=Ey.cell 1
      have y2:w8.cell? ⟨s0,2,none⟩=some (.int .i64 0):=Ey.cell 2
      have y3:w8.cell? ⟨s0,3,none⟩=some (.int .i64 0):=Ey.cell 3
      have y4:w8.cell? ⟨s0,4,none⟩=some (.int .i64 0):=Ey.cell 4
      have x0':w8.frozen? ⟨s0,0,none⟩=false:=Ey.free 0
      have x1':w8.frozen? ⟨s0,1,none⟩=false:=Ey.free 1
      have x2':w8.frozen? ⟨s0,2,none⟩=false:=Ey.free 2
      have x3':w8.frozen? ⟨s0,3,none⟩=false:=Ey.free 3
      have x4':w8.frozen? ⟨s0,4,none⟩=false:=Ey.free 4
      have v0:w8.cell? ⟨s3,0,none⟩=some (.int .i64 t.a):=YF.cell 0
      have v1:w8.cell? ⟨s3,1,none⟩=some (.int .i64 t.b):=YF.cell 1
      have v2:w8.cell? ⟨s3,2,none⟩=some (.int .i64 t.c):=YF.cell 2
      have v3:w8.cell? ⟨s3,3,none⟩=some (.int .i64 t.d):=YF.cell 3
      have v4:w8.cell? ⟨s3,4,none⟩=some (.int .i64 t.e):=YF.cell 4
      have H8:=Lib.hid h8
      clear h8 Ey YF
      go_wp2
      have h9:=JE (t:=t) H8.out (AN (DU _ _ _) (AN (DU _ _ _) BW)) rfl
      generalize(((((w8.setCell ⟨s0,0,none⟩ (.int .i64 t.a)).setCell ⟨s0,1,none⟩ (.int .i64 t.b)).setCell ⟨s0,2,none⟩ (.int .i64 t.c)).setCell ⟨s0,3,none⟩ (.int .i64 t.d)).setCell ⟨s0,4,none⟩ (.int .i64 t.e))=w9 at*
      obtain⟨⟨q0,q1,q2,q3,q4⟩,H9⟩:=h9
      exact bodyPost_ret (v:=.tuple #[JM t,.bool true,.int .i64 0]) (by simp[results,Tryz.results165,go_sem,q0,q1,q2,q3,q4,JM]) rfl (.inl ⟨rfl,.inr ⟨h',Fb,HPE.out,lK.out,Vi.out,H9.out⟩⟩)
    · have h6:=h5.below ((Below.refl _ _).alloc (Nat.le_refl _) (.cells #[.int .i64 0,.int .i64 0,.int .i64 0,.int .i64 0,.int .i64 0] 63))
      have Ez:=h6.row (AM _ _ 0)
      have H6:=Lib.hid h6
      have y0:(w5.alloc (.cells #[.int .i64 0,.int .i64 0,.int .i64 0,.int .i64 0,.int .i64 0] 63)).cell? ⟨s0,0,none⟩=some (.int .i64 0):=Ez.cell 0
      have y1:(w5.alloc (.cells #[.int .i64 0,.int .i64 0,.int .i64 0,.int .i64 0,.int .i64 0] 63)).cell? ⟨s0,1,none⟩=some (.int .i64 0):=Ez.cell 1
      have y2:(w5.alloc (.cells #[.int .i64 0,.int .i64 0,.int .i64 0,.int .i64 0,.int .i64 0] 63)).cell? ⟨s0,2,none⟩=some (.int .i64 0):=Ez.cell 2
      have y3:(w5.alloc (.cells #[.int .i64 0,.int .i64 0,.int .i64 0,.int .i64 0,.int .i64 0] 63)).cell? ⟨s0,3,none⟩=some (.int .i64 0):=Ez.cell 3
      have y4:(w5.alloc (.cells #[.int .i64 0,.int .i64 0,.int .i64 0,.int .i64 0,.int .i64 0] 63)).cell? ⟨s0,4,none⟩=some (.int .i64 0):=Ez.cell 4
      have x0':(w5.alloc (.cells #[.int .i64 0,.int .i64 0,.int .i64 0,.int .i64 0,.int .i64 0] 63)).frozen? ⟨s0,0,none⟩=false:=Ez.free 0
      have x1':(w5.alloc (.cells #[.int .i64 0,.int .i64 0,.int .i64 0,.int .i64 0,.int .i64 0] 63)).frozen? ⟨s0,1,none⟩=false:=Ez.free 1
      have x2':(w5.alloc (.cells #[.int .i64 0,.int .i64 0,.int .i64 0,.int .i64 0,.int .i64 0] 63)).frozen? ⟨s0,2,none⟩=false:=Ez.free 2
      have x3':(w5.alloc (.cells #[.int .i64 0,.int .i64 0,.int .i64 0,.int .i64 0,.int .i64 0] 63)).frozen? ⟨s0,3,none⟩=false:=Ez.free 3
      have x4':(w5.alloc (.cells #[.int .i64 0,.int .i64 0,.int .i64 0,.int .i64 0,.int .i64 0] 63)).frozen? ⟨s0,4,none⟩=false:=Ez.free 4
      have Vk:=Lib.hid Dn
      clear h5 wW H4 h6 Ez Dn
      go_upto_region 8 with(fail)
      generalize w5.alloc (.cells #[.int .i64 0,.int .i64 0,.int .i64 0,.int .i64 0,.int .i64 0] 63)=w6 at*
      go_wp2
      have h9:=JE (t:=⟨0,0,0,0,0⟩) H6.out (AN (DU _ _ _) (AN (DU _ _ _) BW)) rfl
      dsimp only at h9
      generalize(((((w6.setCell ⟨s0,0,none⟩ (.int .i64 0)).setCell ⟨s0,1,none⟩ (.int .i64 0)).setCell ⟨s0,2,none⟩ (.int .i64 0)).setCell ⟨s0,3,none⟩ (.int .i64 0)).setCell ⟨s0,4,none⟩ (.int .i64 0))=w9 at*
      obtain⟨⟨q0,q1,q2,q3,q4⟩,H9⟩:=h9
      exact bodyPost_ret (v:=.tuple #[.agg #[.int .i64 0,.int .i64 0,.int .i64 0,.int .i64 0,.int .i64 0],.bool false,.int .i64 6]) (by simp[results,Tryz.results165,go_sem,q0,q1,q2,q3,q4]) rfl (.inr ⟨rfl,Vk.out,H9.out⟩)
end
section
variable {W : World} {sx k g M n c : Nat} {o : AB} {A : Option Addr}
theorem UY{J:Nat→World→Prop}{hf:Nat→Nat×Nat}(fm:FrameMode)(hn:n≤1000000)
  (hrow:∀i W,J i W→Row W sx 187 (Gg k g M M o (.slice A n c)))
  (Bk:∀i W,J i W→i<n→∃gl,A=some ⟨gl,0,none⟩∧W.cell? ⟨gl,i*2,none⟩=some (.int .i64 ((hf i).1:Nat))∧W.cell? ⟨gl,i*2+1,none⟩=some (.pointer (some ⟨(hf i).2,0,none⟩)))
  (D9:∀i W,i<n→J i W→Calls Tryz.prog 51 #[.pointer (some ⟨(hf i).2,0,none⟩)] W fun e w'=>e=.returned (.tuple #[])∧J (i+1) w')
  (hb:∀i W W',J i W→Below W.heap.size W W'→J i W') (h:J 0 W):
  CallsD Tryz.prog 114 #[.pointer (some ⟨sx,0,none⟩)] fm W fun e u' w'=>u'=fm∧(e=.returned (.tuple #[])∧J n w'):=by
 have c7:W.cell? ⟨sx,7,none⟩=some (.slice A n c):=(hrow 0 W h).cell 7
 have HJ:=Lib.hid h
 have HC:=Lib.hid Bk
 have DJ:=Lib.hid D9
 have HB:=Lib.hid hb
 clear h hrow Bk D9 hb
 go_enter_d Tryz.func114,Tryz.ntmps114
 go_wp2_with fail
 go_loopw [9] (fun iv wr=>∃i:Nat,i≤n∧iv=.int .i64 (i:Int)∧Hid (J i wr)) (fun iv _=>n-(intOf iv).toNat)
 case atStart=>exact⟨0,Nat.zero_le _,rfl,HJ.out⟩
 case round=>
  obtain⟨i,hi,rfl,HI⟩:=hrel
  clear HJ
  by_cases hlt:i<n
  ·obtain⟨gl,rfl,e1,e2⟩:=HC.out i wr HI.out hlt
   have i1:(0:Int)≤(i:Int):=by omega
   have i2:(i:Int)<(n:Int):=by omega
   have HX:=Lib.hid (DJ.out i _ hlt (HB.out i wr (wr.alloc (.cells #[.int .i64 ((hf i).1:Nat),.pointer (some ⟨(hf i).2,0,none⟩)] 202)) HI.out ((Below.refl _ _).alloc (Nat.le_refl _) _)))
   generalize(hf i).1=p at*
   generalize(hf i).2=x at*
   go_wp2_with fail
   refine HX.out.mono ?_
   rintro e w3 ⟨rfl,h3⟩
   have H3:=Lib.hid h3
   clear h3
   go_wp2
   go_roundw
   case rel=>exact⟨i+1,by omega,by go_num,H3.out⟩
   case measure=>simp[intOf];omega
  ·obtain rfl:i=n:=by omega
   go_wp2
   go_end0
   exact⟨rfl,HI.out⟩
end
structure Sr where
 x:Nat
 rt:Rt
 l:List AB
 op:Bool
def Y6(X:Cx)(r:Sr):AW:=if r.op then DZ X.p r.x r.rt X.sz r.l else Ot X.p r.x r.rt
def Dw(cur:List AB)(q:List Sr)(p:Nat):List AB:=match q[p]?with
 |some r=>if r.op then cur.getD p AD::r.l.drop r.rt.pos else []
 |none=>[]
def Ud(q:List Sr):Nat:=Ac (fun r:Sr=>AA r.rt.h r.rt.pos) q
def rdT(q:List Sr):Nat:=Ac (fun r:Sr=>AA r.rt.h r.rt.count) q
structure MP where
 X:Cx
 AP:List AW
 Z:List AB→List AW
 o:AB
 once:Bool
 k:Nat
 hh:Nat
 bd:Nat
 xw:Nat
 tT:Nat
 fP:Nat
 vT:Value
 n:Nat
 m:Nat
 s0:List AB
 bx:AW
 b:Nat
 g:Nat
 M:Nat
 sx:Nat
 rs:List (List AB)
def MP.os(P:MP)(z:List AW)(cur:List AB)(st:AW)(q:List Sr):List AW:=P.AP++z++(P.bx::CX P.b P.g P.M P.k cur::st::q.map (Y6 P.X))
def MP.st(P:MP)(lv:Value)(h:List (Nat×Nat)):AW:=JW P.X P.sx P.k P.g P.M P.o lv h
def MP.mm(P:MP)(q:List Sr)(s:List AB):Nat:=P.m+Ud q+Eh P.once P.o P.hh s
structure MP.Ok (P:MP):Prop where
 S:dI P.X P.o P.once P.k P.hh P.bd P.xw P.tT P.fP P.vT P.Z P.n
 kk:0<P.k∧P.k≤5
 M:P.rs.length*P.k≤P.M∧P.M≤1000000
 len:P.rs.length≤100000
 asc:∀l∈P.rs,Hl P.o l
 fit:∀l∈P.rs,Ds P.k l
 bx:P.bx.gr=none∧P.bx.ex.2=0
 bd:P.s0.length+P.rs.flatten.length≤P.bd
 n:P.X.N+P.m+Ac (fun l:List AB=>AA P.hh l.length) P.rs+P.bd+3≤1000000
structure MP.Rd (P:MP) (r:Sr):Prop where
 ok:iU r.rt P.X.sz r.l
 src:Src P.AP P.X.sz r.rt.first r.rt.k r.rt.h r.l
 k:r.rt.k=P.k
 h:r.rt.h=P.hh
 pos:0<r.rt.pos∧r.rt.pos≤r.rt.count
 shut:r.op=false→r.rt.pos=r.rt.count
structure MP.St (P:MP) (cur:List AB) (q:List Sr) (h:List (Nat×Nat)):Prop where
 cl:cur.length=q.length
 ql:q.map (·.l)=P.rs.take q.length
 fit:Ds P.k cur
 rd:∀r∈q,P.Rd r
 hp:Hp (Mc P.o fun p=>cur.getD p AD) (fun i=>h.getD i (0,0)) h.length
 nd:(h.map (·.1)).Nodup
 mem:∀a,a∈h↔∃r,q[a.1]?=some r∧r.op=true∧r.x=a.2
structure HQ (q:List Sr) (h:List (Nat×Nat)):Prop where
 len:h.length≤100000
 m1:∀a∈h,∃r,q[a.1]?=some r∧r.x=a.2
 m2:∀(p:Nat) (r:Sr),q[p]?=some r→r.op=true→(p,r.x)∈h
def MP.No(P:MP)(W:World):Prop:=¬P.X.cm∧∃z cur lv h q m',Ml P.X P.xw P.bd P.n P.Z z∧HQ q h∧Wd P.X (P.os z cur (P.st lv h) q) m' W
section
variable {P : MP} {cur : List AB} {q : List Sr} {h : List (Nat × Nat)} {z : List AW} {st : AW} {W : World} {lv : Value} {m : Nat}
theorem KU{X:Cx}{r:Sr}(h:r.op=true):Y6 X r=DZ X.p r.x r.rt X.sz r.l:=by unfold Y6;rw[if_pos h]
theorem JC{X:Cx}{r:Sr}(h:r.op=false):Y6 X r=Ot X.p r.x r.rt:=by unfold Y6;rw[h];rfl
theorem MP.dD:(P.os z cur st q)[P.AP.length+z.length+1]?=some (CX P.b P.g P.M P.k cur):=CA (j:=1) rfl
theorem MP.Qb:(P.os z cur st q)[P.AP.length+z.length+2]?=some st:=CA (j:=2) rfl
theorem MP.ku{p:Nat}{r:Sr}(hr:q[p]?=some r):(P.os z cur st q)[P.AP.length+z.length+(3+p)]?=some (Y6 P.X r):=by
 unfold MP.os
 rw[CA rfl,show 3+p=p+1+1+1 by omega,List.getElem?_cons_succ,List.getElem?_cons_succ,List.getElem?_cons_succ,List.getElem?_map,hr];rfl
theorem MP.Zu{c2:List AB}:(P.os z cur st q).set (P.AP.length+z.length+1) (CX P.b P.g P.M P.k c2)=P.os z c2 st q:=by
 unfold MP.os;rw[Cj rfl];rfl
theorem MP.UT{s2:AW}:(P.os z cur st q).set (P.AP.length+z.length+2) s2=P.os z cur s2 q:=by
 unfold MP.os;rw[Cj rfl];rfl
theorem MP.Q0{p:Nat}{r:Sr}:(P.os z cur st q).set (P.AP.length+z.length+(3+p)) (Y6 P.X r)=P.os z cur st (q.set p r):=by
 unfold MP.os
 rw[Cj rfl,show 3+p=p+1+1+1 by omega,List.set_cons_succ,List.set_cons_succ,List.set_cons_succ,List.map_set]
theorem DO{α:Type}{l:List α}{i:Nat}{a:α}(h:l[i]?=some a):i<l.length:=by
 rcases Nat.lt_or_ge i l.length with hl|hl
 ·exact hl
 ·rw[List.getElem?_eq_none hl]at h;cases h
theorem Pk{α:Type}{l:List α}{i:Nat}{a:α}(h:l[i]?=some a):l.set i a=l:=by
 refine List.ext_getElem? fun j=>?_
 rw[List.getElem?_set]
 by_cases Fq:i=j
 ·subst Fq;rw[if_pos rfl,if_pos (DO h),h]
 ·rw[if_neg Fq]
theorem Src.app{AP os1:List AW}{sz first k hh:Nat}{l:List AB}(hs:Src AP sz first k hh l):Src (AP++os1) sz first k hh l:=by
 obtain⟨j,f,h1,h2,h3⟩:=hs
 refine⟨j,f,?_,h2,h3⟩
 rw[List.getElem?_append_left (Ik h1)];exact h1
theorem MP.src{sz first k hh:Nat}{l:List AB}(hs:Src P.AP sz first k hh l):Src (P.os z cur st q) sz first k hh l:=hs.app.app
theorem Vw{α:Type}{f g:α→Nat}:∀(l:List α) (_:∀a∈l,f a≤g a),Ac f l≤Ac g l
 |[],_=>Nat.le_refl _
 |a::l,h=>by
  rw[Bf,Bf]
  exact Nat.add_le_add (h a List.mem_cons_self) (Vw l fun b hb=>h b (List.mem_cons_of_mem _ hb))
theorem fM{α:Type}{f g:α→Nat}(l:List α)(h:∀a∈l,f a=g a):Ac f l=Ac g l:=by
 unfold Ac;rw[List.map_congr_left h]
theorem NU{α β:Type}{f:α→Nat}{g:β→Nat}{e:α→β}:∀(l:List α) (_:∀a∈l,f a=g (e a)),Ac f l=Ac g (l.map e)
 |[],_=>rfl
 |a::l,h=>by
  rw[Bf,List.map_cons,Bf,h a List.mem_cons_self,NU l fun b hb=>h b (List.mem_cons_of_mem _ hb)]
def O9(q:List Sr):Nat:=Ac (fun r:Sr=>if r.op then 1+(r.rt.count-r.rt.pos)else 0) q
theorem RB(hq:∀r∈q,P.Rd r):Ud q≤rdT q:=Vw q fun r hr=>Aq (hq r hr).ok.ok.h.1 (hq r hr).pos.2
theorem Uc(hq:∀r∈q,P.Rd r):rdT q=Ac (fun l:List AB=>AA P.hh l.length) (q.map (·.l)):=NU q fun r hr=>by rw[(hq r hr).h,(hq r hr).ok.cnt]
theorem mem_set{α:Type}{l:List α}{i:Nat}{a b:α}(h:b∈l.set i a):b=a∨b∈l:=by
 rcases List.mem_or_eq_of_mem_set h with h|h
 ·exact .inr h
 ·exact .inl h
def Sr.step(r:Sr):Sr:={r with rt:={r.rt with pos:=r.rt.pos+1}}
def Sr.shut(r:Sr):Sr:={r with op:=false}
theorem MP.Rd.step{r:Sr}(h:P.Rd r)(hp:r.rt.pos<r.rt.count)(ho:r.op=true):P.Rd r.step:=
 ⟨⟨⟨h.ok.ok.k,h.ok.ok.h,h.ok.ok.sz,⟨h.ok.ok.count.1,hp⟩,h.ok.ok.first⟩,h.ok.cnt,h.ok.fit⟩,h.src,h.k,h.h,⟨Nat.succ_pos _,hp⟩,fun hf=>absurd (ho.symm.trans hf) (by decide)⟩
theorem MP.Rd.qy{r:Sr}(h:P.Rd r)(hp:r.rt.pos=r.rt.count):P.Rd r.shut:=⟨h.ok,h.src,h.k,h.h,h.pos,fun _=>hp⟩
theorem aE{p:Nat}{r:Sr}(hr:q[p]?=some r):Ud (q.set p r.step)+AA r.rt.h r.rt.pos=Ud q+AA r.rt.h (r.rt.pos+1):=FX _ _ _ r r.step hr
theorem aF{p:Nat}{r:Sr}(hr:q[p]?=some r):Ud (q.set p r.shut)=Ud q:=by
 have h1:Ud (q.set p r.shut)+AA r.rt.h r.rt.pos=Ud q+AA r.rt.h r.rt.pos:=FX (fun r:Sr=>AA r.rt.h r.rt.pos) q p r r.shut hr
 omega
theorem Xl{p:Nat}{r:Sr}(hr:q[p]?=some r)(ho:r.op=true)(hp:r.rt.pos<r.rt.count):O9 (q.set p r.step)+1=O9 q:=by
 have h1:=FX (fun r:Sr=>if r.op then 1+(r.rt.count-r.rt.pos)else 0) q p r r.step hr
 simp only[show r.step.op=true from ho,ho,if_pos]at h1
 have h2:r.step.rt.count=r.rt.count:=rfl
 have h3:r.step.rt.pos=r.rt.pos+1:=rfl
 unfold O9;omega
theorem Xm{p:Nat}{r:Sr}(hr:q[p]?=some r)(ho:r.op=true)(hp:r.rt.pos=r.rt.count):O9 (q.set p r.shut)+1=O9 q:=by
 have h1:=FX (fun r:Sr=>if r.op then 1+(r.rt.count-r.rt.pos)else 0) q p r r.shut hr
 simp only[show r.shut.op=false from rfl,ho,if_pos]at h1
 unfold O9
 simp only[Bool.false_eq_true,if_false]at h1
 omega
theorem MP.St.get(hs:P.St cur q h){a:Nat×Nat}(ha:a∈h):∃r,q[a.1]?=some r∧r.op=true∧r.x=a.2∧P.Rd r:=by
 obtain⟨r,h1,h2,h3⟩:=(hs.mem a).1 ha
 exact⟨r,h1,h2,h3,hs.rd r (List.mem_of_getElem? h1)⟩
theorem MP.St.lt(hs:P.St cur q h):∀a∈h,a.1<cur.length:=fun a ha=>by
 obtain⟨r,h1,_⟩:=hs.get ha
 rw[hs.cl];exact DO h1
theorem MP.St.more(hs:P.St cur q h){p0:Nat}{r0:Sr}{nx:AB}{h':List (Nat×Nat)}(hr:q[p0]?=some r0)(ho:r0.op=true)(hp:r0.rt.pos<r0.rt.count)(Lk:BX nx∧Af P.k nx=true)
  (hh:Hp (Mc P.o fun p=>(Da cur p0 nx).getD p AD) (fun i=>h'.getD i (0,0)) h'.length) (p6:h'.Perm h):P.St (Da cur p0 nx) (q.set p0 r0.step) h' where
 cl:=by
  have h1:p0<cur.length:=by rw[hs.cl];exact DO hr
  rw[Kc (by omega),List.length_set,←hs.cl];omega
 ql:=by
  rw[List.length_set,←hs.ql,List.map_set]
  exact Pk (by rw[List.getElem?_map,hr];rfl)
 fit:=Sc hs.fit Lk
 rd:=fun r h1=>(mem_set h1).elim (fun e=>by rw[e];exact(hs.rd r0 (List.mem_of_getElem? hr)).step hp ho) (hs.rd r)
 hp:=hh
 nd:=(p6.map (·.1)).nodup_iff.2 hs.nd
 mem:=fun a=>by
  rw[p6.mem_iff,hs.mem a]
  by_cases he:p0=a.1
  ·subst he
   rw[List.getElem?_set,if_pos rfl,if_pos (DO hr)]
   refine⟨fun⟨r,h1,h2,h3⟩=>⟨_,rfl,ho,?_⟩,fun⟨r,h1,h2,h3⟩=>⟨r0,hr,ho,?_⟩⟩
   ·rw[hr]at h1;injection h1 with h1;rw[←h3,←h1];rfl
   ·injection h1 with h1;rw[←h3,←h1];rfl
  ·rw[List.getElem?_set,if_neg he]
theorem MP.St.less(hs:P.St cur q h){p0:Nat}{r0:Sr}{h':List (Nat×Nat)}(hr:q[p0]?=some r0)(hp:r0.rt.pos=r0.rt.count)
  (hh:Hp (Mc P.o fun p=>cur.getD p AD) (fun i=>h'.getD i (0,0)) h'.length) (p6:((p0,r0.x)::h').Perm h):P.St cur (q.set p0 r0.shut) h' where
 cl:=by rw[List.length_set];exact hs.cl
 ql:=by
  rw[List.length_set,←hs.ql,List.map_set]
  exact Pk (by rw[List.getElem?_map,hr];rfl)
 fit:=hs.fit
 rd:=fun r h1=>(mem_set h1).elim (fun e=>by rw[e];exact(hs.rd r0 (List.mem_of_getElem? hr)).qy hp) (hs.rd r)
 hp:=hh
 nd:=by
  have h1:=(p6.map (·.1)).nodup_iff.2 hs.nd
  rw[List.map_cons,List.nodup_cons]at h1
  exact h1.2
 mem:=fun a=>by
  have h1:=(p6.map (·.1)).nodup_iff.2 hs.nd
  rw[List.map_cons,List.nodup_cons]at h1
  have h2:=hs.mem a
  rw[←p6.mem_iff,List.mem_cons]at h2
  by_cases he:p0=a.1
  ·subst he
   rw[List.getElem?_set,if_pos rfl,if_pos (DO hr)]
   refine⟨fun ha=>absurd (List.mem_map.2 ⟨a,ha,rfl⟩) h1.1,fun⟨r,h3,h4,_⟩=>?_⟩
   injection h3 with h3
   rw[←h3]at h4;cases h4
  ·rw[List.getElem?_set,if_neg he]
   refine⟨fun ha=>h2.1 (.inr ha),fun ha=>(h2.2 ha).elim (fun e=>absurd (by rw[e]) he) id⟩
theorem gE(o:AB)(cur:Nat→AB)(a:Nat×Nat):Mc o cur a a=false:=by
 cases h:Mc o cur a a with
 |false=>rfl
 |true=>have:=(Kj o cur).asym a a h;rw[h]at this;cases this
theorem MP.St.least(hs:P.St cur q h){a:Nat×Nat}(ha:a∈h):Mc P.o (fun p=>cur.getD p AD) a (h.getD 0 (0,0))=false:=by
 obtain⟨j,hj,rfl⟩:=List.getElem_of_mem ha
 have h1:=hs.hp.least (Kj _ _) (gE _ _) j hj
 have e:h.getD j (0,0)=h[j]:=by rw[List.getD_eq_getElem?_getD,List.getElem?_eq_getElem hj];rfl
 rw[←e];exact h1
theorem MP.St.told(hs:P.St cur q h){out:List AB}{N:Nat}(hN:N=q.length){p0 x0:Nat}{r0:Sr}(h0:h.getD 0 (0,0)=(p0,x0))(hr:q[p0]?=some r0)(ho:r0.op=true)
  (hm:T5 P.o N (Dw cur q) P.rs.flatten out) {live':Nat→List AB} (Jy:live' p0=r0.l.drop r0.rt.pos) (RQ:∀p,p≠p0→live' p=Dw cur q p):T5 P.o N live' P.rs.flatten (out++[cur.getD p0 AD]):=by
 refine hm.step (by rw[hN];exact DO hr) (r:=r0.l.drop r0.rt.pos) (by unfold Dw;rw[hr];show (if r0.op then _ else _)= _;rw[if_pos ho]) (fun p u us hp hl=>?_) Jy RQ
 unfold Dw at hl
 cases hq:q[p]?with
 |none=>rw[hq]at hl;cases hl
 |some r=>
  rw[hq]at hl
  have hl:(if r.op then cur.getD p AD::r.l.drop r.rt.pos else [])=u::us:=hl
  cases hro:r.op with
  |false=>rw[hro]at hl;cases hl
  |true=>
   rw[hro,if_pos rfl]at hl
   injection hl with hl _
   have h1:=hs.least ((hs.mem (p,r.x)).2 ⟨r,hq,hro,rfl⟩)
   rw[h0]at h1
   unfold Mc at h1
   simp only[Bool.or_eq_false_iff,Bool.and_eq_false_iff,decide_eq_false_iff_not]at h1
   have h2:=Ah P.o (cur.getD p0 AD) (cur.getD p AD)
   rw[←hl]
   omega
def MP.J(P:MP)(n:Nat)(W:World):Prop:=∃cur q h lv out,P.St cur q h∧q.length=P.rs.length∧T5 P.o P.rs.length (Dw cur q) P.rs.flatten out∧O9 q=n∧Wd P.X (P.os (P.Z (P.s0++out)) cur (P.st lv h) q) (P.mm q (P.s0++out)) W
def MP.Jm(P:MP)(t:AB)(n:Nat)(W:World):Prop:=∃cur q h lv out,P.St cur q h∧q.length=P.rs.length∧T5 P.o P.rs.length (Dw cur q) P.rs.flatten (out++[t])∧O9 q=n∧Af P.k t=true∧(out++[t]).length≤P.rs.flatten.length∧Wd P.X (P.os (P.Z (P.s0++out)) cur (P.st lv h) q) (P.mm q (P.s0++out)) W
def MP.E(P:MP)(W:World):Prop:=∃cur q lv out,P.St cur q []∧q.length=P.rs.length∧T5 P.o P.rs.length (Dw cur q) P.rs.flatten out∧Wd P.X (P.os (P.Z (P.s0++out)) cur (P.st lv []) q) (P.mm q (P.s0++out)) W
theorem T5.len{o:AB}{N:Nat}{live:Nat→List AB}{Y8 out:List AB}(h:T5 o N live Y8 out):out.length≤Y8.length:=by
 have h1:Cl o (out++(List.range N).flatMap live) Y8:=fun c=>by
  rw[List.filter_append,←h.cl c]
  unfold Ss
  rw[List.filter_flatMap]
 have h2:=h1.len
 rw[List.length_append]at h2;omega
theorem MP.St.RB(hs:P.St cur q h)(Ov:q.length=P.rs.length):Ud q≤Ac (fun l:List AB=>AA P.hh l.length) P.rs:=by
 have h1:=hs.ql
 rw[Ov,List.take_length]at h1
 rw[←h1,←Uc hs.rd]
 exact Go.Proofs.YteldegofbbfaeaaGreat.RB hs.rd
theorem MP.ju(hP:P.Ok)(hs:P.St cur q h)(Ov:q.length=P.rs.length){out:List AB}(ho:out.length≤P.rs.flatten.length):P.X.N+P.mm q (P.s0++out)+3≤1000000:=by
 have h1:=hs.RB Ov
 have h2:=Jk P.once P.o P.hh (P.s0++out)
 have h3:=hP.n
 have h4:=hP.bd
 rw[List.length_append]at h2
 unfold MP.mm;omega
theorem MP.St.hlen(hs:P.St cur q h):h.length≤q.length:=by
 have h1:(h.map (·.1)).length≤(List.range q.length).length:=hs.nd.length_le_of_subset fun p hp=>by
  obtain⟨a,ha,rfl⟩:=List.mem_map.1 hp
  obtain⟨r,h1,_⟩:=hs.get ha
  exact List.mem_range.2 (DO h1)
 rwa [List.length_map,List.length_range]at h1
theorem MP.St.mK(hs:P.St cur q h):q.length≤P.rs.length:=by
 have h1:=congrArg List.length hs.ql
 rw[List.length_map,List.length_take]at h1;omega
theorem MP.St.hq(hP:P.Ok)(hs:P.St cur q h):HQ q h:=⟨by have:=hs.hlen;have:=hs.mK;have:=hP.len;omega,fun a ha=>by
 obtain⟨r,h1,_,h3,_⟩:=hs.get ha
 exact⟨r,h1,h3⟩,fun p r hr ho=>(hs.mem (p,r.x)).2 ⟨r,hr,ho,rfl⟩⟩
theorem MP.St.bN(hP:P.Ok)(hs:P.St cur q h){p0:Nat}{r0:Sr}(hr:q[p0]?=some r0):HQ (q.set p0 r0.shut) h:=⟨by have:=hs.hlen;have:=hs.mK;have:=hP.len;omega,fun a ha=>by
 obtain⟨r,h1,_,h3,_⟩:=hs.get ha
 by_cases he:p0=a.1
 ·subst he
  refine⟨r0.shut,by rw[List.getElem?_set,if_pos rfl,if_pos (DO hr)],?_⟩
  rw[hr]at h1;injection h1 with h1;rw[←h3,←h1];rfl
 ·exact⟨r,by rw[List.getElem?_set,if_neg he];exact h1,h3⟩,fun p r hq ho=>by
 rw[List.getElem?_set]at hq
 split at hq
 ·split at hq
  ·injection hq with hq;rw[←hq]at ho;cases ho
  ·cases hq
 ·exact(hs.mem (p,r.x)).2 ⟨r,hq,ho,rfl⟩⟩
theorem MP.next(hP:P.Ok):lB 165 (.pointer (some ⟨P.sx,0,none⟩)) P.J P.Jm P.E P.No:=by
 rintro n W ⟨cur,q,h,lv,out,hs,Ov,hm,nA,hw⟩
 have hz:=hP.S.len (P.s0++out)
 have hlo:=hm.len
 have Pw:(P.s0++out).length≤P.bd:=by rw[List.length_append];have:=hP.bd;omega
 rcases Nat.eq_zero_or_pos h.length with hl|hl
 ·have hl:=List.length_eq_zero_iff.1 hl
  subst hl
  refine(UQ hw MP.Qb).mono ?_
  rintro e w' ⟨he,h1⟩
  exact .inr (.inl ⟨he,cur,q,lv,out,hs,Ov,hm,h1⟩)
 ·obtain⟨p0,x0,h0⟩:∃p0 x0,h.getD 0 (0,0)=(p0,x0):=⟨_,_,rfl⟩
  have hmem:=(Bx hl).2
  rw[h0]at hmem
  obtain⟨r0,hr,ho,hx,hrd⟩:=hs.get hmem
  have hx:r0.x=x0:=hx
  subst hx
  have hr:q[p0]?=some r0:=hr
  have gf:=DO hr
  have Bp:=MP.ku (P:=P) (z:=P.Z (P.s0++out)) (cur:=cur) (st:=P.st lv h) hr
  rw[KU ho]at Bp
  have hM:cur.length*P.k≤P.M∧P.M≤1000000:=⟨by rw[hs.cl,Ov];exact hP.M.1,hP.M.2⟩
  have hmm:=MP.ju hP hs Ov hlo
  have nT:h.length≤100000:=by have:=hs.hlen;have:=hs.mK;have:=hP.len;omega
  have B4:Src (P.os (P.Z (P.s0++out)) cur (P.st lv h) q) P.X.sz r0.rt.first r0.rt.k r0.rt.h r0.l:=MP.src hrd.src
  have rR:=hs.fit _ (JJ (i:=p0) (by rw[hs.cl];exact gf))
  refine(Xa hw MP.dD MP.Qb Bp ⟨by omega,by omega,by omega⟩ ⟨hl,nT⟩ h0 hP.kk hM hs.fit hs.lt hs.nd hs.hp hrd.ok (by omega) B4 hrd.k rfl).mono ?_
  rintro e w' (⟨he,(⟨nx,h',Fb,Bm,Lk,h1,h2,h3⟩|⟨h',Fb,p7,h1,h2,h3⟩)⟩|⟨he,Dn,h3⟩)
  ·have hnf:=hrd.ok.fit nx (List.mem_of_getElem? Lk)
   rw[hrd.k]at hnf
   have hs':=hs.more hr ho Bm hnf h1 h2
   have h4:Wd P.X (P.os (P.Z (P.s0++out)) (Da cur p0 nx) (P.st Fb h') (q.set p0 r0.step)) (P.mm q (P.s0++out)+(AA r0.rt.h (r0.rt.pos+1)-AA r0.rt.h r0.rt.pos)) w':=by
    rw[←MP.UT (P:=P) (st:=P.st lv h),←MP.Zu (P:=P) (cur:=cur),←MP.Q0,KU (X:=P.X) (r:=r0.step) ho];exact h3
   have h5:P.mm (q.set p0 r0.step) (P.s0++out)=P.mm q (P.s0++out)+(AA r0.rt.h (r0.rt.pos+1)-AA r0.rt.h r0.rt.pos):=by
    have h6:=aE hr
    have h7:=Aq (h:=r0.rt.h) (c:=r0.rt.pos) (c':=r0.rt.pos+1) hrd.ok.ok.h.1 (by omega)
    unfold MP.mm;omega
   have hm':=hs.told (N:=P.rs.length) Ov.symm h0 hr ho hm (live':=Dw (Da cur p0 nx) (q.set p0 r0.step)) (by
    unfold Dw;rw[List.getElem?_set,if_pos rfl,if_pos gf]
    show (if r0.step.op then (Da cur p0 nx).getD p0 AD::r0.l.drop (r0.rt.pos+1)else [])= _
    have My:r0.rt.pos<r0.l.length:=by rw[hrd.ok.cnt];exact Bm
    rw[show r0.step.op=true from ho,if_pos rfl,Ke (by rw[hs.cl];omega),if_pos rfl,List.drop_eq_getElem_cons My]
    rw[List.getElem?_eq_getElem My]at Lk
    injection Lk with Lk
    rw[Lk]) (fun p hp=>by
    unfold Dw;rw[List.getElem?_set,if_neg (fun e=>hp e.symm),Ke (by rw[hs.cl];omega),if_neg hp])
   refine .inl ⟨_,O9 (q.set p0 r0.step),he,?_,_,_,h',Fb,out,hs',by rw[List.length_set];exact Ov,hm',rfl,rR.2,hm'.len,by rw[h5];exact h4⟩
   have:=Xl hr ho Bm;omega
  ·have hs':=hs.less hr p7 h1 h2
   have h4:Wd P.X (P.os (P.Z (P.s0++out)) cur (P.st Fb h') (q.set p0 r0.shut)) (P.mm q (P.s0++out)) w':=by
    rw[←MP.UT (P:=P) (st:=P.st lv h),←MP.Q0,JC (X:=P.X) (r:=r0.shut) rfl];exact h3
   have h5:P.mm (q.set p0 r0.shut) (P.s0++out)=P.mm q (P.s0++out):=by unfold MP.mm;rw[aF hr]
   have hm':=hs.told (N:=P.rs.length) Ov.symm h0 hr ho hm (live':=Dw cur (q.set p0 r0.shut)) (by
    unfold Dw;rw[List.getElem?_set,if_pos rfl,if_pos gf]
    have YN:r0.l.drop r0.rt.pos=[]:=List.drop_eq_nil_of_le (by rw[hrd.ok.cnt,p7];exact Nat.le_refl _)
    rw[YN];rfl) (fun p hp=>by
    unfold Dw;rw[List.getElem?_set,if_neg (fun e=>hp e.symm)])
   refine .inl ⟨_,O9 (q.set p0 r0.shut),he,?_,cur,q.set p0 r0.shut,h',Fb,out,hs',by rw[List.length_set];exact Ov,hm',rfl,rR.2,hm'.len,by rw[h5];exact h4⟩
   have:=Xm hr ho p7;omega
  ·refine .inr (.inr ⟨he,Dn,P.Z (P.s0++out),cur,lv,h,q.set p0 r0.shut,P.mm q (P.s0++out)+1,.inl ⟨_,Pw,rfl⟩,hs.bN hP hr,?_⟩)
   rw[←MP.Q0,JC (X:=P.X) (r:=r0.shut) rfl];exact h3
theorem MP.put(hP:P.Ok):uC P.fP P.vT P.J P.Jm P.No:=by
 rintro t n W ⟨cur,q,h,lv,out,hs,Ov,hm,nA,si,hlo,hw⟩
 have nJ:out.length≤P.rs.flatten.length:=by rw[List.length_append]at hlo;omega
 have hmm:=MP.ju hP hs Ov nJ
 refine(hP.S.put P.AP _ _ (P.s0++out) t W hw si (by rw[List.length_append]at hlo⊢;have:=hP.bd;simp only[List.length_cons,List.length_nil]at hlo;omega) (by omega)).mono ?_
 rintro e w' (⟨he,h1⟩|⟨he,Dn,z,m',hz,h1⟩)
 ·refine .inl ⟨he,cur,q,h,lv,out++[t],hs,Ov,hm,nA,?_⟩
  have h2:P.mm q (P.s0++out)+((BG P.once P.o (P.s0++out++[t])).length/P.hh-(BG P.once P.o (P.s0++out)).length/P.hh)=P.mm q (P.s0++(out++[t])):=by
   unfold MP.mm;rw[R8,List.append_assoc]
  rw[h2,List.append_assoc P.s0 out [t]]at h1
  exact h1
 ·exact .inr ⟨he,Dn,z,cur,lv,h,q,m',.inr hz,hs.hq hP,h1⟩
theorem XV(x:Nat)(w:World):Sem.run Tryz.prog (method 335 184 (.pointer (some ⟨x,0,none⟩)) "Next") w=.ok (165,.pointer (some ⟨x,0,none⟩)) w:=by kernel_rfl
theorem MP.Jm.below{t:AB}{n:Nat}{W':World}(h:P.Jm t n W)(hb:Below W.heap.size W W'):P.Jm t n W':=by
 obtain⟨cur,q,h,lv,out,h1,h2,h3,h4,h5,h6,h7⟩:=h
 exact⟨cur,q,h,lv,out,h1,h2,h3,h4,h5,h6,h7.below hb⟩
theorem MP.E.below{W':World}(h:P.E W)(hb:Below W.heap.size W W'):P.E W':=by
 obtain⟨cur,q,lv,out,h1,h2,h3,h4⟩:=h
 exact⟨cur,q,lv,out,h1,h2,h3,h4.below hb⟩
theorem MP.No.below{W':World}(h:P.No W)(hb:Below W.heap.size W W'):P.No W':=by
 obtain⟨hc,z,cur,lv,h,q,m',h1,h2,h3⟩:=h
 exact⟨hc,z,cur,lv,h,q,m',h1,h2,h3.below hb⟩
theorem MP.J.mO{n:Nat}(hP:P.Ok)(h:P.J n W):Calls Tryz.prog 71 #[.iface 184 (.pointer (some ⟨P.sx,0,none⟩)),.iface P.tT P.vT] W fun e w'=>(e=.returned (.int .i64 0)∧P.E w')∨(e=.returned (.int .i64 6)∧P.No w'):=
 Se (XV P.sx) hP.S.mm (fun args w=>by kernel_rfl) hP.S.me (MP.next hP) (MP.put hP) (fun _ _ _ _ h hb=>h.below hb) (fun _ _ h hb=>h.below hb) (fun _ _ h hb=>h.below hb) h
def MP.Fin(P:MP)(er:Int)(z:List AW)(m':Nat):Prop:=(er=0∧∃out,z=P.Z (P.s0++out)∧Hl P.o out∧Cl P.o P.rs.flatten out∧m'=P.m+Ac (fun l:List AB=>AA P.hh l.length) P.rs+Eh P.once P.o P.hh (P.s0++out))∨(er=6∧¬P.X.cm∧Ml P.X P.xw P.bd P.n P.Z z)
def MP.G0(P:MP)(er:Int)(W:World):Prop:=∃z cur lv h q m',P.Fin er z m'∧HQ q h∧Wd P.X (P.os z cur (P.st lv h) q) m' W
def MP.G1(P:MP)(er:Int)(W:World):Prop:=∃z cur lv h q m',P.Fin er z m'∧(∀r∈q,r.op=false)∧Wd P.X (P.os z cur (P.st lv h) q) m' W
def MP.G2(P:MP)(er:Int)(W:World):Prop:=∃z m',P.Fin er z m'∧Wd P.X (P.AP++z) m' W
theorem MP.G0.below{er:Int}{W':World}(h:P.G0 er W)(hb:Below W.heap.size W W'):P.G0 er W':=by
 obtain⟨z,cur,lv,h,q,m',h1,h2,h3⟩:=h
 exact⟨z,cur,lv,h,q,m',h1,h2,h3.below hb⟩
theorem MP.No.fin(h:P.No W):P.G0 6 W:=by
 obtain⟨hc,z,cur,lv,h,q,m',h1,h2,h3⟩:=h
 exact⟨z,cur,lv,h,q,m',.inr ⟨rfl,hc,h1⟩,h2,h3⟩
theorem X6(hs:P.St cur q [])(p:Nat):Dw cur q p=[]:=by
 unfold Dw
 cases hq:q[p]?with
 |none=>rfl
 |some r=>
  cases ho:r.op with
  |false=>simp[ho]
  |true=>exact absurd ((hs.mem (p,r.x)).2 ⟨r,hq,ho,rfl⟩) (by simp)
theorem MP.E.fin(hP:P.Ok)(h:P.E W):P.G0 0 W:=by
 obtain⟨cur,q,lv,out,hs,Ov,hm,hw⟩:=h
 obtain⟨h1,h2⟩:=hm.done fun p _=>X6 hs p
 have h3:Ud q=Ac (fun l:List AB=>AA P.hh l.length) P.rs:=by
  have h4:=hs.ql
  rw[Ov,List.take_length]at h4
  rw[←h4,←Uc hs.rd]
  refine fM q fun r hr=>?_
  obtain⟨p,hp,rfl⟩:=List.getElem_of_mem hr
  cases ho:q[p].op with
  |false=>rw[(hs.rd _ hr).shut ho]
  |true=>exact absurd ((hs.mem (p,q[p].x)).2 ⟨q[p],List.getElem?_eq_getElem hp,ho,rfl⟩) (by simp)
 exact⟨_,cur,lv,[],q,_,.inl ⟨rfl,out,rfl,h2,h1,by unfold MP.mm;rw[h3]⟩,hs.hq hP,hw⟩
theorem QU{h:List (Nat×Nat)}{i:Nat}{a b:Nat×Nat}(ha:h[i]?=some a)(hb:b∈h.drop i):b=a∨b∈h.drop (i+1):=by
 rw[List.drop_eq_getElem_cons (DO ha)]at hb
 rw[List.getElem?_eq_getElem (DO ha)]at ha
 injection ha with ha
 rcases List.mem_cons.1 hb with hb|hb
 ·exact .inl (hb.trans ha)
 ·exact .inr hb
theorem MP.G0.close{er:Int}(u:FrameMode)(h:P.G0 er W):CallsD Tryz.prog 114 #[.pointer (some ⟨P.sx,0,none⟩)] u W fun e u' w'=>u'=u∧(e=.returned (.tuple #[])∧P.G1 er w'):=by
 obtain⟨z,cur,lv,h,q,m',hf,hq,hw⟩:=h
 obtain⟨A,c,rfl⟩:=JF (hw.at_ MP.Qb).2
 refine(UY (n:=h.length) (c:=c) (A:=A) (o:=P.o) (k:=P.k) (g:=P.g) (M:=P.M) (hf:=fun i=>h.getD i (0,0)) u (by have:=hq.len;omega)
  (J:=fun i w=>∃q',(∀a∈h,∃r,q'[a.1]?=some r∧r.x=a.2)∧(∀(p:Nat) (r:Sr),q'[p]?=some r→r.op=true→(p,r.x)∈h.drop i)∧Wd P.X (P.os z cur (P.st (.slice A h.length c) h) q') m' w) ?_ ?_ ?_ ?_ ⟨q,hq.m1,fun p r h1 h2=>by rw[List.drop_zero];exact hq.m2 p r h1 h2,hw⟩).mono ?_
 ·rintro i w ⟨q',_,_,h3⟩
  exact(h3.at_ MP.Qb).1
 ·rintro i w ⟨q',_,_,h3⟩ hi
  have h4:=(h3.at_ MP.Qb).2
  obtain⟨gl,c2,cs,e1,_,k1,_,_,_,k2⟩:=FT h4 (by omega)
  injection e1 with e1 _ _
  obtain⟨m1,_⟩:=Bx hi
  obtain⟨m2,m3⟩:=Cz m1
  refine⟨gl,e1,?_,?_⟩
  ·rw[k1.cell,←m2,←k2,List.getElem?_take,if_pos (by omega)]
  ·rw[k1.cell,←m3,←k2,List.getElem?_take,if_pos (by omega)]
 ·rintro i w hi ⟨q',h1,h2,h3⟩
  obtain⟨m1,m2⟩:=Bx hi
  obtain⟨r,hr,hx⟩:=h1 _ m2
  have Bp:=MP.ku (P:=P) (z:=z) (cur:=cur) (st:=P.st (.slice A h.length c) h) hr
  cases ho:r.op with
  |true=>
   rw[KU ho]at Bp
   have h4:=PX h3 Bp
   rw[hx]at h4
   refine h4.mono ?_
   rintro e w' ⟨he,h5⟩
   refine⟨he,q'.set (h.getD i (0,0)).1 r.shut,fun a ha=>?_,fun p r2 hp WM=>?_,?_⟩
   ·obtain⟨r3,k1,k2⟩:=h1 a ha
    by_cases he:(h.getD i (0,0)).1=a.1
    ·refine⟨r.shut,by rw[←he,List.getElem?_set,if_pos rfl,if_pos (DO hr)],?_⟩
     rw[←he,hr]at k1
     injection k1 with k1
     rw[←k2,←k1];rfl
    ·exact⟨r3,by rw[List.getElem?_set,if_neg he];exact k1,k2⟩
   ·rw[List.getElem?_set]at hp
    split at hp
    ·split at hp
     ·injection hp with hp;rw[←hp]at WM;cases WM
     ·cases hp
    ·rename_i hne
     exact(QU m1 (h2 p r2 hp WM)).elim (fun e=>absurd (by rw[←e]) hne) id
   ·rw[←MP.Q0,JC (X:=P.X) (r:=r.shut) rfl]
    rw[←hx]at h5;exact h5
  |false=>
   rw[JC ho]at Bp
   have h4:=Mb (h3.at_ Bp)
   rw[hx]at h4
   refine h4.mono ?_
   rintro e w' ⟨he,h5⟩
   refine⟨he,q',h1,fun p r2 hp WM=>(QU m1 (h2 p r2 hp WM)).elim (fun e=>?_) id,by rw[h5];exact h3⟩
   have e1:(h.getD i (0,0)).1=p:=by rw[←e]
   rw[e1,hp]at hr
   injection hr with hr
   rw[hr]at WM;rw[ho]at WM;cases WM
 ·rintro i w w' ⟨q',h1,h2,h3⟩ hb
  exact⟨q',h1,h2,h3.below hb⟩
 ·rintro e u' w' ⟨hu,he,q',h1,h2,h3⟩
  refine⟨hu,he,z,cur,_,h,q',m',hf,fun r hr=>?_,h3⟩
  obtain⟨p,hp,rfl⟩:=List.getElem_of_mem hr
  cases ho:q'[p].op with
  |false=>rfl
  |true=>
   have h4:=h2 p _ (List.getElem?_eq_getElem hp) ho
   rw[List.drop_length]at h4;cases h4
theorem MP.Fin.len(hP:P.Ok){er:Int}{m':Nat}(h:P.Fin er z m'):z.length=P.n:=by
 rcases h with⟨_,out,rfl,_⟩|⟨_,_,(⟨s,_,rfl⟩|⟨t,r,rfl,hl,_⟩)⟩
 ·exact hP.S.len _
 ·exact hP.S.len _
 ·exact hl
theorem MP.G1.release(hP:P.Ok){er:Int}(u:FrameMode)(h:P.G1 er W):CallsD Tryz.prog 80 #[.pointer (some ⟨P.X.p.a,0,none⟩),.pointer (some ⟨P.b,0,none⟩)] u W fun e u' w'=>u'=u∧(e=.returned (.bool true)∧P.G2 er w'):=by
 obtain⟨z,cur,lv,h,q,m',hf,hq,hw⟩:=h
 refine(Ia u hw MP.dD (b:=P.b) (g:=P.g) (M:=P.M) (fun k=>Iff.rfl) rfl rfl).mono ?_
 rintro e u' w' ⟨hu,he,h1⟩
 refine⟨hu,he,z,m',hf,?_⟩
 have h2:(P.os z cur (P.st lv h) q).set (P.AP.length+z.length+1) Bi=P.AP++z++(P.bx::Bi::P.st lv h::q.map (Y6 P.X)):=by
  unfold MP.os;rw[Cj rfl];rfl
 rw[h2]at h1
 refine h1.forget (AN hP.bx (AN ⟨rfl,rfl⟩ (AN ⟨rfl,rfl⟩ fun a ha=>?_)))
 obtain⟨r,hr,rfl⟩:=List.mem_map.1 ha
 rw[JC (hq r hr)]
 exact⟨rfl,rfl⟩
end
section
variable {X : Cx} {os : List AW} {m iz ig : Nat} {W W' : World} {sx k b g M first nb hh count : Nat} {o t : AB} {lv : Value} {hp : List (Nat × Nat)} {cur l : List AB}
theorem YV(Bm:∀a∈hp,a.1<cur.length)(hH:Hp (Mc o fun p=>cur.getD p AD) (fun i=>hp.getD i (0,0)) hp.length):Hp (Mc o fun p=>(cur++[t]).getD p AD) (fun i=>hp.getD i (0,0)) hp.length:=fun j PG hj=>by
 have h1:=hH j PG hj
 have h2:=Ii PG
 have h3:=Bm _ (Bx hj).2
 have h4:=Bm _ (Bx (show par j<hp.length by omega)).2
 unfold Mc at h1⊢
 simp only[List.getD_eq_getElem?_getD]at h1 h3 h4⊢
 rw[List.getElem?_append_left h3,List.getElem?_append_left h4]
 exact h1
theorem Zw(h:Wd X os m W)(hg:os[ig]?=some (CX b g M k cur))(hs:os[iz]?=some (JW X sx k g M o lv hp))(hd:ig≠iz)(hl:hp.length=cur.length)(kF:hp.length+1≤100000)(hk:0<k∧k≤5)(hM:(cur.length+1)*k≤M∧M≤1000000)
  (hf:Ds k cur) (hH:Hp (Mc o fun p=>cur.getD p AD) (fun i=>hp.getD i (0,0)) hp.length) (Bm:∀a∈hp,a.1<cur.length) (Iu:hh=AH X.sz k) (DQ:0<hh) (Hu:nb=AA hh count) (EE:0<count∧count≤100000) (N6:first≤2000000)
  (hroom:X.sz+Ac AW.gw os≤X.rm) (hlen:l.length=count) (hfit:Ds k l) (B4:Src os X.sz first k hh l) (hn:X.N+m<1000000) (ht:l[0]?=some t):
  Calls Tryz.prog 115 #[.pointer (some ⟨sx,0,none⟩),.pointer (some ⟨X.p.w,0,none⟩),.agg #[.int .i64 first,.int .i64 nb,.int .i64 k,.int .i64 count]] W fun e w'=>
   (e=.returned (.int .i64 0)∧∃x rt h' Fb,iU rt X.sz l∧(rt.pos=1∧rt.count=count∧rt.first=first∧rt.k=k∧rt.h=hh)∧Hp (Mc o fun p=>(cur++[t]).getD p AD) (fun i=>h'.getD i (0,0)) h'.length∧h'.Perm (hp++[(cur.length,x)])∧
    Wd X ((os.set ig (CX b g M k (cur++[t]))).set iz (JW X sx k g M o Fb h')++[DZ X.p x rt X.sz l]) (m+1) w')∨
   (e=.returned (.int .i64 6)∧¬X.cm∧∃x rt,Wd X (os++[Ot X.p x rt]) (m+1) w'):=by
 obtain⟨W1,B8⟩:∃W1,W1=W.alloc (.cells #[.int .i64 first,.int .i64 nb,.int .i64 k,.int .i64 count] 39):=⟨_,rfl⟩
 have Am:Below W.heap.size W W1:=by rw[B8];exact(Below.refl _ _).alloc (Nat.le_refl _) _
 have Bl:Row W1 W.heap.size 39 [.int .i64 first,.int .i64 nb,.int .i64 k,.int .i64 count]:=by rw[B8];exact heap_alloc_new _ _
 have PS:=Lib.hid (Qo (h.below Am) first nb k hh count l Iu DQ Hu EE.2 N6 hroom)
 have R2:Hid (∀x b' g' W2,Ft ⟨k,hh,first,nb,count,0,b',g'⟩ X.sz→Wd X (os++[DZ X.p x ⟨k,hh,first,nb,count,0,b',g'⟩ X.sz l]) m W2→Calls Tryz.prog 52 #[.pointer (some ⟨x,0,none⟩)] W2 fun e w'=>
   (e=.returned (.tuple #[.agg #[.int .i64 t.a,.int .i64 t.b,.int .i64 t.c,.int .i64 t.d,.int .i64 t.e],.bool true,.int .i64 0])∧Wd X (os++[DZ X.p x ⟨k,hh,first,nb,count,1,b',g'⟩ X.sz l]) (m+1) w')∨
   (e=.returned (.tuple #[.agg #[.int .i64 0,.int .i64 0,.int .i64 0,.int .i64 0,.int .i64 0],.bool false,.int .i64 6])∧¬X.cm∧Wd X (os++[Ot X.p x ⟨k,hh,first,nb,count,0,b',g'⟩]) (m+1) w')):=fun x b' g' W2 EL h2=>by
  have Bp:(os++[DZ X.p x ⟨k,hh,first,nb,count,0,b',g'⟩ X.sz l])[os.length]?=some (DZ X.p x ⟨k,hh,first,nb,count,0,b',g'⟩ X.sz l):=by rw[List.getElem?_append_right (Nat.le_refl _),Nat.sub_self];rfl
  refine(Mp h2 Bp ⟨EL,hlen,hfit⟩ hn EE.1 (B4.snoc _) ht).mono ?_
  rintro e w' (⟨h3,h4⟩|⟨h3,h4,h5⟩)
  ·rw[Ct]at h4
   have e1:AA hh (0+1)-AA hh 0=1:=by
    have h6:=A7 hh
    have h7:=Bj DQ (show 0<0+1 by omega)
    have h8:=Fj DQ 0 1
    rw[h6]at h8⊢;omega
   have h6:Wd X (os++[DZ X.p x ⟨k,hh,first,nb,count,1,b',g'⟩ X.sz l]) (m+(AA hh (0+1)-AA hh 0)) w':=h4
   rw[e1]at h6
   exact .inl ⟨h3,h6⟩
  ·rw[Ct]at h5
   exact .inr ⟨h3,h4,h5⟩
 have hrow:∀(z:List AW) m' W',Wd X (os++z) m' W'→Row W' sx 187 (Gg k g M M o lv):=fun z m' W' hw=>(hw.at_ (Ag hs)).1
 obtain⟨A,c,Kn⟩:=JF (h.at_ hs).2
 have Dr:Hid (∀(z:List AW) m' W',Wd X (os++z) m' W'→Row W' sx 187 (Gg k g M M o (.slice A hp.length c))):=fun z m' W' hw=>by rw[←Kn];exact hrow z m' W' hw
 have Ef:=Lib.hid B8
 have b0:W1.cell? ⟨W.heap.size,0,none⟩=some (.int .i64 first):=Bl.cell 0
 have b1:W1.cell? ⟨W.heap.size,1,none⟩=some (.int .i64 nb):=Bl.cell 1
 have b2:W1.cell? ⟨W.heap.size,2,none⟩=some (.int .i64 k):=Bl.cell 2
 have b3:W1.cell? ⟨W.heap.size,3,none⟩=some (.int .i64 count):=Bl.cell 3
 have HLV:=Lib.hid Kn
 have HHL:=Lib.hid hl
 have R3:=Lib.hid hlen
 clear B8 Am Bl h hrow Kn Hu Iu hl hlen
 generalize ZF:W.heap.size=s0 at*
 go_enter Tryz.func115,Tryz.ntmps115
 go_upto_region 1 with(fail)
 rw[←Ef.out]
 clear Ef ZF
 go_wp2_with fail
 refine PS.out.mono ?_
 rintro e w2 ⟨x,b',g',rfl,EL,h2⟩
 have jE:=Lib.hid (R2.out x b' g' w2 EL h2)
 have Dq:=Lib.hid EL
 clear PS h2 b0 b1 b2 b3 EL
 go_wp2_with fail
 refine jE.out.mono ?_
 rintro e w3 (⟨rfl,h3⟩|⟨rfl,Dn,h3⟩)
 ·have h4:Wd X (os++[DZ X.p x ⟨k,hh,first,nb,count,1,b',g'⟩ X.sz l]++[AI w3.heap.size 63 (Ai t)]) (m+1) (w3.alloc (.cells #[.int .i64 t.a,.int .i64 t.b,.int .i64 t.c,.int .i64 t.d,.int .i64 t.e] 63)):=
   h3.new ((Below.refl _ _).alloc (Nat.le_refl _) _) (g:=w3.heap.size) (t:=63) (cs:=Ai t) (heap_alloc_new w3 (.cells #[.int .i64 t.a,.int .i64 t.b,.int .i64 t.c,.int .i64 t.d,.int .i64 t.e] 63)) (Nat.le_refl _)
  rw[List.append_assoc]at h4
  have Cg:=Lib.hid (KV (Dr.out _ _ _ h4))
  have H4:=Lib.hid h4
  clear h3 h4 jE
  go_wp2_with fail
  refine Cg.out.mono ?_
  rintro e w4 ⟨rfl,Us⟩
  generalize w3.alloc (.cells #[.int .i64 t.a,.int .i64 t.b,.int .i64 t.c,.int .i64 t.d,.int .i64 t.e] 63)=w5 at*
  subst Us
  generalize w3.heap.size=s5 at*
  have QB:=H4.out.drewN 1
  rw[show w4.drewN 1=w4.drew from rfl]at QB
  have Ez:=Dr.out _ _ _ QB
  have c0:w4.drew.cell? ⟨sx,0,none⟩=some (.int .i64 k):=Ez.cell 0
  have c1:w4.drew.cell? ⟨sx,1,none⟩=some (.slice (some ⟨g,0,none⟩) M M):=Ez.cell 1
  have d0:w4.drew.cell? ⟨s5,0,none⟩=some (.int .i64 t.a):=(QB.row (AM _ _ 1)).cell 0
  have d1:w4.drew.cell? ⟨s5,1,none⟩=some (.int .i64 t.b):=(QB.row (AM _ _ 1)).cell 1
  have d2:w4.drew.cell? ⟨s5,2,none⟩=some (.int .i64 t.c):=(QB.row (AM _ _ 1)).cell 2
  have d3:w4.drew.cell? ⟨s5,3,none⟩=some (.int .i64 t.d):=(QB.row (AM _ _ 1)).cell 3
  have d4:w4.drew.cell? ⟨s5,4,none⟩=some (.int .i64 t.e):=(QB.row (AM _ _ 1)).cell 4
  have qE:(os++[DZ X.p x ⟨k,hh,first,nb,count,1,b',g'⟩ X.sz l,AI s5 63 (Ai t)])[ig]?=some (CX b g M k cur):=Ag hg
  have hl:=HHL.out
  have Vc:Hid (Calls Tryz.prog 112 #[.agg #[.int .i64 k,.slice (some ⟨g,0,none⟩) M M],.int .i64 (hp.length:Nat),.agg #[.int .i64 t.a,.int .i64 t.b,.int .i64 t.c,.int .i64 t.d,.int .i64 t.e]] w4.drew fun e w'=>e=.returned (.tuple #[])∧Wd X (os.set ig (CX b g M k (cur++[t]))++[DZ X.p x ⟨k,hh,first,nb,count,1,b',g'⟩ X.sz l,AI s5 63 (Ai t)]) (m+1) w'):=by
   have zU:=hM.1
   rw[Nat.add_mul,Nat.one_mul]at zU
   refine(UG QB qE hk hp.length t (by omega) (by rw[hl];omega) ⟨Nat.le_refl _,hM.2⟩ (by omega)).mono ?_
   rintro e w' ⟨h1,h2,_⟩
   rw[hl,Sb,Dz hg]at h2
   exact⟨h1,h2⟩
  have vG:Hid (∀w',Wd X (os.set ig (CX b g M k (cur++[t]))++[DZ X.p x ⟨k,hh,first,nb,count,1,b',g'⟩ X.sz l,AI s5 63 (Ai t)]) (m+1) w'→(w'.cell? ⟨sx,0,none⟩=some (.int .i64 k)∧w'.cell? ⟨sx,1,none⟩=some (.slice (some ⟨g,0,none⟩) M M)∧w'.cell? ⟨s5,0,none⟩=some (.int .i64 t.a)∧w'.cell? ⟨s5,1,none⟩=some (.int .i64 t.b)∧w'.cell? ⟨s5,2,none⟩=some (.int .i64 t.c)∧w'.cell? ⟨s5,3,none⟩=some (.int .i64 t.d)∧w'.cell? ⟨s5,4,none⟩=some (.int .i64 t.e))):=fun w' h9=>by
   have GG:=(h9.at_ (Ag (CH hs hd))).1
   exact⟨GG.cell 0,GG.cell 1,(h9.row (AM _ _ 1)).cell 0,(h9.row (AM _ _ 1)).cell 1,(h9.row (AM _ _ 1)).cell 2,(h9.row (AM _ _ 1)).cell 3,(h9.row (AM _ _ 1)).cell 4⟩
  clear QB Ez H4 Cg hl
  go_wp2_with fail
  go_region_held3 (fun w'=>w'.cell? ⟨sx,0,none⟩=some (.int .i64 k)∧w'.cell? ⟨sx,1,none⟩=some (.slice (some ⟨g,0,none⟩) M M)∧w'.cell? ⟨s5,0,none⟩=some (.int .i64 t.a)∧w'.cell? ⟨s5,1,none⟩=some (.int .i64 t.b)∧w'.cell? ⟨s5,2,none⟩=some (.int .i64 t.c)∧w'.cell? ⟨s5,3,none⟩=some (.int .i64 t.d)∧w'.cell? ⟨s5,4,none⟩=some (.int .i64 t.e)) (first|with_reducible exact⟨c0,c1,d0,d1,d2,d3,d4⟩|with_reducible exact q7)
   ((go_at_call 112;(with_reducible refine Vc.out.mono ?_);rintro e w7 ⟨rfl,h7⟩;have q7:=vG.out w7 h7))
  have TG:(os.set ig (CX b g M k (cur++[t])))[iz]?=some (JW X sx k g M o lv hp):=CH hs hd
  have qD:(os.set ig (CX b g M k (cur++[t])))[ig]?=some (CX b g M k (cur++[t])):=NZ os hg _
  have hl:=HHL.out
  have hlen:=R3.out
  have D9:(cur++[t]).length=cur.length+1:=by rw[List.length_append];rfl
  have hPU:Calls Tryz.prog 131 #[.iface 184 (.pointer (some ⟨sx,0,none⟩)),.iface 202 (.agg #[.int .i64 (hp.length:Nat),.pointer (some ⟨x,0,none⟩)])] w7 fun e w'=>e=.returned (.tuple #[])∧∃h' Fb,Hp (Mc o fun p=>(cur++[t]).getD p AD) (fun i=>h'.getD i (0,0)) h'.length∧h'.Perm (hp++[(cur.length,x)])∧
    Wd X ((os.set ig (CX b g M k (cur++[t]))).set iz (JW X sx k g M o Fb h')++[DZ X.p x ⟨k,hh,first,nb,count,1,b',g'⟩ X.sz l,AI s5 63 (Ai t)]) (m+1) w':=by
   have hC:=LV (X:=X) (m:=m+1) (o:=o) (sx:=sx) (Ag (b:=[DZ X.p x ⟨k,hh,first,nb,count,1,b',g'⟩ X.sz l,AI s5 63 (Ai t)]) qD) (fun e=>hd e.symm) (Ik (Ag TG)) hk ⟨by rw[D9];exact hM.1,hM.2⟩ (fun u hu=>(List.mem_append.1 hu).elim (hf u) fun hu=>by rw[List.mem_singleton.1 hu];exact hfit t (List.mem_of_getElem? ht))
   have hR:qS X (os.set ig (CX b g M k (cur++[t]))++[DZ X.p x ⟨k,hh,first,nb,count,1,b',g'⟩ X.sz l,AI s5 63 (Ai t)]) (m+1) iz sx k g M o (cur++[t]).length hp w7:=⟨fun a ha=>by rw[D9];have:=Bm a ha;omega,by omega,lv,by rw[EV (Ag TG)];exact h7⟩
   have hpu:=Zl (Ik (Ag TG)) hR (hp.length,x) (by rw[D9];omega) kF
   refine(YJ (h:=hp) (a:=(hp.length,x)) hC (Kj _ _) (by omega) (YV Bm hH) hpu).mono ?_
   rintro e w' ⟨h1,h',h2,h3,_,_,Fb,h5⟩
   rw[Dz TG]at h5
   have h6:=h3.length_eq
   rw[List.length_append]at h6
   exact⟨h1,h',Fb,by rw[h6];exact h2,by rw[←hl];exact h3,h5⟩
  have qZ:=Lib.hid hPU
  clear hl hlen D9 hPU h7 q7 Vc vG c0 c1 d0 d1 d2 d3 d4
  go_wp2_with fail
  refine qZ.out.mono ?_
  rintro e w8 ⟨rfl,h',Fb,k1,k2,h8⟩
  have h9:Wd X ((os.set ig (CX b g M k (cur++[t]))).set iz (JW X sx k g M o Fb h')++[DZ X.p x ⟨k,hh,first,nb,count,1,b',g'⟩ X.sz l]) (m+1) w8:=by
   have FJ:Wd X (((os.set ig (CX b g M k (cur++[t]))).set iz (JW X sx k g M o Fb h')++[DZ X.p x ⟨k,hh,first,nb,count,1,b',g'⟩ X.sz l])++[AI s5 63 (Ai t)]) (m+1) w8:=by rw[List.append_assoc];exact h8
   exact FJ.forget (AN (DU _ _ _) BW)
  have H9:=Lib.hid h9
  have lK:=Lib.hid k1
  have Vi:=Lib.hid k2
  clear h8 h9 k1 k2 qZ
  go_wp2
  go_ret
  refine .inl ⟨rfl,x,⟨k,hh,first,nb,count,1,b',g'⟩,h',Fb,⟨⟨Dq.out.k,Dq.out.h,Dq.out.sz,⟨Dq.out.count.1,EE.1⟩,Dq.out.first⟩,R3.out,hfit⟩,⟨rfl,rfl,rfl,rfl,rfl⟩,lK.out,Vi.out,H9.out⟩
 ·have H9:=Lib.hid (h3.below ((Below.refl _ _).alloc (Nat.le_refl _) (.cells #[.int .i64 0,.int .i64 0,.int .i64 0,.int .i64 0,.int .i64 0] 63)))
  have Vk:=Lib.hid Dn
  clear h3 jE Dn
  go_wp2
  go_ret
  exact .inr ⟨rfl,Vk.out,x,_,H9.out⟩
end
section
variable {os : List AW} {sz first k hh : Nat} {l : List AB} {q rb P pa pb i : Nat}
theorem Gl(i rb hh:Nat):i*(rb*hh)=i*rb*hh:=(Nat.mul_assoc _ _ _).symm
theorem GK(DQ:0<hh)(a:Nat):AA hh (a*hh)=a:=by
 unfold AA
 rw[Nat.mul_mod_left,if_neg (by omega),Nat.mul_div_cancel _ DQ]
theorem Fi(DQ:0<hh)(c a:Nat):AA hh (c-a*hh)=AA hh c-a:=by
 rcases Nat.le_total (a*hh) c with hle|hle
 ·unfold AA
  have h1:c=(c-a*hh)+hh*a:=by rw[Nat.mul_comm hh a];omega
  have h2:c%hh=(c-a*hh)%hh:=by
   conv=>lhs;rw[h1]
   exact Nat.add_mul_mod_self_left _ _ _
  have h3:c/hh=(c-a*hh)/hh+a:=by
   conv=>lhs;rw[h1]
   exact Nat.add_mul_div_left _ _ DQ
  rw[h2,h3]
  generalize(c-a*hh)%hh=x
  generalize(c-a*hh)/hh=y
  split<;>omega
 ·rw[Nat.sub_eq_zero_of_le hle,A7]
  have h1:AA hh c≤AA hh (a*hh):=Aq DQ hle
  rw[GK DQ]at h1;omega
theorem VS(DQ:0<hh)(c b:Nat):AA hh (min (b*hh) c)=min b (AA hh c):=by
 rcases Nat.le_total (b*hh) c with hle|hle
 ·rw[Nat.min_eq_left hle,GK DQ,Nat.min_eq_left]
  have h1:=Aq DQ hle
  rwa [GK DQ]at h1
 ·rw[Nat.min_eq_right hle,Nat.min_eq_right]
  have h1:=Aq DQ hle
  rwa [GK DQ]at h1
def QX(l:List AB)(a n:Nat):List AB:=(l.drop a).take n
theorem M6:(QX l pa pb).length=min pb (l.length-pa):=by unfold QX;rw[List.length_take,List.length_drop]
theorem Fg(DQ:0<hh):AA hh (QX l (pa*hh) (pb*hh)).length=min pb (AA hh l.length-pa):=by
 rw[M6,VS DQ,Fi DQ]
theorem Wg{k:Nat}(h:Ds k l):Ds k (QX l pa pb):=fun u hu=>h u (List.mem_of_mem_drop (List.mem_of_mem_take hu))
theorem Src.part(hs:Src os sz first k hh l)(DQ:0<hh)(pa pb:Nat):Src os sz (first+pa) k hh (QX l (pa*hh) (pb*hh)):=by
 obtain⟨j,f,h1,h2,h3⟩:=hs
 refine⟨j,f,h1,fun D hD hd i hi=>?_,fun hl=>?_⟩
 ·rw[Fg DQ]at hi
  have h4:=h2 D hD hd (pa+i) (by omega)
  rw[show first+pa+i=first+(pa+i)by omega,h4]
  congr 1
  unfold FG QX
  congr 1
  rw[List.drop_take,List.take_take,List.drop_drop,show pa*hh+i*hh=(pa+i)*hh by rw[Nat.add_mul],Nat.min_eq_left]
  have h5:=Nat.mul_le_mul_right hh (show i+1≤pb by omega)
  rw[Nat.add_mul,Nat.one_mul]at h5;omega
 ·rw[Fg DQ]
  rw[M6]at hl
  have h5:0<l.length:=by omega
  have h6:=h3 h5
  have h7:pa*hh<l.length:=by omega
  have h8:0<AA hh (l.length-pa*hh):=Bj DQ (by omega)
  rw[Fi DQ]at h8
  omega
def Rz(q:Nat)(l:List AB)(P:Nat):List (List AB):=(List.range P).map fun i=>QX l (i*q) q
theorem M7:(Rz q l P).length=P:=by unfold Rz;rw[List.length_map,List.length_range]
theorem iQ(h:i<P):(Rz q l P)[i]?=some (QX l (i*q) q):=by unfold Rz;rw[List.getElem?_map,List.getElem?_range h];rfl
theorem Ti:Rz q l (P+1)=Rz q l P++[QX l (P*q) q]:=by unfold Rz;rw[List.range_succ,List.map_append];rfl
theorem OR:∀P,(Rz q l P).flatten=l.take (P*q)
 |0=>by rw[Nat.zero_mul];rfl
 |P+1=>by
  rw[Ti,List.flatten_append,OR P,Nat.add_mul,Nat.one_mul,List.take_add]
  simp[QX]
theorem Rb(DQ:0<hh):∀P,Ac (fun l:List AB=>AA hh l.length) (Rz (rb*hh) l P)=min (P*rb) (AA hh l.length)
 |0=>by rw[Nat.zero_mul,Nat.zero_min];rfl
 |P+1=>by
  rw[Ti,DF,Rb DQ P,Gl]
  show _+AA hh (QX l (P*rb*hh) (rb*hh)).length= _
  rw[Fg DQ,Nat.add_mul,Nat.one_mul]
  omega
end
def MP.A(P:MP)(i:Nat)(W:World):Prop:=∃cur q h lv,P.St cur q h∧q.length=i∧h.length=i∧(∀(p:Nat) (r:Sr),q[p]?=some r→r.op=true∧r.rt.pos=1∧cur.getD p AD::r.l.drop 1=r.l)∧Wd P.X (P.os (P.Z P.s0) cur (P.st lv h) q) (P.m+i+Eh P.once P.o P.hh P.s0) W
section
variable {P : MP} {cur : List AB} {q : List Sr} {h : List (Nat × Nat)} {z : List AW} {st : AW} {W : World} {lv : Value} {m i : Nat}
theorem MP.V8{r:Sr}:P.os z cur st (q++[r])=P.os z cur st q++[Y6 P.X r]:=by
 unfold MP.os;rw[List.map_append];simp
theorem MP.A.below{W':World}(h:P.A i W)(hb:Below W.heap.size W W'):P.A i W':=by
 obtain⟨cur,q,h,lv,h1,h2,h3,h4,h5⟩:=h
 exact⟨cur,q,h,lv,h1,h2,h3,h4,h5.below hb⟩
theorem Ho{α:Type}{f:α→Nat}{c:Nat}:∀(l:List α) (_:∀a∈l,f a=c),Ac f l=l.length*c
 |[],_=>by rw[List.length_nil,Nat.zero_mul];rfl
 |a::l,h=>by rw[Bf,h a List.mem_cons_self,Ho l fun b hb=>h b (List.mem_cons_of_mem _ hb),List.length_cons,Nat.add_mul,Nat.one_mul,Nat.add_comm]
theorem OV{hh:Nat}(DQ:0<hh):AA hh 1=1:=by
 have h6:=A7 hh
 have h7:=Bj DQ (show 0<1 by omega)
 have h8:=Fj DQ 0 1
 rw[h6]at h8
 rw[Nat.zero_add]at h8;omega
theorem MP.A.start(hP:P.Ok)(h:P.A P.rs.length W):∃n,P.J n W:=by
 obtain⟨cur,q,h,lv,hs,hq,hh,hl,hw⟩:=h
 have Ov:=hs.ql
 rw[hq,List.take_length]at Ov
 have kI:∀(p:Nat) (r:Sr),q[p]?=some r→Dw cur q p=r.l:=fun p r hr=>by
  unfold Dw;rw[hr]
  obtain⟨h1,h2,h3⟩:=hl p r hr
  show (if r.op then cur.getD p AD::r.l.drop r.rt.pos else [])=r.l
  rw[h1,h2,h3];rfl
 have EM:P.rs.flatten=(List.range P.rs.length).flatMap (Dw cur q):=by
  rw[List.flatMap_def]
  congr 1
  rw[←Ov]
  refine List.ext_getElem? fun j=>?_
  rw[List.getElem?_map,List.getElem?_map,List.length_map]
  rcases Nat.lt_or_ge j q.length with hj|hj
  ·rw[List.getElem?_eq_getElem hj,List.getElem?_range hj]
   show some _=some _
   rw[kI j _ (List.getElem?_eq_getElem hj)]
  ·rw[List.getElem?_eq_none hj,List.getElem?_eq_none (by rw[List.length_range];exact hj)];rfl
 have hm:T5 P.o P.rs.length (Dw cur q) P.rs.flatten []:=T5.start (fun p hp=>by
  rw[←hq]at hp
  rw[kI p _ (List.getElem?_eq_getElem hp)]
  exact hP.asc _ (by rw[←Ov];exact List.mem_map.2 ⟨_,List.getElem_mem hp,rfl⟩)) EM
 have hrd:Ud q=P.rs.length:=by
  have h1:Ud q=q.length*1:=Ho q fun r hr=>by
   obtain⟨p,hp,rfl⟩:=List.getElem_of_mem hr
   rw[(hl p _ (List.getElem?_eq_getElem hp)).2.1]
   exact OV (hs.rd _ hr).ok.ok.h.1
  rw[h1,hq];omega
 refine⟨_,cur,q,h,lv,[],hs,hq,hm,rfl,?_⟩
 rw[List.append_nil]
 unfold MP.mm
 rw[hrd];exact hw
theorem tW(hz:∀r∈q,r.op=true)(hb:P.bx.gr=none):Ac AW.gw (P.os z cur (P.st lv h) q)=Ac AW.gw (P.AP++z)+P.M+q.length*P.X.sz:=by
 unfold MP.os
 rw[BO,Bf,Bf,Bf]
 have h1:P.bx.gw=0:=by unfold AW.gw;rw[hb]
 have h2:Ac AW.gw (q.map (Y6 P.X))=q.length*P.X.sz:=by
  rw[Ho (c:=P.X.sz) _ fun a ha=>?_,List.length_map]
  obtain⟨r,hr,rfl⟩:=List.mem_map.1 ha
  rw[KU (hz r hr)];rfl
 rw[h1,h2]
 show _+(0+(P.M+(0+ _)))= _
 omega
theorem MP.A.add(hP:P.Ok){first nb count:Nat}{l:List AB}(hi:P.rs[i]?=some l)(hlen:l.length=count)(EE:0<count∧count≤100000)(Iu:P.hh=AH P.X.sz P.k)(DQ:0<P.hh)(Hu:nb=AA P.hh count)(N6:first≤2000000)(B4:Src P.AP P.X.sz first P.k P.hh l)
  (hroom:Ac AW.gw (P.AP++P.Z P.s0)+P.M+P.rs.length*P.X.sz≤P.X.rm) (h:P.A i W):
  Calls Tryz.prog 115 #[.pointer (some ⟨P.sx,0,none⟩),.pointer (some ⟨P.X.p.w,0,none⟩),.agg #[.int .i64 first,.int .i64 nb,.int .i64 P.k,.int .i64 count]] W fun e w'=>(e=.returned (.int .i64 0)∧P.A (i+1) w')∨(e=.returned (.int .i64 6)∧P.No w'):=by
 obtain⟨cur,q,h,lv,hs,hq,nT,hl,hw⟩:=h
 have hil:=DO hi
 have hfit:=hP.fit l (List.mem_of_getElem? hi)
 obtain⟨t,ht⟩:∃t,l[0]?=some t:=⟨_,List.getElem?_eq_getElem (by omega)⟩
 have gh:∀r∈q,r.op=true:=fun r hr=>by
  obtain⟨p,hp,rfl⟩:=List.getElem_of_mem hr
  exact(hl p _ (List.getElem?_eq_getElem hp)).1
 have Iv:=tW (P:=P) (z:=P.Z P.s0) (cur:=cur) (lv:=lv) (h:=h) gh hP.bx.1
 have Ip:P.X.sz+Ac AW.gw (P.os (P.Z P.s0) cur (P.st lv h) q)≤P.X.rm:=by
  rw[Iv,hq]
  have h1:=Nat.mul_le_mul_right P.X.sz (show i+1≤P.rs.length from hil)
  rw[Nat.add_mul,Nat.one_mul]at h1;omega
 have zU:(cur.length+1)*P.k≤P.M:=by
  have h1:=Nat.mul_le_mul_right P.k (show cur.length+1≤P.rs.length by rw[hs.cl,hq];exact hil)
  exact Nat.le_trans h1 hP.M.1
 have hn:=hP.n
 have Am:=Jk P.once P.o P.hh P.s0
 have AZ:=hP.bd
 have ym:P.X.N+(P.m+i+Eh P.once P.o P.hh P.s0)<1000000:=by
  have h1:Ud q=i:=by
   have h1:Ud q=q.length*1:=Ho q fun r hr=>by
    obtain⟨p,hp,rfl⟩:=List.getElem_of_mem hr
    rw[(hl p _ (List.getElem?_eq_getElem hp)).2.1]
    exact OV (hs.rd _ hr).ok.ok.h.1
   rw[h1,hq];omega
  have h2:Ud q≤Ac (fun l:List AB=>AA P.hh l.length) P.rs:=by
   have h3:=RB hs.rd
   rw[Uc hs.rd,hs.ql]at h3
   have h4:Ac (fun l:List AB=>AA P.hh l.length) (P.rs.take q.length)≤Ac (fun l:List AB=>AA P.hh l.length) P.rs:=by
    conv=>rhs;rw[←List.take_append_drop q.length P.rs]
    rw[BO];omega
   omega
  omega
 refine(Zw hw MP.dD MP.Qb (by omega) (by rw[nT,hs.cl,hq]) (by have:=hP.len;omega) hP.kk ⟨zU,hP.M.2⟩ hs.fit hs.hp hs.lt Iu DQ Hu EE N6 Ip hlen hfit (MP.src B4) ym ht).mono ?_
 rintro e w' (⟨he,x,rt,h',Fb,h1,⟨e1,e2,e3,e4,e5⟩,h2,h3,h4⟩|⟨he,Dn,x,rt,h4⟩)
 ·have Pw:(Sr.mk x rt l true).op=true:=rfl
  have h5:Wd P.X (P.os (P.Z P.s0) (cur++[t]) (P.st Fb h') (q++[⟨x,rt,l,true⟩])) (P.m+i+Eh P.once P.o P.hh P.s0+1) w':=by
   rw[MP.V8,KU Pw,←MP.UT (P:=P) (st:=P.st lv h),←MP.Zu (P:=P) (cur:=cur)];exact h4
  have hR:P.Rd ⟨x,rt,l,true⟩:=⟨h1,by show Src P.AP P.X.sz rt.first rt.k rt.h l;rw[e3,e4,e5];exact B4,e4,e5,⟨by show 0<rt.pos;omega,by show rt.pos≤rt.count;omega⟩,fun hf=>by cases hf⟩
  have hqa:∀p,p<q.length→(q++[⟨x,rt,l,true⟩])[p]?=q[p]?:=fun p hp=>List.getElem?_append_left hp
  have hqn:(q++[⟨x,rt,l,true⟩])[q.length]?=some ⟨x,rt,l,true⟩:=by rw[List.getElem?_append_right (Nat.le_refl _),Nat.sub_self];rfl
  have hor:∀(p:Nat) (r:Sr),(q++[⟨x,rt,l,true⟩])[p]?=some r→q[p]?=some r∨(p=q.length∧r=⟨x,rt,l,true⟩):=fun p r hr=>by
   rcases Nat.lt_trichotomy p q.length with hp|hp|hp
   ·rw[hqa p hp]at hr;exact .inl hr
   ·rw[hp,hqn]at hr;injection hr with hr;exact .inr ⟨hp,hr.symm⟩
   ·rw[List.getElem?_eq_none (by rw[List.length_append];show q.length+1≤p;omega)]at hr;cases hr
  have cC:=hs.cl
  refine .inl ⟨he,cur++[t],q++[⟨x,rt,l,true⟩],h',Fb,⟨?_,?_,?_,?_,h2,?_,?_⟩,by rw[List.length_append,hq];rfl,by rw[h3.length_eq,List.length_append,nT];rfl,?_,by rw[show P.m+(i+1)+Eh P.once P.o P.hh P.s0=P.m+i+Eh P.once P.o P.hh P.s0+1 by omega];exact h5⟩
  ·rw[List.length_append,List.length_append,cC];rfl
  ·rw[List.length_append,List.map_append,hs.ql,hq]
   show P.rs.take i++[l]=P.rs.take (i+1)
   rw[List.take_add_one,hi];rfl
  ·exact fun u hu=>(List.mem_append.1 hu).elim (hs.fit u) fun hu=>by rw[List.mem_singleton.1 hu];exact hfit t (List.mem_of_getElem? ht)
  ·exact fun r hr=>(List.mem_append.1 hr).elim (hs.rd r) fun hr=>by rw[List.mem_singleton.1 hr];exact hR
  ·have h6:=h3.map (·.1)
   rw[h6.nodup_iff,List.map_append,List.nodup_append]
   refine⟨hs.nd,by simp,fun a ha b hb=>?_⟩
   obtain⟨c,hc,rfl⟩:=List.mem_map.1 ha
   have h7:=hs.lt c hc
   simp at hb
   rw[hb];omega
  ·intro a
   rw[h3.mem_iff,List.mem_append,List.mem_singleton,hs.mem a]
   constructor
   ·rintro(⟨r,k1,k2,k3⟩|k1)
    ·exact⟨r,by rw[hqa _ (DO k1)];exact k1,k2,k3⟩
    ·subst k1
     exact⟨⟨x,rt,l,true⟩,by show (q++[_])[cur.length]?= _;rw[cC];exact hqn,rfl,rfl⟩
   ·rintro⟨r,k1,k2,k3⟩
    rcases hor _ _ k1 with k4|⟨k4,k5⟩
    ·exact .inl ⟨r,k4,k2,k3⟩
    ·right
     rw[k5]at k3
     have k3:x=a.2:=k3
     rw[cC,←k4,k3]
  ·intro p r hr
   rcases hor p r hr with k1|⟨k1,k2⟩
   ·obtain⟨k3,k4,k5⟩:=hl p r k1
    refine⟨k3,k4,?_⟩
    have hp:p<cur.length:=by rw[cC];exact DO k1
    rw[List.getD_eq_getElem?_getD,List.getElem?_append_left hp,←List.getD_eq_getElem?_getD];exact k5
   ·subst k2
    refine⟨rfl,e1,?_⟩
    rw[k1,←cC,List.getD_eq_getElem?_getD,List.getElem?_append_right (Nat.le_refl _),Nat.sub_self]
    show t::l.drop 1=l
    rw[List.getElem?_eq_getElem (by omega)]at ht
    injection ht with ht
    rw[←ht]
    exact(List.drop_eq_getElem_cons (show 0<l.length by omega)).symm
 ·refine .inr ⟨he,Dn,P.Z P.s0,cur,lv,h,q++[⟨x,rt,l,false⟩],P.m+i+Eh P.once P.o P.hh P.s0+1,.inl ⟨P.s0,by omega,rfl⟩,⟨by have:=hP.len;omega,fun a ha=>?_,fun p r hr ho=>?_⟩,?_⟩
  ·obtain⟨r,k1,_,k3,_⟩:=hs.get ha
   exact⟨r,by rw[List.getElem?_append_left (DO k1)];exact k1,k3⟩
  ·rcases Nat.lt_trichotomy p q.length with hp|hp|hp
   ·rw[List.getElem?_append_left hp]at hr
    exact(hs.mem (p,r.x)).2 ⟨r,hr,ho,rfl⟩
   ·rw[hp,List.getElem?_append_right (Nat.le_refl _),Nat.sub_self]at hr
    have hr:some (Sr.mk x rt l false)=some r:=hr
    injection hr with hr
    rw[←hr]at ho;cases ho
   ·rw[List.getElem?_eq_none (by rw[List.length_append];show q.length+1≤p;omega)]at hr;cases hr
  ·rw[MP.V8,JC (r:=⟨x,rt,l,false⟩) rfl];exact h4
end
section
variable {X : Cx} {AP : List AW} {o : AB} {once Mv : Bool} {k hh bd xw tT fP n : Nat} {vT : Value} {Z : List AB → List AW} {js sb Rw rb An first nb count m PN : Nat} {s0 l : List AB} {W : World}
theorem I4{hh:Nat}(DQ:0<hh)(c:Nat):c≤AA hh c*hh:=IG DQ
theorem ZU (hS : dI X o once k hh bd xw tT fP vT Z n) (Li : AP[js]? = some (AI sb 98 (Bh X.p.w k hh Rw An o Mv bd)))
    (h : Wd X (AP ++ Z s0) (m + Eh once o hh s0) W) (hok : NA first nb k hh l X.sz) (hc : l.length = count) (B4 : Src AP X.sz first k hh l) (hrb : 0 < rb ∧ rb ≤ 1000000) (Mh : An ≤ 1000000)
    (wE : ∀ i, i < PN ↔ i * rb < nb) (zR : PN ≤ min An nb) (VC : ∀ i, Hl o (QX l (i * (rb * hh)) (rb * hh)))
    (hroom : Ac AW.gw (AP ++ Z s0) + min An nb * k + PN * X.sz ≤ X.rm) (Av : X.rm ≤ 1000000) (Kp : first + nb ≤ 2000000) (hbd : s0.length + count ≤ bd ∧ bd ≤ 100000) (hn : X.N + m + nb + bd + 3 ≤ 1000000) :
    Calls Tryz.prog 94 #[.pointer (some ⟨sb, 0, none⟩), .agg #[.int .i64 first, .int .i64 nb, .int .i64 k, .int .i64 count], .int .i64 rb, .iface tT vT] W fun e w' =>
      (e = .returned (.int .i64 0) ∧ ∃ out, Hl o out ∧ Cl o l out ∧ Wd X (AP ++ Z (s0 ++ out)) (m + nb + Eh once o hh (s0 ++ out)) w') ∨
      (e = .returned (.int .i64 6) ∧ ¬ X.cm ∧ ∃ z m', Ml X xw bd n Z z ∧ Wd X (AP ++ z) m' w') := by
  have By := hS.len s0
  have MJ : 0 < hh ∧ hh ≤ 254 := ⟨hok.hh.1, hok.hh.2.2⟩
  have hkk := hok.kk
  have D9 : count ≤ 100000 := by rw [← hc]; exact hok.len
  have IS : nb = AA hh count := by rw [← hc]; exact hok.bn
  have YO : nb ≤ count := by rw [IS]; exact BL _ _
  have sr : count ≤ nb * hh := by rw [IS]; exact I4 MJ.1 _
  obtain ⟨mn, hmn⟩ : ∃ mn, min An nb = mn := ⟨_, rfl⟩
  rw [hmn] at zR hroom
  obtain ⟨M, hM⟩ : ∃ M, mn * k = M := ⟨_, rfl⟩
  rw [hM] at hroom
  have hMb : M ≤ 1000000 := by omega
  have nu : ∀ W z m, Wd X (AP ++ z) m W → Row W sb 98 (Bh X.p.w k hh Rw An o Mv bd) := fun W z m h => h.row (Ag Li)
  obtain ⟨W1, B8⟩ : ∃ W1, W1 = W.alloc (.cells #[.int .i64 first, .int .i64 nb, .int .i64 k, .int .i64 count] 39) := ⟨_, rfl⟩
  have Am : Below W.heap.size W W1 := by rw [B8]; exact (Below.refl _ _).alloc (Nat.le_refl _) _
  have Bl : Row W1 W.heap.size 39 [.int .i64 first, .int .i64 nb, .int .i64 k, .int .i64 count] := by rw [B8]; exact heap_alloc_new _ _
  have h1 : Wd X (AP ++ Z s0 ++ [AI W.heap.size 39 [.int .i64 first, .int .i64 nb, .int .i64 k, .int .i64 count]]) (m + Eh once o hh s0) W1 := h.new Am Bl (Nat.le_refl _)
  have Ef := Lib.hid B8
  generalize Pz : W.heap.size = fb at *
  let P0 : Nat → Nat → Nat → MP := fun b g sx => ⟨X, AP, Z, o, once, k, hh, bd, xw, tT, fP, vT, n, m, s0, AI fb 39 [.int .i64 first, .int .i64 nb, .int .i64 k, .int .i64 count], b, g, M, sx, Rz (rb * hh) l PN⟩
  have DY : ∀ b g sx, (P0 b g sx).Ok := fun b g sx => {
    S := hS
    kk := hkk
    M := ⟨by show (Rz (rb * hh) l PN).length * k ≤ M; rw [M7, ← hM]; exact Nat.mul_le_mul_right k zR, hMb⟩
    len := by show (Rz (rb * hh) l PN).length ≤ 100000; rw [M7]; omega
    asc := fun l' U4 => by
      obtain ⟨i, _, rfl⟩ := List.mem_map.1 U4
      exact VC i
    fit := fun l' U4 => by
      obtain ⟨i, _, rfl⟩ := List.mem_map.1 U4
      exact Wg hok.fit
    bx := ⟨rfl, rfl⟩
    bd := by
      show s0.length + (Rz (rb * hh) l PN).flatten.length ≤ bd
      rw [OR, List.length_take]; omega
    n := by
      show X.N + m + Ac (fun l : List AB => AA hh l.length) (Rz (rb * hh) l PN) + bd + 3 ≤ 1000000
      rw [Rb MJ.1, hc, ← IS]; omega }
  have Vj : Hid (Calls Tryz.prog 63 #[.pointer (some ⟨X.p.a, 0, none⟩), .int .i64 (M : Nat)] W1.drew fun e w' => ∃ b g, e = .returned (.tuple #[.pointer (some ⟨b, 0, none⟩), .int .i64 0]) ∧ Wd X (AP ++ (Z s0 ++ [AI fb 39 [.int .i64 first, .int .i64 nb, .int .i64 k, .int .i64 count], CX b g M k []])) (m + Eh once o hh s0) w') := by
    have Iv : Ac AW.gw (AP ++ Z s0 ++ [AI fb 39 [.int .i64 first, .int .i64 nb, .int .i64 k, .int .i64 count]]) = Ac AW.gw (AP ++ Z s0) := by rw [DF]; rfl
    refine (SB (h1.drewN 1) M (by rw [Iv]; omega) hMb).mono ?_
    rintro e w' ⟨b, g, he, h3⟩
    refine ⟨b, g, he, ?_⟩
    have sd : (AP ++ Z s0 ++ [AI fb 39 [.int .i64 first, .int .i64 nb, .int .i64 k, .int .i64 count]] ++ [kf b g M])[(AP ++ Z s0 ++ [AI fb 39 [.int .i64 first, .int .i64 nb, .int .i64 k, .int .i64 count]]).length]? = some (kf b g M) := by rw [List.getElem?_append_right (Nat.le_refl _), Nat.sub_self]; rfl
    have h5 := h3.ZO sd (a' := CX b g M k []) Qt (fun ⟨q1, ws, q2, q3⟩ => ⟨q1, ws, q2, q3, by simp [BC]⟩) (fun _ hk => hk) rfl rfl (fun _ _ => trivial)
    rw [Ct, List.append_assoc, List.append_assoc] at h5
    exact h5
  have dx : Hid (∀ b g sx W W', Wd X (AP ++ (Z s0 ++ [AI fb 39 [.int .i64 first, .int .i64 nb, .int .i64 k, .int .i64 count], CX b g M k []])) (m + Eh once o hh s0) W → Below W.heap.size W W' → Row W' sx 187 (Gg k g M M o (.slice none 0 0)) → W.heap.size ≤ sx → (P0 b g sx).A 0 W') := fun b g sx W W' h2 hb hr hle => by
    have h3 := h2.new hb hr hle
    have sd : (AP ++ (Z s0 ++ [AI fb 39 [.int .i64 first, .int .i64 nb, .int .i64 k, .int .i64 count], CX b g M k []]) ++ [AI sx 187 (Gg k g M M o (.slice none 0 0))])[(AP ++ (Z s0 ++ [AI fb 39 [.int .i64 first, .int .i64 nb, .int .i64 k, .int .i64 count], CX b g M k []])).length]? = some (AI sx 187 (Gg k g M M o (.slice none 0 0))) := by rw [List.getElem?_append_right (Nat.le_refl _), Nat.sub_self]; rfl
    have h5 := h3.ZO sd (a' := JW X sx k g M o (.slice none 0 0) []) Zp (fun hr => ⟨hr, World.ownsRow_nil _ _ _ _⟩) (fun b hk => hk.elim id fun e => by cases e) rfl rfl (fun _ _ => trivial)
    rw [Ct] at h5
    refine ⟨[], [], [], .slice none 0 0, ⟨rfl, rfl, (fun u hu => by cases hu), (fun r hr => by cases hr), (fun j PG hj => by cases hj), by simp, fun a => ⟨fun ha => (by cases ha), fun ⟨r, hr, _⟩ => (by simp at hr)⟩⟩, rfl, rfl, (fun p r hr => by simp at hr), ?_⟩
    have e1 : (P0 b g sx).os ((P0 b g sx).Z (P0 b g sx).s0) [] ((P0 b g sx).st (.slice none 0 0) []) [] = AP ++ (Z s0 ++ [AI fb 39 [.int .i64 first, .int .i64 nb, .int .i64 k, .int .i64 count], CX b g M k []]) ++ [JW X sx k g M o (.slice none 0 0) []] := by
      show AP ++ Z s0 ++ [AI fb 39 [.int .i64 first, .int .i64 nb, .int .i64 k, .int .i64 count], CX b g M k [], JW X sx k g M o (.slice none 0 0) []] = _
      simp
    rw [e1]
    exact h5
  have On : Hid (∀ os m W, Wd X os m W → Calls Tryz.prog 13 #[.pointer (some ⟨X.p.w, 0, none⟩)] W fun e w' => e = .returned (.pointer (some ⟨X.p.a, 0, none⟩)) ∧ w' = W) := fun os m W h => LR h
  have O5 : Hid (∀ (z2 : List AW) (m : Nat) (W : World), Wd X (AP ++ (Z s0 ++ AI fb 39 [.int .i64 first, .int .i64 nb, .int .i64 k, .int .i64 count] :: z2)) m W →
      Row W sb 98 (Bh X.p.w k hh Rw An o Mv bd) ∧ Row W fb 39 [.int .i64 first, .int .i64 nb, .int .i64 k, .int .i64 count]) := fun z2 m W h => ⟨nu _ _ _ h, by
      rw [← List.append_assoc] at h
      exact h.row (CA (j := 0) By)⟩
  have Aw : Hid (∀ b g sx er w', (P0 b g sx).G2 er w' → (er = 0 ∧ ∃ out, Hl o out ∧ Cl o l out ∧ Wd X (AP ++ Z (s0 ++ out)) (m + nb + Eh once o hh (s0 ++ out)) w') ∨
      (er = 6 ∧ ¬ X.cm ∧ ∃ z m', Ml X xw bd n Z z ∧ Wd X (AP ++ z) m' w')) := fun b g sx er w' h => by
    obtain ⟨z, m', h1, h2⟩ := h
    have tI : nb ≤ PN * rb := by
      have := (wE PN).2
      rcases Nat.lt_or_ge (PN * rb) nb with h3 | h3
      · exact absurd (this h3) (Nat.lt_irrefl _)
      · exact h3
    rcases h1 with ⟨he, out, rfl, ha, D9, rfl⟩ | ⟨he, Dn, hz⟩
    · refine .inl ⟨he, out, ha, ?_, ?_⟩
      · have h3 : Cl o (Rz (rb * hh) l PN).flatten out := D9
        rw [OR, List.take_of_length_le] at h3
        · exact h3
        · rw [hc, Gl]
          exact Nat.le_trans sr (Nat.mul_le_mul_right hh tI)
      · have h3 : Wd X (AP ++ Z (s0 ++ out)) (m + Ac (fun l : List AB => AA hh l.length) (Rz (rb * hh) l PN) + Eh once o hh (s0 ++ out)) w' := h2
        rw [Rb MJ.1, hc, ← IS, Nat.min_eq_right tI] at h3
        exact h3
    · exact .inr ⟨he, Dn, z, m', hz, h2⟩
  have vL : Hid (∀ b g sx i W F' oU C', i * rb < nb → F' = first + i * rb → oU = min rb (nb - i * rb) → C' = min (rb * hh) (count - i * rb * hh) → (P0 b g sx).A i W → Calls Tryz.prog 115 #[.pointer (some ⟨sx, 0, none⟩), .pointer (some ⟨X.p.w, 0, none⟩), .agg #[.int .i64 (F' : Nat), .int .i64 (oU : Nat), .int .i64 k, .int .i64 (C' : Nat)]] W fun e w' => ∃ er, e = .returned (.int .i64 er) ∧ ((er = 0 ∧ (P0 b g sx).A (i + 1) w') ∨ (er = 6 ∧ (P0 b g sx).No w'))) := fun b g sx i W F' oU C' hi hF zT hC hA => by
    have hiP := (wE i).2 hi
    have hlen : (QX l (i * rb * hh) (rb * hh)).length = C' := by rw [M6, hc, hC]
    have IZ := Fg (l := l) (pa := i * rb) (pb := rb) MJ.1
    rw [hlen, hc, ← IS, ← zT] at IZ
    have hC0 : 0 < C' := by
      rcases Nat.eq_zero_or_pos C' with h0 | h0
      · rw [h0, A7] at IZ; omega
      · exact h0
    have Iv := (DY b g sx)
    refine (MP.A.add (DY b g sx) (l := QX l (i * rb * hh) (rb * hh)) ?_ hlen ⟨hC0, by rw [hC]; omega⟩ hok.Ow MJ.1 IZ.symm (by rw [hF]; omega) ?_ ?_ hA).mono ?_
    · show (Rz (rb * hh) l PN)[i]? = _
      rw [iQ hiP, Gl]
    · rw [hF]; exact B4.part MJ.1 (i * rb) rb
    · show Ac AW.gw (AP ++ Z s0) + M + (Rz (rb * hh) l PN).length * X.sz ≤ X.rm
      rw [M7]; exact hroom
    · rintro e w' (⟨he, h3⟩ | ⟨he, h3⟩)
      · exact ⟨0, he, .inl ⟨rfl, h3⟩⟩
      · exact ⟨6, he, .inr ⟨rfl, h3⟩⟩
  have HPT : Hid (∀ b g sx i W a F' oU C', a = i * rb → i * rb < nb → F' = first + i * rb → oU = min rb (nb - i * rb) → C' = min (rb * hh) (count - i * rb * hh) → (P0 b g sx).A i W → Calls Tryz.prog 95 #[.pointer (some ⟨sb, 0, none⟩), .agg #[.int .i64 first, .int .i64 nb, .int .i64 k, .int .i64 count], .int .i64 (a : Nat), .int .i64 rb] W fun e w' => e = .returned (.agg #[.int .i64 (F' : Nat), .int .i64 (oU : Nat), .int .i64 k, .int .i64 (C' : Nat)]) ∧ (P0 b g sx).A i w') := fun b g sx i W a F' oU C' ha hi hF zT hC hA => by
    subst ha
    obtain ⟨cur, q, h, lv, hs, hq, nT, hl, hw⟩ := hA
    have hbs := Fi MJ.1 count (i * rb)
    have hle : i * rb * hh ≤ count := by
      rcases Nat.lt_or_ge (i * rb * hh) count with h1 | h1
      · omega
      · rw [Nat.sub_eq_zero_of_le h1, A7, ← IS] at hbs; omega
    have hrow : Row W sb 98 (Bh X.p.w k hh Rw An o Mv bd) := by
      have Ek : Wd X (AP ++ Z s0 ++ ((P0 b g sx).bx :: CX b g M k cur :: (P0 b g sx).st lv h :: q.map (Y6 X))) (m + i + Eh once o hh s0) W := hw
      rw [List.append_assoc] at Ek
      exact nu _ _ _ Ek
    have nE : first ≤ 2000000 ∧ nb ≤ 2000000 ∧ count ≤ 100000000 ∧ i * rb ≤ nb ∧ rb ≤ 100000000 ∧ hh ≤ 254 := ⟨by omega, by omega, by omega, by omega, by omega, MJ.2⟩
    have nC := Sh (pa := i * rb) (pb := rb) hrow nE hle
    rw [← hF, ← zT, ← hC] at nC
    unfold DA at nC
    refine nC.mono ?_
    rintro e w' ⟨he, hb⟩
    exact ⟨he, cur, q, h, lv, hs, hq, nT, hl, hw.below hb⟩
  have eS : Hid (∀ b g sx z cur lv h q m W, Wd X ((P0 b g sx).os z cur ((P0 b g sx).st lv h) q) m W → Row W sb 98 (Bh X.p.w k hh Rw An o Mv bd) ∧ Row W fb 39 [.int .i64 first, .int .i64 nb, .int .i64 k, .int .i64 count]) := fun b g sx z cur lv h q m W hw => by
    have Ek : Wd X (AP ++ z ++ (AI fb 39 [.int .i64 first, .int .i64 nb, .int .i64 k, .int .i64 count] :: CX b g M k cur :: (P0 b g sx).st lv h :: q.map (Y6 X))) m W := hw
    refine ⟨?_, Ek.row (CA (j := 0) rfl)⟩
    rw [List.append_assoc] at Ek
    exact nu _ _ _ Ek
  have Yy : Hid (∀ b g sx i W, (P0 b g sx).A i W → Row W sb 98 (Bh X.p.w k hh Rw An o Mv bd) ∧ Row W fb 39 [.int .i64 first, .int .i64 nb, .int .i64 k, .int .i64 count]) := fun b g sx i W hA => by
    obtain ⟨cur, q, h, lv, hs, hq, nT, hl, hw⟩ := hA
    exact eS.out _ _ _ _ _ _ _ _ _ _ hw
  have HRN : Hid (∀ b g sx W, (P0 b g sx).No W → Row W sb 98 (Bh X.p.w k hh Rw An o Mv bd) ∧ Row W fb 39 [.int .i64 first, .int .i64 nb, .int .i64 k, .int .i64 count]) := fun b g sx W hA => by
    obtain ⟨_, z, cur, lv, h, q, m', _, _, hw⟩ := hA
    exact eS.out _ _ _ _ _ _ _ _ _ _ hw
  have jT : Hid (∀ b g sx i W W', (P0 b g sx).A i W → Below W.heap.size W W' → (P0 b g sx).A i W') := fun b g sx i W W' h hb => h.below hb
  have jD : Hid (∀ b g sx W, (P0 b g sx).A PN W → Calls Tryz.prog 71 #[.iface 184 (.pointer (some ⟨sx, 0, none⟩)), .iface tT vT] W fun e w' => (e = .returned (.int .i64 0) ∧ (P0 b g sx).G0 0 w') ∨ (e = .returned (.int .i64 6) ∧ (P0 b g sx).G0 6 w')) := fun b g sx W hA => by
    have hPl : (P0 b g sx).rs.length = PN := M7
    rw [← hPl] at hA
    obtain ⟨n', hJ⟩ := hA.start (DY b g sx)
    refine (hJ.mO (DY b g sx)).mono ?_
    rintro e w' (⟨he, h3⟩ | ⟨he, h3⟩)
    · exact .inl ⟨he, h3.fin (DY b g sx)⟩
    · exact .inr ⟨he, h3.fin⟩
  have jK : Hid (∀ b g sx W, (P0 b g sx).No W → (P0 b g sx).G0 6 W) := fun b g sx W h => h.fin
  have DJ : Hid (∀ b g sx er u W, (P0 b g sx).G0 er W → CallsD Tryz.prog 114 #[.pointer (some ⟨sx, 0, none⟩)] u W fun e u' w' => u' = u ∧ (e = .returned (.tuple #[]) ∧ (P0 b g sx).G1 er w')) := fun b g sx er u W h => MP.G0.close u h
  have qX : Hid (∀ b g sx er u W, (P0 b g sx).G1 er W → CallsD Tryz.prog 80 #[.pointer (some ⟨X.p.a, 0, none⟩), .pointer (some ⟨b, 0, none⟩)] u W fun e u' w' => u' = u ∧ (e = .returned (.bool true) ∧ (P0 b g sx).G2 er w')) := fun b g sx er u W h => MP.G1.release (DY b g sx) u h
  have qh := Lib.hid h1
  have dQ := Lib.hid (show Row W1 sb 98 (Bh X.p.w k hh Rw An o Mv bd) from h1.row (Ag (Ag Li)))
  have LG := Lib.hid Bl
  have uf := Lib.hid wE
  have HMM := Lib.hid hM
  have eW := Lib.hid hmn
  have hmul : (mn : Int) * (k : Int) = (M : Int) := by rw [← hM]; exact (Int.natCast_mul mn k).symm
  have Ir : (if nb < An then (nb : Int) else (An : Int)) = (mn : Int) := by rw [← hmn]; split <;> omega
  have sV : (if (nb : Int) < (An : Int) then (nb : Int) else (An : Int)) = (mn : Int) := by rw [← hmn]; split <;> omega
  have AE5 : nb ≤ 100000 := by omega
  have AE7 : mn ≤ 100000 := by omega
  have jU := Lib.hid (On.out _ _ _ (h1.drewN 1))
  rw [show W1.drewN 1 = W1.drew from rfl] at jU
  clear h h1 Am Bl B8 hok B4 hroom hn nu sr IS wE zR VC hM hmn DY hc Kp hbd eS
  go_enter_defers Tryz.func94, Tryz.ntmps94
  go_upto_region 1 with (fail)
  rw [← Ef.out]
  clear Ef
  have xp : IntKind.i64.wrap (M : Int) = (M : Int) := IntWalk.i64_in _ (by omega)
  have TP := Vj.out
  rw [← xp] at TP
  have pN := Lib.hid TP
  have HWM := Lib.hid xp
  have a4 : W1.drew.cell? ⟨sb, 4, none⟩ = some (.pointer (some ⟨X.p.w, 0, none⟩)) := dQ.out.cell 4
  have a3 : W1.drew.cell? ⟨sb, 3, none⟩ = some (.int .i64 An) := dQ.out.cell 3
  have a0 : W1.drew.cell? ⟨sb, 0, none⟩ = some (.int .i64 k) := dQ.out.cell 0
  have b1 : W1.drew.cell? ⟨fb, 1, none⟩ = some (.int .i64 nb) := LG.out.cell 1
  clear TP Vj xp
  go_region_held3 (fun w' => w'.cell? ⟨sb, 4, none⟩ = some (.pointer (some ⟨X.p.w, 0, none⟩)) ∧ w'.cell? ⟨sb, 3, none⟩ = some (.int .i64 An) ∧ w'.cell? ⟨sb, 0, none⟩ = some (.int .i64 k) ∧ w'.cell? ⟨fb, 1, none⟩ = some (.int .i64 nb)) (first | with_reducible exact ⟨a4, a3, a0, b1⟩ | with_reducible exact q4)
    (first
      | (go_at_call 13; (with_reducible refine jU.out.mono ?_); rintro e w4 ⟨rfl, rfl⟩)
      | (go_at_call 63; (with_reducible refine pN.out.mono ?_); rintro e w4 ⟨b, g, rfl, h4⟩; obtain ⟨H4, q4⟩ : Hid (Wd X (AP ++ (Z s0 ++ [AI fb 39 [.int .i64 first, .int .i64 nb, .int .i64 k, .int .i64 count], CX b g M k []])) (m + Eh once o hh s0) w4) ∧ (w4.cell? ⟨sb, 4, none⟩ = some (.pointer (some ⟨X.p.w, 0, none⟩)) ∧ w4.cell? ⟨sb, 3, none⟩ = some (.int .i64 An) ∧ w4.cell? ⟨sb, 0, none⟩ = some (.int .i64 k) ∧ w4.cell? ⟨fb, 1, none⟩ = some (.int .i64 nb)) := ⟨h4, (O5.out _ _ _ h4).1.cell 4, (O5.out _ _ _ h4).1.cell 3, (O5.out _ _ _ h4).1.cell 0, (O5.out _ _ _ h4).2.cell 1⟩))
  all_goals
    rw [HWM.out]
    have vP := Lib.hid (On.out _ _ _ h4)
    have s4 : w4.cell? ⟨sb, 4, none⟩ = some (.pointer (some ⟨X.p.w, 0, none⟩)) := q4.1
    clear a4 a3 a0 b1 q4 pN jU dQ LG qh h4
    go_wp2_with fail
    refine vP.out.mono ?_
    rintro e w5 ⟨rfl, EJ⟩
    subst EJ
    clear vP s4
    have wI := H4.out.drewN 1
    rw [show w5.drewN 1 = w5.drew from rfl] at wI
    have DV := Lib.hid (O5.out _ _ _ wI)
    have wM : Hid (Row w5.drew b 126 [.slice (some ⟨g, 0, none⟩) M M]) := by
      have h6 : Wd X (AP ++ Z s0 ++ [AI fb 39 [.int .i64 first, .int .i64 nb, .int .i64 k, .int .i64 count], CX b g M k []]) (m + Eh once o hh s0) w5.drew := by rw [List.append_assoc]; exact wI
      exact (h6.at_ (CA (j := 1) By)).1
    have En : Below w5.heap.size w5 ((w5.alloc (.cells #[.int .i64 k, .slice (some ⟨g, 0, none⟩) M M, .int .i64 o.a, .int .i64 o.b, .int .i64 o.c, .int .i64 o.d, .int .i64 o.e, .slice none 0 0] 187)).drew) := ((Below.refl w5.heap.size w5).alloc (Nat.le_refl _) _).drew
    have hrw := Row.drewN (heap_alloc_new w5 (.cells #[.int .i64 k, .slice (some ⟨g, 0, none⟩) M M, .int .i64 o.a, .int .i64 o.b, .int .i64 o.c, .int .i64 o.d, .int .i64 o.e, .slice none 0 0] 187) : Row _ _ 187 (Gg k g M M o (.slice none 0 0))) 1
    rw [show ∀ w : World, w.drewN 1 = w.drew from fun _ => rfl] at hrw
    have HA5 := Lib.hid (dx.out b g w5.heap.size w5 _ H4.out En hrw (Nat.le_refl _))
    have nr : ∀ W, (Row W sb 98 (Bh X.p.w k hh Rw An o Mv bd) ∧ Row W fb 39 [.int .i64 first, .int .i64 nb, .int .i64 k, .int .i64 count]) → Row W b 126 [.slice (some ⟨g, 0, none⟩) M M] → (W.cell? ⟨sb, 0, none⟩ = some (.int .i64 k) ∧ W.cell? ⟨b, 0, none⟩ = some (.slice (some ⟨g, 0, none⟩) M M) ∧ W.cell? ⟨sb, 5, none⟩ = some (.int .i64 o.a) ∧ W.cell? ⟨sb, 6, none⟩ = some (.int .i64 o.b) ∧ W.cell? ⟨sb, 7, none⟩ = some (.int .i64 o.c) ∧ W.cell? ⟨sb, 8, none⟩ = some (.int .i64 o.d) ∧ W.cell? ⟨sb, 9, none⟩ = some (.int .i64 o.e)) := fun W h1 h2 => ⟨h1.1.cell 0, h2.cell 0, h1.1.cell 5, h1.1.cell 6, h1.1.cell 7, h1.1.cell 8, h1.1.cell 9⟩
    have s1 := nr _ DV.out wM.out
    have DD : Below w5.heap.size w5.drew ((w5.alloc (.cells #[.int .i64 k, .slice (some ⟨g, 0, none⟩) M M, .int .i64 o.a, .int .i64 o.b, .int .i64 o.c, .int .i64 o.d, .int .i64 o.e, .slice none 0 0] 187)).drew) := by
      have h7 : Below w5.drew.heap.size w5.drew (w5.drew.alloc (.cells #[.int .i64 k, .slice (some ⟨g, 0, none⟩) M M, .int .i64 o.a, .int .i64 o.b, .int .i64 o.c, .int .i64 o.d, .int .i64 o.e, .slice none 0 0] 187)) := (Below.refl _ _).alloc (Nat.le_refl _) _
      exact h7
    have s2 := nr _ (O5.out _ _ _ (H4.out.below En)) (wM.out.below DD wM.out.lt)
    clear nr En hrw wI DD DV wM
    go_wp2_with fail
    go_region_held3 (fun W => W.cell? ⟨sb, 0, none⟩ = some (.int .i64 k) ∧ W.cell? ⟨b, 0, none⟩ = some (.slice (some ⟨g, 0, none⟩) M M) ∧ W.cell? ⟨sb, 5, none⟩ = some (.int .i64 o.a) ∧ W.cell? ⟨sb, 6, none⟩ = some (.int .i64 o.b) ∧ W.cell? ⟨sb, 7, none⟩ = some (.int .i64 o.c) ∧ W.cell? ⟨sb, 8, none⟩ = some (.int .i64 o.d) ∧ W.cell? ⟨sb, 9, none⟩ = some (.int .i64 o.e)) (first | with_reducible exact s1 | with_reducible exact s2) (fail)
    clear s1 s2 H4
    generalize (w5.alloc (.cells #[.int .i64 k, .slice (some ⟨g, 0, none⟩) M M, .int .i64 o.a, .int .i64 o.b, .int .i64 o.c, .int .i64 o.d, .int .i64 o.e, .slice none 0 0] 187)).drew = w6 at *
    generalize w5.heap.size = sx at *
    have AB0 := Lib.hid (HPT.out b g sx)
    have vK := Lib.hid (vL.out b g sx)
    have o5 := Lib.hid (Yy.out b g sx)
    have AA6 := Lib.hid (HRN.out b g sx)
    have AB1 := Lib.hid (jD.out b g sx)
    have AB7 := Lib.hid (jK.out b g sx)
    have pS := Lib.hid (DJ.out b g sx)
    have oy := Lib.hid (qX.out b g sx)
    have jL := Lib.hid (Aw.out b g sx)
    have AC1 := Lib.hid (jT.out b g sx)
    clear HPT vL Yy HRN jD jK DJ qX Aw dx On O5 jT
    generalize (P0 b g sx).A = FA at *
    generalize (P0 b g sx).No = FN at *
    generalize (P0 b g sx).G0 = F0 at *
    generalize (P0 b g sx).G1 = F1 at *
    generalize (P0 b g sx).G2 = F2 at *
    clear P0
    go_wp2_with fail
    go_loopw [12] (fun iv wr => ∃ (i a : Nat), iv = .int .i64 (a : Int) ∧ Hid (a = i * rb) ∧ a ≤ 1100000 ∧ i ≤ PN ∧ Hid (FA i wr)) (fun iv _ => nb - (intOf iv).toNat)
    case atStart => exact ⟨0, 0, rfl, by unfold Hid; simp, by omega, by omega, HA5⟩
    case round =>
      obtain ⟨i, a, rfl, jR, ZE, hiP, O7⟩ := hrel
      clear HA5
      have hR := o5.out i wr O7.out
      have t1 : wr.cell? ⟨fb, 1, none⟩ = some (.int .i64 nb) := hR.2.cell 1
      by_cases hlt : a < nb
      · have hi : i * rb < nb := by rw [← jR.out]; exact hlt
        obtain ⟨F', hF⟩ : ∃ F', F' = first + i * rb := ⟨_, rfl⟩
        obtain ⟨N', hN⟩ : ∃ N', N' = min rb (nb - i * rb) := ⟨_, rfl⟩
        obtain ⟨C', hC⟩ : ∃ C', C' = min (rb * hh) (count - i * rb * hh) := ⟨_, rfl⟩
        have ny : FA i wr.drew := AC1.out i wr _ O7.out (AG (Below.refl _ _))
        have uh := Lib.hid (AB0.out i wr.drew a F' N' C' jR.out hi hF hN hC ny)
        have vM := Lib.hid (fun W => vK.out i W F' N' C' hi hF hN hC)
        have yp : i + 1 ≤ PN := (uf.out i).2 hi
        have HCS : Hid (∀ W, FA i W → (W.cell? ⟨sb, 4, none⟩ = some (.pointer (some ⟨X.p.w, 0, none⟩)) ∧ W.cell? ⟨fb, 0, none⟩ = some (.int .i64 first) ∧ W.cell? ⟨fb, 1, none⟩ = some (.int .i64 nb) ∧ W.cell? ⟨fb, 2, none⟩ = some (.int .i64 k) ∧ W.cell? ⟨fb, 3, none⟩ = some (.int .i64 count))) := fun W h => by
          have h1 := o5.out i W h
          exact ⟨h1.1.cell 4, h1.2.cell 0, h1.2.cell 1, h1.2.cell 2, h1.2.cell 3⟩
        have HCE : Hid (∀ (er : Int) W, ((er = 0 ∧ FA (i + 1) W) ∨ (er = 6 ∧ FN W)) → (W.cell? ⟨sb, 4, none⟩ = some (.pointer (some ⟨X.p.w, 0, none⟩)) ∧ W.cell? ⟨fb, 0, none⟩ = some (.int .i64 first) ∧ W.cell? ⟨fb, 1, none⟩ = some (.int .i64 nb) ∧ W.cell? ⟨fb, 2, none⟩ = some (.int .i64 k) ∧ W.cell? ⟨fb, 3, none⟩ = some (.int .i64 count))) := fun er W h => by
          rcases h with ⟨_, h⟩ | ⟨_, h⟩
          · have h1 := o5.out (i + 1) W h
            exact ⟨h1.1.cell 4, h1.2.cell 0, h1.2.cell 1, h1.2.cell 2, h1.2.cell 3⟩
          · have h1 := AA6.out W h
            exact ⟨h1.1.cell 4, h1.2.cell 0, h1.2.cell 1, h1.2.cell 2, h1.2.cell 3⟩
        have s3 := HCS.out _ ny
        clear hF hN hC hR ny
        go_wp2_with fail
        go_region_held3 (fun W => W.cell? ⟨sb, 4, none⟩ = some (.pointer (some ⟨X.p.w, 0, none⟩)) ∧ W.cell? ⟨fb, 0, none⟩ = some (.int .i64 first) ∧ W.cell? ⟨fb, 1, none⟩ = some (.int .i64 nb) ∧ W.cell? ⟨fb, 2, none⟩ = some (.int .i64 k) ∧ W.cell? ⟨fb, 3, none⟩ = some (.int .i64 count)) (first | with_reducible exact s3 | with_reducible exact q5 | with_reducible exact q6)
          (first
            | (go_at_call 95; (with_reducible refine uh.out.mono ?_); rintro e w7 ⟨rfl, h7⟩; have q5 := HCS.out w7 h7; have q6 := q5; have H7 := Lib.hid (vM.out w7 h7))
            | (go_at_call 115; (with_reducible refine H7.out.mono ?_); rintro e w8 ⟨er, rfl, h8⟩; have q6 := HCE.out er w8 h8; have q5 := q6))
        all_goals
          have H8 := Lib.hid h8
          clear s3 q5 q6 H7 uh vM HCS HCE h7 h8 O7 t1
          rcases H8.out with ⟨rfl, h9⟩ | ⟨rfl, h9⟩
          · have H9 := Lib.hid h9
            clear h9 H8
            have ES : Hid (a + rb = (i + 1) * rb) := by unfold Hid; rw [Nat.add_mul, Nat.one_mul, ← jR.out]
            go_wp2
            go_roundw
            case rel => exact ⟨i + 1, a + rb, by go_num, ES, by omega, yp, H9⟩
            case measure => simp [intOf]; omega
          · have Ql := Lib.hid (AB7.out _ h9)
            clear h9 H8
            go_wp2
            refine leaves_cons (f := 114) (args := #[.pointer (some ⟨sx, 0, none⟩)]) (by simp) (by simp [go_sem]) ?_
            refine (pS.out 6 _ _ Ql.out).mono ?_
            rintro e u1 Bs ⟨rfl, rfl, Eo⟩
            refine leaves_cons (f := 80) (args := #[.pointer (some ⟨X.p.a, 0, none⟩), .pointer (some ⟨b, 0, none⟩)]) (by simp [settle]) (by simp [go_sem]) ?_
            refine (oy.out 6 _ _ Eo).mono ?_
            rintro e u2 Vs ⟨rfl, rfl, J0⟩
            refine ⟨.int .i64 6, by simp [results, Tryz.results94, go_sem], ?_⟩
            rcases jL.out 6 Vs J0 with ⟨Jb, IW⟩ | ⟨Jb, IW⟩
            · exact absurd Jb (by decide)
            · exact .inr ⟨rfl, IW⟩
      · have hnP : i = PN := by
          rcases Nat.lt_or_ge i PN with h1 | h1
          · exact absurd (by rw [jR.out]; exact (uf.out i).1 h1) hlt
          · omega
        subst hnP
        have HPX := Lib.hid (AB1.out wr O7.out)
        clear O7 hR
        go_wp2_with fail
        refine HPX.out.mono ?_
        rintro e w9 (⟨rfl, h9⟩ | ⟨rfl, h9⟩)
        · have Ql := Lib.hid h9
          clear h9
          go_wp2
          refine leaves_cons (f := 114) (args := #[.pointer (some ⟨sx, 0, none⟩)]) (by simp) (by simp [go_sem]) ?_
          refine (pS.out 0 _ _ Ql.out).mono ?_
          rintro e u1 Bs ⟨rfl, rfl, Eo⟩
          refine leaves_cons (f := 80) (args := #[.pointer (some ⟨X.p.a, 0, none⟩), .pointer (some ⟨b, 0, none⟩)]) (by simp [settle]) (by simp [go_sem]) ?_
          refine (oy.out 0 _ _ Eo).mono ?_
          rintro e u2 Vs ⟨rfl, rfl, J0⟩
          refine ⟨.int .i64 0, by simp [results, Tryz.results94, go_sem], ?_⟩
          rcases jL.out 0 Vs J0 with ⟨Jb, IW⟩ | ⟨Jb, IW⟩
          · exact .inl ⟨rfl, IW⟩
          · exact absurd Jb (by decide)
        · have Ql := Lib.hid h9
          clear h9
          go_wp2
          refine leaves_cons (f := 114) (args := #[.pointer (some ⟨sx, 0, none⟩)]) (by simp) (by simp [go_sem]) ?_
          refine (pS.out 6 _ _ Ql.out).mono ?_
          rintro e u1 Bs ⟨rfl, rfl, Eo⟩
          refine leaves_cons (f := 80) (args := #[.pointer (some ⟨X.p.a, 0, none⟩), .pointer (some ⟨b, 0, none⟩)]) (by simp [settle]) (by simp [go_sem]) ?_
          refine (oy.out 6 _ _ Eo).mono ?_
          rintro e u2 Vs ⟨rfl, rfl, J0⟩
          refine ⟨.int .i64 6, by simp [results, Tryz.results94, go_sem], ?_⟩
          rcases jL.out 6 Vs J0 with ⟨Jb, IW⟩ | ⟨Jb, IW⟩
          · exact absurd Jb (by decide)
          · exact .inr ⟨rfl, IW⟩
end
section
variable {X : Cx} {os os' : List AW} {m : Nat} {W : World} {G : Nat → Prop} {D : St} {A : Ar} {S : Sp}
theorem jr{α:Type}{R:α→α→Prop}{l:List α}(h:∀(i j:Nat) (a b:α),l[i]?=some a→l[j]?=some b→i≠j→R a b):l.Pairwise R:=by
 refine List.pairwise_iff_getElem.2 fun i j hi hj Fq=>h i j _ _ (List.getElem?_eq_getElem hi) (List.getElem?_eq_getElem hj) (by omega)
theorem jq{α:Type}{R:α→α→Prop}(hs:∀a b,R a b→R b a){l:List α}(h:l.Pairwise R)(i j:Nat)(a b:α)(ha:l[i]?=some a)(hb:l[j]?=some b)(Fq:i≠j):R a b:=by
 have h1:=List.pairwise_iff_getElem.1 h
 obtain⟨hi,e1⟩:=List.getElem?_eq_some_iff.1 ha
 obtain⟨hj,e2⟩:=List.getElem?_eq_some_iff.1 hb
 rcases Nat.lt_or_gt_of_ne Fq with h2|h2
 ·have h3:=h1 i j hi hj h2;rwa [e1,e2]at h3
 ·have h3:=h1 j i hj hi h2;rw[e1,e2]at h3;exact hs _ _ h3
theorem Pd{α:Type}{f:α→Nat}{l l':List α}(h:l.Perm l'):Ac f l=Ac f l':=(h.map f).sum_nat
theorem Hi.perm (h : Hi X os m W G D A S) (hp : os'.Perm os) : Hi X os' m W G D A S := by
  have PI : ∀ (i : Nat) (a : AW), os'[i]? = some a → ∃ j : Nat, os[j]? = some a := fun i a hi => by
    obtain ⟨j, hj, e⟩ := List.getElem_of_mem (hp.mem_iff.1 (List.mem_of_getElem? hi))
    exact ⟨j, by rw [List.getElem?_eq_getElem hj, e]⟩
  have yL : ∀ (i : Nat) (a : AW), os[i]? = some a → ∃ j : Nat, os'[j]? = some a := fun i a hi => by
    obtain ⟨j, hj, e⟩ := List.getElem_of_mem (hp.mem_iff.2 (List.mem_of_getElem? hi))
    exact ⟨j, by rw [List.getElem?_eq_getElem hj, e]⟩
  have EK : ∀ a b : AW, (∀ k, a.K k → ¬ b.K k) → ∀ k, b.K k → ¬ a.K k := fun a b ZE k hb ha => ZE k ha hb
  have El : ∀ a b : AW, (∀ z, Fp a.ex z → ¬ Fp b.ex z) → ∀ z, Fp b.ex z → ¬ Fp a.ex z := fun a b ZE k hb ha => ZE k ha hb
  exact { h with
    used := by rw [Pd hp]; exact h.used
    ok := fun i a hi => by obtain ⟨j, hj⟩ := PI i a hi; exact h.ok j a hj
    st := fun i a b n hi hg => by obtain ⟨j, hj⟩ := PI i a hi; exact h.st j a b n hj hg
    mem := fun i a hi => by obtain ⟨j, hj⟩ := PI i a hi; exact h.mem j a hj
    QT := fun i a hi => by obtain ⟨j, hj⟩ := PI i a hi; exact h.QT j a hj
    apart := jq EK ((hp.pairwise_iff (fun {a b} => EK a b)).2 (jr h.apart))
    exa := jq El ((hp.pairwise_iff (fun {a b} => El a b)).2 (jr h.exa))
    exs := fun i a hi => by obtain ⟨j, hj⟩ := PI i a hi; exact h.exs j a hj
    free := fun z => by
      rw [h.free z]
      refine ⟨fun ⟨h1, h2⟩ => ⟨h1, fun i a hi => ?_⟩, fun ⟨h1, h2⟩ => ⟨h1, fun i a hi => ?_⟩⟩
      · obtain ⟨j, hj⟩ := PI i a hi; exact h2 j a hj
      · obtain ⟨j, hj⟩ := yL i a hi; exact h2 j a hj
    sum := by rw [Pd hp]; exact h.sum }
theorem Wd.perm(h:Wd X os m W)(hp:os'.Perm os):Wd X os' m W:=by
 obtain⟨G,D,A,S,h⟩:=h
 exact⟨G,D,A,S,h.perm hp⟩
theorem Wd.front{a z:List AW}{x:AW}(h:Wd X (a++z++[x]) m W):Wd X (a++[x]++z) m W:=by
 refine h.perm ?_
 rw[List.append_assoc,List.append_assoc]
 exact List.Perm.append_left a (List.perm_append_comm)
end
structure JP where
 X:Cx
 AP:List AW
 Z:List AB→List AW
 o:AB
 once:Bool
 k:Nat
 hh:Nat
 bd:Nat
 xw:Nat
 tT:Nat
 fP:Nat
 vT:Value
 n:Nat
 m:Nat
 first:Nat
 nb:Nat
 count:Nat
 rb:Nat
 An:Nat
 L:Nat
 l:List AB
structure JP.Ok (P:JP):Prop where
 S:dI P.X P.o P.once P.k P.hh P.bd P.xw P.tT P.fP P.vT P.Z P.n
 f:NA P.first P.nb P.k P.hh P.l P.X.sz
 c:P.l.length=P.count
 src:Src P.AP P.X.sz P.first P.k P.hh P.l
 rb:0<P.rb∧P.rb≤1000000
 An:0<P.An∧P.An≤1000000
 L:P.rb*P.An=P.L
 fst:P.first+P.nb≤2000000
 asc:UA P.o (P.rb*P.hh) P.l
 room:∀s,s.length≤P.bd→Ac AW.gw (P.AP++P.Z s)+P.An*P.k+P.An*P.X.sz≤P.X.rm
 rm:P.X.rm≤1000000
 bd:P.count≤P.bd∧P.bd≤100000
 n:P.X.N+P.m+P.nb+P.bd+3≤1000000
structure JP.oS (P:JP) (i:Nat) (s:List AB):Prop where
 len:s.length=min (i*(P.L*P.hh)) P.count
 asc:UA P.o (P.L*P.hh) s
 cl:Cl P.o (P.l.take (i*(P.L*P.hh))) s
def JP.A(P:JP)(i:Nat)(W:World):Prop:=∃s,P.oS i s∧Wd P.X (P.AP++P.Z s) (P.m+min (i*P.L) P.nb+Eh P.once P.o P.hh s) W
def JP.No(P:JP)(W:World):Prop:=¬P.X.cm∧∃z m',Ml P.X P.xw P.bd P.n P.Z z∧Wd P.X (P.AP++z) m' W
section
variable {P : JP} {i : Nat} {W W' : World}
theorem JP.A.below(h:P.A i W)(hb:Below W.heap.size W W'):P.A i W':=by
 obtain⟨s,h1,h2⟩:=h
 exact⟨s,h1,h2.below hb⟩
theorem iS{o:AB}{q:Nat}{l:List AB}(h:UA o q l)(a j n:Nat):Hl o (QX (QX l (a*q) n) (j*q) q):=by
 have h1:=h (a+j)
 have h2:QX (QX l (a*q) n) (j*q) q=(((l.drop ((a+j)*q)).take q)).take (n-j*q):=by
  unfold QX
  rw[List.drop_take,List.drop_drop,List.take_take,List.take_take,Nat.add_mul,Nat.min_comm]
 rw[h2]
 exact h1.sublist (List.take_sublist _ _)
theorem OS{rb nb:Nat}(h:0<rb)(i:Nat):i<(nb+rb-1)/rb↔i*rb<nb:=by
 rw[Nat.lt_div_iff_mul_lt h];omega
theorem JP.A.merge(hP:P.Ok){Mv:Bool}{js sb Rw:Nat}(Li:P.AP[js]?=some (AI sb 98 (Bh P.X.p.w P.k P.hh Rw P.An P.o Mv P.bd)))(hi:i*P.L<P.nb){F' N' C':Nat}(hF:F'=P.first+i*P.L)(hN:N'=min P.L (P.nb-i*P.L))(hC:C'=min (P.L*P.hh) (P.count-i*P.L*P.hh))(h:P.A i W):
  Calls Tryz.prog 94 #[.pointer (some ⟨sb,0,none⟩),.agg #[.int .i64 (F':Nat),.int .i64 (N':Nat),.int .i64 P.k,.int .i64 (C':Nat)],.int .i64 P.rb,.iface P.tT P.vT] W fun e w'=>∃er,e=.returned (.int .i64 er)∧((er=0∧P.A (i+1) w')∨(er=6∧P.No w')):=by
 obtain⟨s,hp,hw⟩:=h
 have MJ:=hP.f.hh.1
 have IS:P.nb=AA P.hh P.count:=by rw[←hP.c];exact hP.f.bn
 have hlen:(QX P.l (i*P.L*P.hh) (P.L*P.hh)).length=C':=by rw[M6,hP.c,hC]
 have IZ:=Fg (l:=P.l) (pa:=i*P.L) (pb:=P.L) MJ
 rw[hlen,hP.c,←IS,←hN]at IZ
 have hle:i*P.L*P.hh<P.count:=by
  have h1:=Fi MJ P.count (i*P.L)
  rw[←IS]at h1
  rcases Nat.lt_or_ge (i*P.L*P.hh) P.count with h2|h2
  ·exact h2
  ·rw[Nat.sub_eq_zero_of_le h2,A7]at h1;omega
 have eL:i*(P.L*P.hh)=i*P.L*P.hh:=Gl _ _ _
 have Pw:s.length=i*(P.L*P.hh):=by rw[hp.len,eL];omega
 have hbd:=hP.bd
 have hcf:=hP.f.len
 rw[hP.c]at hcf
 have nI:P.nb≤P.count:=by rw[IS];exact BL _ _
 have hn:=hP.n
 have Kp:=hP.fst
 have hL:=hP.L
 have hrb:=hP.rb
 have zS:(N'+P.rb-1)/P.rb≤P.An:=by
  have h1:¬P.An<(N'+P.rb-1)/P.rb:=fun h=>by
   have h2:=(OS hrb.1 _).1 h
   rw[Nat.mul_comm,hL]at h2;omega
  omega
 have AG3:(N'+P.rb-1)/P.rb≤N':=by
  have h1:¬N'<(N'+P.rb-1)/P.rb:=fun h=>by
   have h2:=(OS hrb.1 _).1 h
   have h3:=Nat.le_mul_of_pos_right N' hrb.1
   omega
  omega
 have hroom:=hP.room s (by omega)
 have Bl:min P.An N'*P.k≤P.An*P.k:=Nat.mul_le_mul_right _ (Nat.min_le_left _ _)
 have Av:=Nat.mul_le_mul_right P.X.sz zS
 have Ut:Wd P.X (P.AP++P.Z s) ((P.m+i*P.L)+Eh P.once P.o P.hh s) W:=by
  rw[Nat.min_eq_left (by omega)]at hw;exact hw
 refine(ZU (PN:=(N'+P.rb-1)/P.rb) (s0:=s) hP.S Li Ut ⟨hP.f.kk,hP.f.hh,hP.f.Ow,by rw[hlen];exact IZ.symm,by rw[hlen];omega,by omega,Wg hP.f.fit⟩ hlen (by rw[hF];exact hP.src.part MJ (i*P.L) P.L) hrb hP.An.2 (fun j=>OS hrb.1 j) (by omega) (fun j=>?_) (by omega) hP.rm (by omega) ⟨?_,hbd.2⟩ (by omega)).mono ?_
 ·have h3:i*P.L*P.hh=(i*P.An)*(P.rb*P.hh):=by
   rw[←hL];simp only[Nat.mul_comm,Nat.mul_left_comm]
  rw[h3];exact iS hP.asc _ _ _
 ·rw[Pw,eL,hC];omega
 ·rintro e w' (⟨he,out,h1,h2,h3⟩|⟨he,Dn,z,m',hz,h3⟩)
  ·have Ow:=h2.len
   rw[hlen]at Ow
   have kJ:(i+1)*(P.L*P.hh)=i*(P.L*P.hh)+P.L*P.hh:=by rw[Nat.add_mul,Nat.one_mul]
   refine⟨0,he,.inl ⟨rfl,s++out,⟨?_,?_,?_⟩,?_⟩⟩
   ·rw[List.length_append,←Ow,Pw,kJ,eL,hC];omega
   ·exact Tj hp.asc Pw h1 (by rw[←Ow,hC];omega)
   ·rw[kJ,List.take_add]
    refine cq hp.cl ?_
    rw[eL];exact h2
   ·have h4:P.m+i*P.L+N'=P.m+min ((i+1)*P.L) P.nb:=by
     rw[Nat.add_mul,Nat.one_mul];omega
    rw[h4]at h3;exact h3
  ·exact⟨6,he,.inr ⟨rfl,Dn,z,m',hz,h3⟩⟩
end
section
variable {P : JP} {W : World} {js sb Rw : Nat} {Mv : Bool}
theorem YB{X:Cx}{first nb k count rb An hh bd fb L:Nat}{o:AB}{once:Bool}{FA:Nat→World→Prop}{FN:World→Prop}{tT:TypeId}{vT:Value}(hb:first≤2000000∧nb≤100000∧count≤100000∧rb≤1000000∧An≤1000000∧0<L∧L≤100000000∧hh≤254)(hL:rb*An=L)
  (ZG:∀i W,FA i W→Row W sb 98 (Bh X.p.w k hh Rw An o once bd)∧Row W fb 39 [.int .i64 first,.int .i64 nb,.int .i64 k,.int .i64 count]) (jT:∀i W W',FA i W→Below W.heap.size W W'→FA i W')
  (pJ:∀i,i*L<nb→i*L*hh≤count)
  (HMG:∀i W F' N' C',i*L<nb→F'=first+i*L→N'=min L (nb-i*L)→C'=min (L*hh) (count-i*L*hh)→FA i W→Calls Tryz.prog 94 #[.pointer (some ⟨sb,0,none⟩),.agg #[.int .i64 (F':Nat),.int .i64 (N':Nat),.int .i64 k,.int .i64 (C':Nat)],.int .i64 rb,.iface tT vT] W fun e w'=>∃er,e=.returned (.int .i64 er)∧((er=0∧FA (i+1) w')∨(er=6∧FN w')))
  (Pz:W.heap.size=fb) (h:FA 0 (W.alloc (.cells #[.int .i64 first,.int .i64 nb,.int .i64 k,.int .i64 count] 39))):
  Calls Tryz.prog 77 #[.pointer (some ⟨sb,0,none⟩),.agg #[.int .i64 first,.int .i64 nb,.int .i64 k,.int .i64 count],.int .i64 rb,.iface tT vT] W fun e w'=>
   (e=.returned (.int .i64 0)∧∃i,nb≤i*L∧FA i w')∨(e=.returned (.int .i64 6)∧FN w'):=by
 obtain⟨W1,B8⟩:∃W1,W1=W.alloc (.cells #[.int .i64 first,.int .i64 nb,.int .i64 k,.int .i64 count] 39):=⟨_,rfl⟩
 rw[←B8]at h
 have Ef:=Lib.hid B8
 have HH:=Lib.hid h
 have Ee:=Lib.hid (ZG 0 W1 h)
 have hmul:(rb:Int)*(An:Int)=(L:Int):=by rw[←hL];exact(Int.natCast_mul rb An).symm
 have a3:W1.cell? ⟨sb,3,none⟩=some (.int .i64 An):=Ee.out.1.cell 3
 have AA5:=Lib.hid ZG
 have AC0:=Lib.hid jT
 have AB4:=Lib.hid HMG
 have AB5:=Lib.hid pJ
 have HL:=Lib.hid hL
 clear B8 h ZG jT HMG hL pJ
 go_enter Tryz.func77,Tryz.ntmps77
 go_upto_region 1 with(fail)
 rw[←Ef.out]
 clear Ef Pz
 go_wp2_with fail
 clear a3
 go_loopw [10] (fun iv wr=>∃(i a:Nat),iv=.int .i64 (a:Int)∧Hid (a=i*L)∧a≤100200000∧Hid (FA i wr)) (fun iv _=>nb-(intOf iv).toNat)
 case atStart=>exact⟨0,0,rfl,by unfold Hid;simp,by omega,HH⟩
 case round=>
  obtain⟨i,a,rfl,jR,ZE,O7⟩:=hrel
  clear HH Ee
  have hR:=AA5.out i wr O7.out
  have t0:wr.cell? ⟨fb,0,none⟩=some (.int .i64 first):=hR.2.cell 0
  have t1:wr.cell? ⟨fb,1,none⟩=some (.int .i64 nb):=hR.2.cell 1
  have t2:wr.cell? ⟨fb,2,none⟩=some (.int .i64 k):=hR.2.cell 2
  have t3:wr.cell? ⟨fb,3,none⟩=some (.int .i64 count):=hR.2.cell 3
  by_cases hlt:a<nb
  ·have hi:i*L<nb:=by rw[←jR.out];exact hlt
   obtain⟨F',hF⟩:∃F',F'=first+i*L:=⟨_,rfl⟩
   obtain⟨N',hN⟩:∃N',N'=min L (nb-i*L):=⟨_,rfl⟩
   obtain⟨C',hC⟩:∃C',C'=min (L*hh) (count-i*L*hh):=⟨_,rfl⟩
   have uh:Hid (Calls Tryz.prog 95 #[.pointer (some ⟨sb,0,none⟩),.agg #[.int .i64 first,.int .i64 nb,.int .i64 k,.int .i64 count],.int .i64 (a:Nat),.int .i64 L] wr fun e w'=>e=.returned (.agg #[.int .i64 (F':Nat),.int .i64 (N':Nat),.int .i64 k,.int .i64 (C':Nat)])∧FA i w'):=by
    have nE:first≤2000000∧nb≤2000000∧count≤100000000∧i*L≤nb∧L≤100000000∧hh≤254:=⟨by omega,by omega,by omega,by omega,by omega,by omega⟩
    have nC:=Sh (pa:=i*L) (pb:=L) hR.1 nE (AB5.out i hi)
    rw[←hF,←hN,←hC,←jR.out]at nC
    unfold DA at nC
    refine nC.mono ?_
    rintro e w' ⟨he,hb⟩
    exact⟨he,AC0.out i wr w' O7.out hb⟩
   have uv:=Lib.hid (fun W=>AB4.out i W F' N' C' hi hF hN hC)
   clear hF hN hC hR O7
   go_wp2_with fail
   refine uh.out.mono ?_
   rintro e w7 ⟨rfl,h7⟩
   have H7:=Lib.hid (uv.out w7 h7)
   clear h7 uh uv
   go_wp2_with fail
   refine H7.out.mono ?_
   rintro e w8 ⟨er,rfl,h8⟩
   rcases h8 with⟨rfl,h9⟩|⟨rfl,h9⟩
   ·have H9:=Lib.hid h9
    clear h9 H7 t0 t1 t2 t3
    have ES:Hid (a+L=(i+1)*L):=by unfold Hid;rw[Nat.add_mul,Nat.one_mul,←jR.out]
    go_wp2
    go_roundw
    case rel=>exact⟨i+1,a+L,by go_num,ES,by omega,H9⟩
    case measure=>simp[intOf];omega
   ·have H9:=Lib.hid h9
    clear h9 H7
    go_wp2
    go_ret
    exact .inr ⟨rfl,H9.out⟩
  ·have hge:nb≤i*L:=by rw[←jR.out];omega
   have vA:=Lib.hid hge
   clear hge hR
   go_wp2
   go_ret
   exact .inl ⟨rfl,i,vA.out,O7.out⟩
theorem ew (hP : P.Ok) (Li : P.AP[js]? = some (AI sb 98 (Bh P.X.p.w P.k P.hh Rw P.An P.o Mv P.bd))) (wG : P.L ≤ 100000000) (h : Wd P.X (P.AP ++ P.Z []) P.m W) :
    Calls Tryz.prog 77 #[.pointer (some ⟨sb, 0, none⟩), .agg #[.int .i64 P.first, .int .i64 P.nb, .int .i64 P.k, .int .i64 P.count], .int .i64 P.rb, .iface P.tT P.vT] W fun e w' =>
      (e = .returned (.int .i64 0) ∧ ∃ s, s.length = P.count ∧ UA P.o (P.L * P.hh) s ∧ Cl P.o P.l s ∧ Wd P.X (P.AP ++ P.Z s) (P.m + P.nb + Eh P.once P.o P.hh s) w') ∨
      (e = .returned (.int .i64 6) ∧ P.No w') := by
  have B8 : Below W.heap.size W (W.alloc (.cells #[.int .i64 P.first, .int .i64 P.nb, .int .i64 P.k, .int .i64 P.count] 39)) := (Below.refl _ _).alloc (Nat.le_refl _) _
  let bx : AW := AI W.heap.size 39 [.int .i64 P.first, .int .i64 P.nb, .int .i64 P.k, .int .i64 P.count]
  let Q : JP := { P with AP := P.AP ++ [bx] }
  have Ry : ∀ z, Ac AW.gw (P.AP ++ [bx] ++ z) = Ac AW.gw (P.AP ++ z) := fun z => by
    rw [BO, BO, BO, Bf]
    show _ + (0 + 0) + _ = _
    omega
  have hQ : Q.Ok := { hP with
    src := hP.src.app
    room := fun s hs => by
      show Ac AW.gw (P.AP ++ [bx] ++ P.Z s) + _ + _ ≤ _
      rw [Ry]; exact hP.room s hs }
  have yA : Q.AP[js]? = some (AI sb 98 (Bh P.X.p.w P.k P.hh Rw P.An P.o Mv P.bd)) := Ag Li
  have h1 : Wd P.X (P.AP ++ [bx] ++ P.Z []) P.m (W.alloc (.cells #[.int .i64 P.first, .int .i64 P.nb, .int .i64 P.k, .int .i64 P.count] 39)) :=
    (h.new B8 (heap_alloc_new W (.cells #[.int .i64 P.first, .int .i64 P.nb, .int .i64 P.k, .int .i64 P.count] 39)) (Nat.le_refl _)).front
  have DX : Eh P.once P.o P.hh [] = 0 := by
    have h2 := Jk P.once P.o P.hh []
    simp at h2; exact h2
  have hA0 : Q.A 0 (W.alloc (.cells #[.int .i64 P.first, .int .i64 P.nb, .int .i64 P.k, .int .i64 P.count] 39)) := ⟨[], ⟨by simp, fun j => by rw [List.drop_nil, List.take_nil]; exact K7 _, by simp; exact Cl.refl _ _⟩, by
    show Wd P.X (P.AP ++ [bx] ++ P.Z []) (P.m + min (0 * P.L) P.nb + Eh P.once P.o P.hh []) _
    rw [DX, Nat.zero_mul, Nat.zero_min]; exact h1⟩
  have MJ := hP.f.hh.1
  have IS : P.nb = AA P.hh P.count := by rw [← hP.c]; exact hP.f.bn
  have D9 := hP.f.len
  rw [hP.c] at D9
  have YO : P.nb ≤ P.count := by rw [IS]; exact BL _ _
  have hL0 : 0 < P.L := by rw [← hP.L]; exact Nat.mul_pos hP.rb.1 hP.An.1
  refine (YB (X := P.X) (first := P.first) (nb := P.nb) (k := P.k) (count := P.count) (rb := P.rb) (An := P.An) (hh := P.hh) (o := P.o) (once := Mv) (bd := P.bd) (Rw := Rw) (FA := Q.A) (FN := Q.No) (L := P.L) ⟨hP.f.fst, by omega, D9, hP.rb.2, hP.An.2, hL0, wG, hP.f.hh.2.2⟩ hP.L (fun i W ⟨s, _, hw⟩ => ?_) (fun i W W' h hb => h.below hb) (fun i hi => ?_) (fun i W F' N' C' hi hF hN hC hA => JP.A.merge hQ yA hi hF hN hC hA) rfl hA0).mono ?_
  · have Ek : Wd P.X (P.AP ++ [bx] ++ P.Z s) _ W := hw
    refine ⟨Ek.row (Ag (Ag Li)), ?_⟩
    have Mj : (P.AP ++ [bx] ++ P.Z s)[P.AP.length]? = some bx := by rw [List.append_assoc]; exact AM P.AP _ 0
    exact Ek.row Mj
  · have hi : i * P.L < P.nb := hi
    have h2 := Fi MJ P.count (i * P.L)
    rw [← IS] at h2
    rcases Nat.lt_or_ge (i * P.L * P.hh) P.count with h3 | h3
    · omega
    · rw [Nat.sub_eq_zero_of_le h3, A7] at h2; omega
  · rintro e w' (⟨he, i, hge, s, hp, hw⟩ | ⟨he, Dn, z, m', hz, hw⟩)
    · have Ek : Wd P.X (P.AP ++ bx :: P.Z s) (P.m + min (i * P.L) P.nb + Eh P.once P.o P.hh s) w' := by
        have eD : Wd P.X (P.AP ++ [bx] ++ P.Z s) (P.m + min (i * P.L) P.nb + Eh P.once P.o P.hh s) w' := hw
        rw [List.append_assoc] at eD; exact eD
      have h3 := Ek.cut rfl rfl
      rw [Nat.min_eq_right hge] at h3
      have WW : P.count ≤ i * (P.L * P.hh) := by
        rw [Gl]
        refine Nat.le_trans (I4 MJ P.count) ?_
        rw [← IS]; exact Nat.mul_le_mul_right _ hge
      have Bm : s.length = min (i * (P.L * P.hh)) P.count := hp.len
      have p8 : Cl P.o (P.l.take (i * (P.L * P.hh))) s := hp.cl
      rw [List.take_of_length_le (by rw [hP.c]; exact WW)] at p8
      exact .inl ⟨he, s, by rw [Bm]; omega, hp.asc, p8, h3⟩
    · have Ek : Wd P.X (P.AP ++ bx :: z) m' w' := by
        have eD : Wd P.X (P.AP ++ [bx] ++ z) m' w' := hw
        rw [List.append_assoc] at eD; exact eD
      exact .inr ⟨he, Dn, z, m', hz, Ek.cut rfl rfl⟩
end
structure VP where
 X:Cx
 AP:List AW
 o:AB
 on:Bool
 k:Nat
 hh:Nat
 bd:Nat
 ob:Nat
 m:Nat
 a:Nat
 R:List AB→Prop
def VP.bx(P:VP)(F N k C:Nat):AW:=AI P.ob 39 [.int .i64 (F:Nat),.int .i64 (N:Nat),.int .i64 (k:Nat),.int .i64 (C:Nat)]
def VP.P0(P:VP)(W:World):Prop:=Wd P.X (P.AP++[P.bx 0 0 0 0]) P.m W
def VP.P1(P:VP)(x:Nat)(W:World):Prop:=∃t,Ca t P.X.sz∧t.k=P.k∧t.h=P.hh∧t.bound=P.bd∧t.l=[]∧Wd P.X (P.AP++[P.bx 0 0 0 0]++[KG P.X.p x t P.X.sz]) P.m W
def VP.P2(P:VP)(x:Nat)(W:World):Prop:=∃s t r,P.R s∧Ca t P.X.sz∧t.k=P.k∧t.h=P.hh∧t.l=BG P.on P.o s∧GX r∧Wd P.X (P.AP++[P.bx 0 0 0 0]++KG P.X.p x t P.X.sz::r) (P.m+P.a+Eh P.on P.o P.hh s) W
def VP.P3(P:VP)(x F N C:Nat)(B:AW)(W:World):Prop:=∃s t r,P.R s∧Ca t P.X.sz∧t.k=P.k∧t.h=P.hh∧t.l=BG P.on P.o s∧(F=BS t∧N=AA P.hh t.l.length∧C=t.l.length)∧GX r∧Wd P.X (P.AP++[B]++Tw P.X.p x t P.X.sz::r) (P.m+P.a+AA P.hh t.l.length) W
def VP.P6(P:VP)(x:Nat)(W:World):Prop:=¬P.X.cm∧∃q r m',((∃t,q=lW P.X.p x t)∨∃t,q=KG P.X.p x t P.X.sz∧Ca t P.X.sz)∧GX r∧Wd P.X (P.AP++[P.bx 0 0 0 0]++q::r) m' W
def VP.P7(P:VP)(W:World):Prop:=¬P.X.cm∧∃r m',GX r∧Wd P.X (P.AP++[P.bx 0 0 0 0]++r) m' W
section
variable {P : VP} {x : Nat} {W W' : World}
theorem VP.P0.below(h:P.P0 W)(hb:Below W.heap.size W W'):P.P0 W':=Wd.below h hb
theorem VP.P1.below(h:P.P1 x W)(hb:Below W.heap.size W W'):P.P1 x W':=by
 obtain⟨t,h1,h2,h3,h4,h5,h6⟩:=h
 exact⟨t,h1,h2,h3,h4,h5,h6.below hb⟩
theorem Jd{B:AW}{z:List AW}:(P.AP++[B]++z)[P.AP.length]?=some B:=by rw[List.append_assoc];exact AM P.AP _ 0
theorem Wm{B q:AW}{r:List AW}:(P.AP++[B]++q::r)[P.AP.length+1]?=some q:=by
 have h:=AM (P.AP++[B]) (q::r) 0
 rw[List.length_append]at h;exact h
theorem US{B q q':AW}{r:List AW}:(P.AP++[B]++q::r).set (P.AP.length+1) q'=P.AP++[B]++q'::r:=by
 rw[List.set_append_right _ _ (by rw[List.length_append];show P.AP.length+1≤ _;omega),List.length_append]
 show _++(q::r).set (P.AP.length+1-(P.AP.length+1)) q'= _
 rw[Nat.sub_self];rfl
theorem UW{B B':AW}{z:List AW}:(P.AP++[B]++z).set P.AP.length B'=P.AP++[B']++z:=by
 rw[List.append_assoc,List.set_append_right _ _ (Nat.le_refl _),Nat.sub_self,List.append_assoc];rfl
theorem VP.P0.write(Iu:P.hh=AH P.X.sz P.k)(DQ:0<P.hh)(hbd:P.bd≤100000)(hroom:P.X.sz+Ac AW.gw P.AP≤P.X.rm)(h:P.P0 W):
  Calls Tryz.prog 37 #[.pointer (some ⟨P.X.p.w,0,none⟩),.int .i64 P.k,.int .i64 P.bd] W fun e w'=>(e=.returned (.tuple #[.pointer none,.int .i64 5])∧(∀q,¬Rm P.X P.AP q (AA P.hh P.bd))∧P.P0 w')∨(∃x,e=.returned (.tuple #[.pointer (some ⟨x,0,none⟩),.int .i64 0])∧P.P1 x w'):=by
 have hg:Ac AW.gw (P.AP++[P.bx 0 0 0 0])=Ac AW.gw P.AP:=by rw[DF];rfl
 refine(ZQ h P.k P.bd (by rw[←Iu];exact DQ) hbd (by rw[hg];exact hroom)).mono ?_
 rintro e w' (⟨he,h1,h2⟩|⟨x,t,he,h1,h2,h3,h4,h5,h6⟩)
 ·refine .inl ⟨he,fun q hq=>h1 q fun z B3 EX=>?_,h2⟩
  rw[←Iu]at EX
  obtain⟨k1,k2⟩:=hq z B3 EX
  refine⟨k1,fun i a hi hz=>?_⟩
  rcases DW hi with⟨_,e⟩|⟨_,e⟩
  ·rw[e]at hz;exact Ab _ _ hz
  ·exact k2 i a e hz
 ·exact .inr ⟨x,he,t,h5,h1,by rw[h2,Iu],h3,h4,h6⟩
theorem Vr{t:Wt}(h:t.l=[]):Oq t []=t:=by
 unfold Oq;rw[←h]
def VP.Y5(P:VP)(fF:Nat)(fs:Array Value):Prop:=∀(x tT fP n:Nat) (vT:Value) (Z:List AB→List AW) (W:World),dI P.X P.o P.on P.k P.hh P.bd x tT fP vT Z n→Wd P.X (P.AP++[P.bx 0 0 0 0]++Z []) P.m W→
 Calls Tryz.prog fF (#[.iface tT vT]++fs) W fun e w'=>(e=.returned (.int .i64 0)∧∃s,P.R s∧s.length≤P.bd∧Wd P.X (P.AP++[P.bx 0 0 0 0]++Z s) (P.m+P.a+Eh P.on P.o P.hh s) w')∨(e=.returned (.int .i64 6)∧¬P.X.cm∧∃z m',Ml P.X x P.bd n Z z∧Wd P.X (P.AP++[P.bx 0 0 0 0]++z) m' w')
theorem Tc{fF tT fP n:Nat}{fs:Array Value}{vT:Value}{Z:List AB→List AW}(hF:P.Y5 fF fs)(hS:dI P.X P.o P.on P.k P.hh P.bd x tT fP vT Z n)(h:Wd P.X (P.AP++[P.bx 0 0 0 0]++Z []) P.m W):
  Calls Tryz.prog fF (#[.iface tT vT]++fs) W fun e w'=>∃er,e=.returned (.int .i64 er)∧((er=0∧P.P2 x w')∨(er=6∧P.P6 x w')):=by
 refine(hF x tT fP n vT Z W hS h).mono ?_
 rintro e w' (⟨he,s,hR,hs,hw⟩|⟨he,Dn,z,m',hz,hw⟩)
 ·obtain⟨t,r,e1,h1,h2,h3,h4,h5,h6⟩:=hS.hd s hs
  rw[e1]at hw
  exact⟨0,he,.inl ⟨rfl,s,t,r,hR,h1,h2,h3,h5,h6,hw⟩⟩
 ·rcases hz with⟨s,hs,rfl⟩|⟨t,r,rfl,hl,hb⟩
  ·obtain⟨t,r,e1,h1,h2,h3,h4,h5,h6⟩:=hS.hd s hs
   rw[e1]at hw
   exact⟨6,he,.inr ⟨rfl,Dn,_,r,m',.inr ⟨t,rfl,h1⟩,h6,hw⟩⟩
  ·exact⟨6,he,.inr ⟨rfl,Dn,_,r,m',.inl ⟨t,rfl⟩,hb,hw⟩⟩
theorem VP.P1.tZ{fF:Nat}{fs:Array Value}(hF:P.Y5 fF fs)(nF:P.on=false)(h:P.P1 x W):Calls Tryz.prog fF (#[.iface 74 (.pointer (some ⟨x,0,none⟩))]++fs) W fun e w'=>∃er,e=.returned (.int .i64 er)∧((er=0∧P.P2 x w')∨(er=6∧P.P6 x w')):=by
 obtain⟨t,h1,h2,h3,h4,h5,h6⟩:=h
 have hS:=qw (X:=P.X) (o:=P.o) (x:=x) h1
 rw[h2,h3,h4,←nF]at hS
 refine Tc hF hS ?_
 show Wd P.X (P.AP++[P.bx 0 0 0 0]++[KG P.X.p x (Oq t []) P.X.sz]) P.m W
 rw[Vr h5];exact h6
theorem VP.P1.tY{fF f:Nat}{fs:Array Value}(hF:P.Y5 fF fs)(nF:P.on=true)(h:P.P1 x W)(hb:Below W.heap.size W W')(hr:Row W' f 156 (I0 x P.o false AD))(hf:W.heap.size≤f):Calls Tryz.prog fF (#[.iface 154 (.pointer (some ⟨f,0,none⟩))]++fs) W' fun e w'=>∃er,e=.returned (.int .i64 er)∧((er=0∧P.P2 x w')∨(er=6∧P.P6 x w')):=by
 obtain⟨t,h1,h2,h3,h4,h5,h6⟩:=h
 have hS:=qx (X:=P.X) (o:=P.o) (x:=x) (f:=f) h1
 rw[h2,h3,h4,←nF]at hS
 refine Tc hF hS ?_
 have h7:=h6.new hb hr hf
 show Wd P.X (P.AP++[P.bx 0 0 0 0]++[KG P.X.p x (Oq t []) P.X.sz,AI f 156 (RY x P.o [])]) P.m W'
 rw[Vr h5]
 rw[List.append_assoc]at h7;exact h7
theorem VP.P2.close(h:P.P2 x W)(hn:∀s,P.R s→P.X.N+(P.m+P.a+Eh P.on P.o P.hh s)<1000000):
  Calls Tryz.prog 40 #[.pointer (some ⟨x,0,none⟩)] W fun e w'=>(∃F N C:Nat,e=.returned (.tuple #[.agg #[.int .i64 (F:Nat),.int .i64 (N:Nat),.int .i64 P.k,.int .i64 (C:Nat)],.int .i64 0])∧P.P3 x F N C (P.bx 0 0 0 0) w')∨(e=.returned (.tuple #[.agg #[.int .i64 0,.int .i64 0,.int .i64 0,.int .i64 0],.int .i64 6])∧P.P6 x w'):=by
 obtain⟨s,t,r,hR,h1,h2,h3,h4,h5,h6⟩:=h
 refine(ZY h6 Wm h1 (hn s hR)).mono ?_
 rintro e w' (⟨he,h7⟩|⟨he,Dn,h7⟩)
 ·rw[US]at h7
  refine .inl ⟨BS t,AA t.h t.l.length,t.l.length,by rw[he,h2];rfl,s,t,r,hR,h1,h2,h3,h4,⟨rfl,by rw[h3],rfl⟩,h5,?_⟩
  have hle:t.l.length/t.h≤AA t.h t.l.length:=by unfold AA;split<;>omega
  have h8:Eh P.on P.o P.hh s=t.l.length/t.h:=by unfold Eh;rw[h4,h3]
  rw[h8]at h7
  rw[show P.m+P.a+t.l.length/t.h+(AA t.h t.l.length-t.l.length/t.h)=P.m+P.a+AA t.h t.l.length by omega,h3]at h7
  exact h7
 ·rw[US]at h7
  exact .inr ⟨he,Dn,_,r,_,.inl ⟨t,rfl⟩,h5,h7⟩
theorem VP.P3.drop{F N C:Nat}{B:AW}(u:FrameMode)(h:P.P3 x F N C B W):CallsD Tryz.prog 38 #[.pointer (some ⟨x,0,none⟩)] u W fun e u' w'=>u'=u∧(e=.returned (.tuple #[])∧P.P3 x F N C B w'):=by
 obtain⟨s,t,r,hR,h1,h2,h3,h4,h5,h6,h7⟩:=h
 have h8:Je W x P.X.p t:=h7.at_ Wm
 refine(KQ h8 u).mono ?_
 rintro e u' w' ⟨hu,he,hw⟩
 exact⟨hu,he,s,t,r,hR,h1,h2,h3,h4,h5,h6,by rw[hw];exact h7⟩
theorem VP.P6.drop(u:FrameMode)(h:P.P6 x W):CallsD Tryz.prog 38 #[.pointer (some ⟨x,0,none⟩)] u W fun e u' w'=>u'=u∧(e=.returned (.tuple #[])∧P.P7 w'):=by
 obtain⟨Dn,q,r,m',hq,hb,hw⟩:=h
 rcases hq with⟨t,rfl⟩|⟨t,rfl,ht⟩
 ·have h8:Je W x P.X.p t:=hw.at_ Wm
  refine(KQ h8 u).mono ?_
  rintro e u' w' ⟨hu,he,Ek⟩
  exact⟨hu,he,Dn,_,m',AN ⟨rfl,rfl⟩ hb,by rw[Ek];exact hw⟩
 ·refine(ez hw Wm ht u).mono ?_
  rintro e u' w' ⟨hu,he,Ek⟩
  rw[US]at Ek
  exact⟨hu,he,Dn,_,m',AN ⟨rfl,rfl⟩ hb,Ek⟩
theorem EF{W:World}{b:Nat}{c0 c1 c2 c3:Value}{F N k C:Nat}(hr:Row W b 39 [c0,c1,c2,c3]):Row ((((W.setCell ⟨b,0,none⟩ (.int .i64 (F:Nat))).setCell ⟨b,1,none⟩ (.int .i64 (N:Nat))).setCell ⟨b,2,none⟩ (.int .i64 (k:Nat))).setCell ⟨b,3,none⟩ (.int .i64 (C:Nat))) b 39 [.int .i64 (F:Nat),.int .i64 (N:Nat),.int .i64 (k:Nat),.int .i64 (C:Nat)]∧
  AL (fun k=>k=b) W ((((W.setCell ⟨b,0,none⟩ (.int .i64 (F:Nat))).setCell ⟨b,1,none⟩ (.int .i64 (N:Nat))).setCell ⟨b,2,none⟩ (.int .i64 (k:Nat))).setCell ⟨b,3,none⟩ (.int .i64 (C:Nat))):=
 ⟨(((hr.set 0 _).set 1 _).set 2 _).set 3 _,((((AL.refl (fun k=>k=b) W).set (p:=⟨b,0,none⟩) (.inl rfl) _).set (p:=⟨b,1,none⟩) (.inl rfl) _).set (p:=⟨b,2,none⟩) (.inl rfl) _).set (p:=⟨b,3,none⟩) (.inl rfl) _⟩
theorem VP.P3.store{F N C:Nat}(h:P.P3 x F N C (P.bx 0 0 0 0) W)(hw:W'=((((W.setCell ⟨P.ob,0,none⟩ (.int .i64 (F:Nat))).setCell ⟨P.ob,1,none⟩ (.int .i64 (N:Nat))).setCell ⟨P.ob,2,none⟩ (.int .i64 (P.k:Nat))).setCell ⟨P.ob,3,none⟩ (.int .i64 (C:Nat)))):P.P3 x F N C (P.bx F N P.k C) W':=by
 obtain⟨s,t,r,hR,h1,h2,h3,h4,h5,h6,h7⟩:=h
 obtain⟨k1,k2⟩:=EF (F:=F) (N:=N) (k:=P.k) (C:=C) (h7.row Jd)
 have h8:=h7.MU Jd (by decide) k2 k1
 rw[UW]at h8
 subst hw
 exact⟨s,t,r,hR,h1,h2,h3,h4,h5,h6,h8⟩
theorem VP.P6.store(h:P.P6 x W)(hw:W'=((((W.setCell ⟨P.ob,0,none⟩ (.int .i64 0)).setCell ⟨P.ob,1,none⟩ (.int .i64 0)).setCell ⟨P.ob,2,none⟩ (.int .i64 0)).setCell ⟨P.ob,3,none⟩ (.int .i64 0))):P.P6 x W':=by
 obtain⟨Dn,q,r,m',hq,hb,h7⟩:=h
 obtain⟨k1,k2⟩:=EF (F:=0) (N:=0) (k:=0) (C:=0) (h7.row Jd)
 have h8:=h7.MU Jd (by decide) k2 k1
 rw[UW]at h8
 subst hw
 exact⟨Dn,q,r,m',hq,hb,h8⟩
theorem VP.P0.store(h:P.P0 W)(hw:W'=((((W.setCell ⟨P.ob,0,none⟩ (.int .i64 0)).setCell ⟨P.ob,1,none⟩ (.int .i64 0)).setCell ⟨P.ob,2,none⟩ (.int .i64 0)).setCell ⟨P.ob,3,none⟩ (.int .i64 0))):P.P0 W':=by
 have h7:Wd P.X (P.AP++[P.bx 0 0 0 0]++[]) P.m W:=by rw[List.append_nil];exact h
 obtain⟨k1,k2⟩:=EF (F:=0) (N:=0) (k:=0) (C:=0) (h7.row Jd)
 have h8:=h7.MU Jd (by decide) k2 k1
 rw[UW,List.append_nil]at h8
 subst hw
 exact h8
end
section
variable {P : VP} {W : World} {js sb rb An fF : Nat} {once Pt : Bool} {fs : Array Value}
theorem PY(Li:P.AP[js]?=some (AI sb 98 (Bh P.X.p.w P.k P.hh rb An P.o once P.bd)))(PE:(Pt&&once)=P.on)(hF:P.Y5 fF fs)(eF:∀args w,Sem.run Tryz.prog (callFunc fF args) w=.ok (.enter fF args) w)
  (Iu:P.hh=AH P.X.sz P.k) (DQ:0<P.hh) (hbd:P.bd≤100000) (hroom:P.X.sz+Ac AW.gw P.AP≤P.X.rm) (hn:∀s,P.R s→P.X.N+(P.m+P.a+Eh P.on P.o P.hh s)<1000000) (yM:W.heap.size=P.ob) (h:Wd P.X P.AP P.m W):
  Calls Tryz.prog 73 #[.pointer (some ⟨sb,0,none⟩),.bool Pt,.func (.func fF) #[] fs] W fun e w'=>
   (e=.returned (.tuple #[.agg #[.int .i64 0,.int .i64 0,.int .i64 0,.int .i64 0],.int .i64 5])∧(∀q,¬Rm P.X P.AP q (AA P.hh P.bd))∧Wd P.X P.AP P.m w')∨
   (∃x F N C:Nat,e=.returned (.tuple #[.agg #[.int .i64 (F:Nat),.int .i64 (N:Nat),.int .i64 P.k,.int .i64 (C:Nat)],.int .i64 0])∧∃s t,P.R s∧Ca t P.X.sz∧t.k=P.k∧t.h=P.hh∧t.l=BG P.on P.o s∧(F=BS t∧N=AA P.hh t.l.length∧C=t.l.length)∧Wd P.X (P.AP++[Tw P.X.p x t P.X.sz]) (P.m+P.a+AA P.hh t.l.length) w')∨
   (e=.returned (.tuple #[.agg #[.int .i64 0,.int .i64 0,.int .i64 0,.int .i64 0],.int .i64 6])∧¬P.X.cm∧∃m',Wd P.X P.AP m' w'):=by
 obtain⟨W1,B8⟩:∃W1,W1=W.alloc (.cells #[.int .i64 0,.int .i64 0,.int .i64 0,.int .i64 0] 39):=⟨_,rfl⟩
 have Am:Below W.heap.size W W1:=by rw[B8];exact(Below.refl _ _).alloc (Nat.le_refl _) _
 have Bl:Row W1 P.ob 39 [.int .i64 0,.int .i64 0,.int .i64 0,.int .i64 0]:=by rw[B8,←yM];exact heap_alloc_new _ _
 have h1:P.P0 W1:=h.new Am Bl (by rw[yM];exact Nat.le_refl _)
 have eS:Hid (∀(z:List AW) m W,Wd P.X (P.AP++z) m W→Row W sb 98 (Bh P.X.p.w P.k P.hh rb An P.o once P.bd)):=fun z m W h=>h.row (Ag Li)
 have Hj:Hid (∀W,P.P0 W→Row W sb 98 (Bh P.X.p.w P.k P.hh rb An P.o once P.bd)):=fun W h=>eS.out _ _ _ h
 have Ee:Hid (∀x W,P.P1 x W→Row W sb 98 (Bh P.X.p.w P.k P.hh rb An P.o once P.bd)):=fun x W ⟨t,_,_,_,_,_,h⟩=>by rw[List.append_assoc]at h;exact eS.out _ _ _ h
 have GW:Hid (∀W,P.P0 W→Row W P.ob 39 [.int .i64 0,.int .i64 0,.int .i64 0,.int .i64 0]):=fun W h=>by
  have h7:Wd P.X (P.AP++[P.bx 0 0 0 0]++[]) P.m W:=by rw[List.append_nil];exact h
  exact h7.row Jd
 have BM:Hid (∀x F N C B cs W,B=AI P.ob 39 cs→P.P3 x F N C B W→Row W P.ob 39 cs):=fun x F N C B cs W hB ⟨s,t,r,_,_,_,_,_,_,_,h⟩=>by
  rw[hB]at h;exact h.row Jd
 have Qj:Hid (∀x W,P.P6 x W→Row W P.ob 39 [.int .i64 0,.int .i64 0,.int .i64 0,.int .i64 0]):=fun x W ⟨_,q,r,m',_,_,h⟩=>h.row Jd
 have XA:Hid (∀W,P.P7 W→Row W P.ob 39 [.int .i64 0,.int .i64 0,.int .i64 0,.int .i64 0]):=fun W ⟨_,r,m',_,h⟩=>h.row Jd
 have lC:Hid (Calls Tryz.prog 37 #[.pointer (some ⟨P.X.p.w,0,none⟩),.int .i64 P.k,.int .i64 P.bd] W1.drew fun e w'=>∃v er,e=.returned (.tuple #[.pointer v,.int .i64 er])∧((v=none∧er=5∧(∀q,¬Rm P.X P.AP q (AA P.hh P.bd))∧P.P0 w')∨∃x,v=some ⟨x,0,none⟩∧er=0∧P.P1 x w')∧Row w' sb 98 (Bh P.X.p.w P.k P.hh rb An P.o once P.bd)):=by
  refine(VP.P0.write (W:=W1.drew) Iu DQ hbd hroom (h1.below (AG (Below.refl _ _)))).mono ?_
  rintro e w' (⟨he,h2,h3⟩|⟨x,he,h2⟩)
  ·exact⟨none,5,he,.inl ⟨rfl,rfl,h2,h3⟩,Hj.out _ h3⟩
  ·exact⟨_,0,he,.inr ⟨x,rfl,rfl,h2⟩,Ee.out _ _ h2⟩
 have HWF:Hid (∀x W,P.on=false→P.P1 x W→Calls Tryz.prog fF (#[.iface 74 (.pointer (some ⟨x,0,none⟩))]++fs) W fun e w'=>∃er,e=.returned (.int .i64 er)∧((er=0∧P.P2 x w')∨(er=6∧P.P6 x w'))):=fun x W ho h=>h.tZ hF ho
 have HWG:Hid (∀x W,P.on=true→P.P1 x W→Calls Tryz.prog fF (#[.iface 154 (.pointer (some ⟨W.heap.size,0,none⟩))]++fs) (W.alloc (.cells (I0 x P.o false AD).toArray 156)) fun e w'=>∃er,e=.returned (.int .i64 er)∧((er=0∧P.P2 x w')∨(er=6∧P.P6 x w'))):=fun x W ho h=>h.tY hF ho ((Below.refl _ _).alloc (Nat.le_refl _) _) (heap_alloc_new _ _) (Nat.le_refl _)
 have Y0:Hid (∀x W,P.P2 x W→Calls Tryz.prog 40 #[.pointer (some ⟨x,0,none⟩)] W fun e w'=>(∃F N C:Nat,e=.returned (.tuple #[.agg #[.int .i64 (F:Nat),.int .i64 (N:Nat),.int .i64 P.k,.int .i64 (C:Nat)],.int .i64 0])∧P.P3 x F N C (P.bx 0 0 0 0) w')∨(e=.returned (.tuple #[.agg #[.int .i64 0,.int .i64 0,.int .i64 0,.int .i64 0],.int .i64 6])∧P.P6 x w')):=fun x W h=>h.close hn
 have HD3:Hid (∀x F N C B u W,P.P3 x F N C B W→CallsD Tryz.prog 38 #[.pointer (some ⟨x,0,none⟩)] u W fun e u' w'=>u'=u∧(e=.returned (.tuple #[])∧P.P3 x F N C B w')):=fun x F N C B u W h=>h.drop u
 have lR:Hid (∀x u W,P.P6 x W→CallsD Tryz.prog 38 #[.pointer (some ⟨x,0,none⟩)] u W fun e u' w'=>u'=u∧(e=.returned (.tuple #[])∧P.P7 w')):=fun x u W h=>h.drop u
 have Rr:Hid (∀x F N C W,P.P3 x F N C (P.bx 0 0 0 0) W→P.P3 x F N C (P.bx F N P.k C) ((((W.setCell ⟨P.ob,0,none⟩ (.int .i64 (F:Nat))).setCell ⟨P.ob,1,none⟩ (.int .i64 (N:Nat))).setCell ⟨P.ob,2,none⟩ (.int .i64 (P.k:Nat))).setCell ⟨P.ob,3,none⟩ (.int .i64 (C:Nat)))):=fun x F N C W h=>h.store rfl
 have qV:Hid (∀x W,P.P6 x W→P.P6 x ((((W.setCell ⟨P.ob,0,none⟩ (.int .i64 0)).setCell ⟨P.ob,1,none⟩ (.int .i64 0)).setCell ⟨P.ob,2,none⟩ (.int .i64 0)).setCell ⟨P.ob,3,none⟩ (.int .i64 0))):=fun x W h=>h.store rfl
 have oh:Hid (∀W,P.P0 W→P.P0 ((((W.setCell ⟨P.ob,0,none⟩ (.int .i64 0)).setCell ⟨P.ob,1,none⟩ (.int .i64 0)).setCell ⟨P.ob,2,none⟩ (.int .i64 0)).setCell ⟨P.ob,3,none⟩ (.int .i64 0))):=fun W h=>h.store rfl
 have eZ:Hid (∀W,P.P0 W→Wd P.X P.AP P.m W):=fun W h=>Wd.forget h (AN (DU _ _ _) BW)
 have jM:Hid (∀x F N C W,P.P3 x F N C (P.bx F N P.k C) W→∃s t,P.R s∧Ca t P.X.sz∧t.k=P.k∧t.h=P.hh∧t.l=BG P.on P.o s∧(F=BS t∧N=AA P.hh t.l.length∧C=t.l.length)∧Wd P.X (P.AP++[Tw P.X.p x t P.X.sz]) (P.m+P.a+AA P.hh t.l.length) W):=fun x F N C W ⟨s,t,r,h1,h2,h3,h4,h5,h6,h7,h8⟩=>by
  have h9:Wd P.X (P.AP++P.bx F N P.k C::([Tw P.X.p x t P.X.sz]++r)) (P.m+P.a+AA P.hh t.l.length) W:=by rw[List.append_assoc]at h8;exact h8
  have FJ:=h9.cut rfl rfl
  rw[←List.append_assoc]at FJ
  exact⟨s,t,h1,h2,h3,h4,h5,h6,FJ.forget h7⟩
 have qi:Hid (∀W,P.P7 W→¬P.X.cm∧∃m',Wd P.X P.AP m' W):=fun W ⟨Dn,r,m',hb,h⟩=>by
  have h9:Wd P.X (P.AP++P.bx 0 0 0 0::r) m' W:=by rw[List.append_assoc]at h;exact h
  exact⟨Dn,m',(h9.cut rfl rfl).forget hb⟩
 have Ww:=Lib.hid (Hj.out _ (h1.below (AG (Below.refl _ _))))
 have Ef:=Lib.hid B8
 have kE:=Lib.hid PE
 have IT:Hid (∀F N C:Nat,P.bx F N P.k C=AI P.ob 39 [.int .i64 (F:Nat),.int .i64 (N:Nat),.int .i64 (P.k:Nat),.int .i64 (C:Nat)]):=fun _ _ _=>rfl
 clear B8 Am Bl h hF Iu DQ hroom hn eS Li PE
 go_enter_defers Tryz.func73,Tryz.ntmps73
 go_upto_region 1 with(fail)
 rw[←Ef.out]
 clear Ef
 have a4:W1.drew.cell? ⟨sb,4,none⟩=some (.pointer (some ⟨P.X.p.w,0,none⟩)):=Ww.out.cell 4
 have a0:W1.drew.cell? ⟨sb,0,none⟩=some (.int .i64 P.k):=Ww.out.cell 0
 have a11:W1.drew.cell? ⟨sb,11,none⟩=some (.int .i64 P.bd):=Ww.out.cell 11
 clear h1 Ww yM
 go_region_held3 (fun w'=>w'.cell? ⟨sb,4,none⟩=some (.pointer (some ⟨P.X.p.w,0,none⟩))∧w'.cell? ⟨sb,0,none⟩=some (.int .i64 P.k)∧w'.cell? ⟨sb,11,none⟩=some (.int .i64 P.bd)) (first|with_reducible exact⟨a4,a0,a11⟩|with_reducible exact q2)
  ((go_at_call 37;(with_reducible refine lC.out.mono ?_);rintro e w2 ⟨v,er,rfl,h2,Av⟩;obtain⟨H2,q2⟩:Hid ((v=none∧er=5∧(∀q,¬Rm P.X P.AP q (AA P.hh P.bd))∧P.P0 w2)∨∃x,v=some ⟨x,0,none⟩∧er=0∧P.P1 x w2)∧(w2.cell? ⟨sb,4,none⟩=some (.pointer (some ⟨P.X.p.w,0,none⟩))∧w2.cell? ⟨sb,0,none⟩=some (.int .i64 P.k)∧w2.cell? ⟨sb,11,none⟩=some (.int .i64 P.bd)):=⟨h2,Av.cell 4,Av.cell 0,Av.cell 11⟩))
 clear a4 a0 a11 q2 h2 Av lC
 rcases H2.out with⟨rfl,rfl,Ip,h2⟩|⟨x,rfl,rfl,h2⟩
 ·generalize w2=w9 at*
  have B9:=GW.out w9 h2
  have g9:w9.cell? ⟨P.ob,0,none⟩=some (.int .i64 0)∧w9.cell? ⟨P.ob,1,none⟩=some (.int .i64 0)∧w9.cell? ⟨P.ob,2,none⟩=some (.int .i64 0)∧w9.cell? ⟨P.ob,3,none⟩=some (.int .i64 0):=⟨B9.cell 0,B9.cell 1,B9.cell 2,B9.cell 3⟩
  have f9:w9.frozen? ⟨P.ob,0,none⟩=false∧w9.frozen? ⟨P.ob,1,none⟩=false∧w9.frozen? ⟨P.ob,2,none⟩=false∧w9.frozen? ⟨P.ob,3,none⟩=false:=⟨B9.free 0,B9.free 1,B9.free 2,B9.free 3⟩
  obtain⟨iJ,iI,iH,iG⟩:=g9
  obtain⟨f90,f91,f92,f93⟩:=f9
  have H9:=Lib.hid (oh.out w9 h2)
  have HRM:=Lib.hid Ip
  clear h2 B9 H2 Ip
  go_wp2
  generalize((((w9.setCell ⟨P.ob,0,none⟩ (.int .i64 0)).setCell ⟨P.ob,1,none⟩ (.int .i64 0)).setCell ⟨P.ob,2,none⟩ (.int .i64 0)).setCell ⟨P.ob,3,none⟩ (.int .i64 0))=DS at*
  have FM:=GW.out DS H9.out
  have q0:DS.cell? ⟨P.ob,0,none⟩=some (.int .i64 0):=FM.cell 0
  have q1:DS.cell? ⟨P.ob,1,none⟩=some (.int .i64 0):=FM.cell 1
  have q2:DS.cell? ⟨P.ob,2,none⟩=some (.int .i64 0):=FM.cell 2
  have q3:DS.cell? ⟨P.ob,3,none⟩=some (.int .i64 0):=FM.cell 3
  exact⟨.tuple #[.agg #[.int .i64 0,.int .i64 0,.int .i64 0,.int .i64 0],.int .i64 5],by simp[results,Tryz.results73,go_sem,q0,q1,q2,q3],.inl ⟨rfl,HRM.out,eZ.out DS H9.out⟩⟩
 ·have pF:=Lib.hid h2
  have a10:w2.cell? ⟨sb,10,none⟩=some (.bool once):=(Ee.out x w2 h2).cell 10
  have o0:w2.cell? ⟨sb,5,none⟩=some (.int .i64 P.o.a):=(Ee.out x w2 h2).cell 5
  have o1:w2.cell? ⟨sb,6,none⟩=some (.int .i64 P.o.b):=(Ee.out x w2 h2).cell 6
  have o2:w2.cell? ⟨sb,7,none⟩=some (.int .i64 P.o.c):=(Ee.out x w2 h2).cell 7
  have o3:w2.cell? ⟨sb,8,none⟩=some (.int .i64 P.o.d):=(Ee.out x w2 h2).cell 8
  have o4:w2.cell? ⟨sb,9,none⟩=some (.int .i64 P.o.e):=(Ee.out x w2 h2).cell 9
  clear h2 H2
  have KEY:Hid (∀w3 er,((er=0∧P.P2 x w3)∨(er=6∧P.P6 x w3))→True):=fun _ _ _=>trivial
  by_cases nF:P.on=true
  ·have h3:Pt=true∧once=true:=by have:=kE.out;rw[nF]at this;simpa using this
   obtain⟨rfl,rfl⟩:=h3
   have HG:=Lib.hid (HWG.out x w2 nF pF.out)
   go_wp2_with fail
   refine HG.out.mono ?_
   rintro e w8 ⟨er,rfl,h8⟩
   rcases h8 with⟨rfl,h9⟩|⟨rfl,h9⟩
   ·have DJ:=Lib.hid (Y0.out x w8 h9)
    clear h9 HG
    go_wp2_with fail
    refine DJ.out.mono ?_
    rintro e w9 (⟨F,N,C,rfl,h9⟩|⟨rfl,h9⟩)
    ·clear DJ
     have B9:=BM.out x F N C _ _ w9 rfl h9
     have g9:w9.cell? ⟨P.ob,0,none⟩=some (.int .i64 0)∧w9.cell? ⟨P.ob,1,none⟩=some (.int .i64 0)∧w9.cell? ⟨P.ob,2,none⟩=some (.int .i64 0)∧w9.cell? ⟨P.ob,3,none⟩=some (.int .i64 0):=⟨B9.cell 0,B9.cell 1,B9.cell 2,B9.cell 3⟩
     have f9:w9.frozen? ⟨P.ob,0,none⟩=false∧w9.frozen? ⟨P.ob,1,none⟩=false∧w9.frozen? ⟨P.ob,2,none⟩=false∧w9.frozen? ⟨P.ob,3,none⟩=false:=⟨B9.free 0,B9.free 1,B9.free 2,B9.free 3⟩
     obtain⟨iJ,iI,iH,iG⟩:=g9
     obtain⟨f90,f91,f92,f93⟩:=f9
     have H9:=Lib.hid (Rr.out x F N C w9 h9)
     clear h9 B9
     go_wp2
     generalize((((w9.setCell ⟨P.ob,0,none⟩ (.int .i64 (F:Nat))).setCell ⟨P.ob,1,none⟩ (.int .i64 (N:Nat))).setCell ⟨P.ob,2,none⟩ (.int .i64 (P.k:Nat))).setCell ⟨P.ob,3,none⟩ (.int .i64 (C:Nat)))=DS at*
     refine leaves_cons (f:=38) (args:=#[.pointer (some ⟨x,0,none⟩)]) (by simp) (by simp[go_sem]) ?_
     refine(HD3.out x F N C _ _ _ H9.out).mono ?_
     rintro e u1 Bs ⟨rfl,rfl,Eo⟩
     have FM:=BM.out x F N C _ _ Bs (IT.out F N C) Eo
     have q0:Bs.cell? ⟨P.ob,0,none⟩=some (.int .i64 (F:Nat)):=FM.cell 0
     have q1:Bs.cell? ⟨P.ob,1,none⟩=some (.int .i64 (N:Nat)):=FM.cell 1
     have q2:Bs.cell? ⟨P.ob,2,none⟩=some (.int .i64 (P.k:Nat)):=FM.cell 2
     have q3:Bs.cell? ⟨P.ob,3,none⟩=some (.int .i64 (C:Nat)):=FM.cell 3
     refine⟨.tuple #[.agg #[.int .i64 (F:Nat),.int .i64 (N:Nat),.int .i64 P.k,.int .i64 (C:Nat)],.int .i64 0],by simp[results,Tryz.results73,go_sem,q0,q1,q2,q3],?_⟩
     exact .inr (.inl ⟨x,F,N,C,rfl,jM.out x F N C Bs Eo⟩)
    ·clear DJ
     have B9:=Qj.out x w9 h9
     have g9:w9.cell? ⟨P.ob,0,none⟩=some (.int .i64 0)∧w9.cell? ⟨P.ob,1,none⟩=some (.int .i64 0)∧w9.cell? ⟨P.ob,2,none⟩=some (.int .i64 0)∧w9.cell? ⟨P.ob,3,none⟩=some (.int .i64 0):=⟨B9.cell 0,B9.cell 1,B9.cell 2,B9.cell 3⟩
     have f9:w9.frozen? ⟨P.ob,0,none⟩=false∧w9.frozen? ⟨P.ob,1,none⟩=false∧w9.frozen? ⟨P.ob,2,none⟩=false∧w9.frozen? ⟨P.ob,3,none⟩=false:=⟨B9.free 0,B9.free 1,B9.free 2,B9.free 3⟩
     obtain⟨iJ,iI,iH,iG⟩:=g9
     obtain⟨f90,f91,f92,f93⟩:=f9
     have H9:=Lib.hid (qV.out x w9 h9)
     clear h9 B9
     go_wp2
     generalize((((w9.setCell ⟨P.ob,0,none⟩ (.int .i64 0)).setCell ⟨P.ob,1,none⟩ (.int .i64 0)).setCell ⟨P.ob,2,none⟩ (.int .i64 0)).setCell ⟨P.ob,3,none⟩ (.int .i64 0))=DS at*
     refine leaves_cons (f:=38) (args:=#[.pointer (some ⟨x,0,none⟩)]) (by simp) (by simp[go_sem]) ?_
     refine(lR.out x _ _ H9.out).mono ?_
     rintro e u1 Bs ⟨rfl,rfl,Eo⟩
     have FM:=XA.out Bs Eo
     have q0:Bs.cell? ⟨P.ob,0,none⟩=some (.int .i64 0):=FM.cell 0
     have q1:Bs.cell? ⟨P.ob,1,none⟩=some (.int .i64 0):=FM.cell 1
     have q2:Bs.cell? ⟨P.ob,2,none⟩=some (.int .i64 0):=FM.cell 2
     have q3:Bs.cell? ⟨P.ob,3,none⟩=some (.int .i64 0):=FM.cell 3
     refine⟨.tuple #[.agg #[.int .i64 0,.int .i64 0,.int .i64 0,.int .i64 0],.int .i64 6],by simp[results,Tryz.results73,go_sem,q0,q1,q2,q3],?_⟩
     exact .inr (.inr ⟨rfl,qi.out Bs Eo⟩)
   ·clear HG
    generalize w8=w9 at*
    have B9:=Qj.out x w9 h9
    have g9:w9.cell? ⟨P.ob,0,none⟩=some (.int .i64 0)∧w9.cell? ⟨P.ob,1,none⟩=some (.int .i64 0)∧w9.cell? ⟨P.ob,2,none⟩=some (.int .i64 0)∧w9.cell? ⟨P.ob,3,none⟩=some (.int .i64 0):=⟨B9.cell 0,B9.cell 1,B9.cell 2,B9.cell 3⟩
    have f9:w9.frozen? ⟨P.ob,0,none⟩=false∧w9.frozen? ⟨P.ob,1,none⟩=false∧w9.frozen? ⟨P.ob,2,none⟩=false∧w9.frozen? ⟨P.ob,3,none⟩=false:=⟨B9.free 0,B9.free 1,B9.free 2,B9.free 3⟩
    obtain⟨iJ,iI,iH,iG⟩:=g9
    obtain⟨f90,f91,f92,f93⟩:=f9
    have H9:=Lib.hid (qV.out x w9 h9)
    clear h9 B9
    go_wp2
    generalize((((w9.setCell ⟨P.ob,0,none⟩ (.int .i64 0)).setCell ⟨P.ob,1,none⟩ (.int .i64 0)).setCell ⟨P.ob,2,none⟩ (.int .i64 0)).setCell ⟨P.ob,3,none⟩ (.int .i64 0))=DS at*
    refine leaves_cons (f:=38) (args:=#[.pointer (some ⟨x,0,none⟩)]) (by simp) (by simp[go_sem]) ?_
    refine(lR.out x _ _ H9.out).mono ?_
    rintro e u1 Bs ⟨rfl,rfl,Eo⟩
    have FM:=XA.out Bs Eo
    have q0:Bs.cell? ⟨P.ob,0,none⟩=some (.int .i64 0):=FM.cell 0
    have q1:Bs.cell? ⟨P.ob,1,none⟩=some (.int .i64 0):=FM.cell 1
    have q2:Bs.cell? ⟨P.ob,2,none⟩=some (.int .i64 0):=FM.cell 2
    have q3:Bs.cell? ⟨P.ob,3,none⟩=some (.int .i64 0):=FM.cell 3
    refine⟨.tuple #[.agg #[.int .i64 0,.int .i64 0,.int .i64 0,.int .i64 0],.int .i64 6],by simp[results,Tryz.results73,go_sem,q0,q1,q2,q3],?_⟩
    exact .inr (.inr ⟨rfl,qi.out Bs Eo⟩)
  ·have sQ:P.on=false:=by simpa using nF
   have HG:=Lib.hid (HWF.out x w2 sQ pF.out)
   cases Pt
   ·go_wp2_with fail
    refine HG.out.mono ?_
    rintro e w8 ⟨er,rfl,h8⟩
    rcases h8 with⟨rfl,h9⟩|⟨rfl,h9⟩
    ·have DJ:=Lib.hid (Y0.out x w8 h9)
     clear h9 HG
     go_wp2_with fail
     refine DJ.out.mono ?_
     rintro e w9 (⟨F,N,C,rfl,h9⟩|⟨rfl,h9⟩)
     ·clear DJ
      have B9:=BM.out x F N C _ _ w9 rfl h9
      have g9:w9.cell? ⟨P.ob,0,none⟩=some (.int .i64 0)∧w9.cell? ⟨P.ob,1,none⟩=some (.int .i64 0)∧w9.cell? ⟨P.ob,2,none⟩=some (.int .i64 0)∧w9.cell? ⟨P.ob,3,none⟩=some (.int .i64 0):=⟨B9.cell 0,B9.cell 1,B9.cell 2,B9.cell 3⟩
      have f9:w9.frozen? ⟨P.ob,0,none⟩=false∧w9.frozen? ⟨P.ob,1,none⟩=false∧w9.frozen? ⟨P.ob,2,none⟩=false∧w9.frozen? ⟨P.ob,3,none⟩=false:=⟨B9.free 0,B9.free 1,B9.free 2,B9.free 3⟩
      obtain⟨iJ,iI,iH,iG⟩:=g9
      obtain⟨f90,f91,f92,f93⟩:=f9
      have H9:=Lib.hid (Rr.out x F N C w9 h9)
      clear h9 B9
      go_wp2
      generalize((((w9.setCell ⟨P.ob,0,none⟩ (.int .i64 (F:Nat))).setCell ⟨P.ob,1,none⟩ (.int .i64 (N:Nat))).setCell ⟨P.ob,2,none⟩ (.int .i64 (P.k:Nat))).setCell ⟨P.ob,3,none⟩ (.int .i64 (C:Nat)))=DS at*
      refine leaves_cons (f:=38) (args:=#[.pointer (some ⟨x,0,none⟩)]) (by simp) (by simp[go_sem]) ?_
      refine(HD3.out x F N C _ _ _ H9.out).mono ?_
      rintro e u1 Bs ⟨rfl,rfl,Eo⟩
      have FM:=BM.out x F N C _ _ Bs (IT.out F N C) Eo
      have q0:Bs.cell? ⟨P.ob,0,none⟩=some (.int .i64 (F:Nat)):=FM.cell 0
      have q1:Bs.cell? ⟨P.ob,1,none⟩=some (.int .i64 (N:Nat)):=FM.cell 1
      have q2:Bs.cell? ⟨P.ob,2,none⟩=some (.int .i64 (P.k:Nat)):=FM.cell 2
      have q3:Bs.cell? ⟨P.ob,3,none⟩=some (.int .i64 (C:Nat)):=FM.cell 3
      refine⟨.tuple #[.agg #[.int .i64 (F:Nat),.int .i64 (N:Nat),.int .i64 P.k,.int .i64 (C:Nat)],.int .i64 0],by simp[results,Tryz.results73,go_sem,q0,q1,q2,q3],?_⟩
      exact .inr (.inl ⟨x,F,N,C,rfl,jM.out x F N C Bs Eo⟩)
     ·clear DJ
      have B9:=Qj.out x w9 h9
      have g9:w9.cell? ⟨P.ob,0,none⟩=some (.int .i64 0)∧w9.cell? ⟨P.ob,1,none⟩=some (.int .i64 0)∧w9.cell? ⟨P.ob,2,none⟩=some (.int .i64 0)∧w9.cell? ⟨P.ob,3,none⟩=some (.int .i64 0):=⟨B9.cell 0,B9.cell 1,B9.cell 2,B9.cell 3⟩
      have f9:w9.frozen? ⟨P.ob,0,none⟩=false∧w9.frozen? ⟨P.ob,1,none⟩=false∧w9.frozen? ⟨P.ob,2,none⟩=false∧w9.frozen? ⟨P.ob,3,none⟩=false:=⟨B9.free 0,B9.free 1,B9.free 2,B9.free 3⟩
      obtain⟨iJ,iI,iH,iG⟩:=g9
      obtain⟨f90,f91,f92,f93⟩:=f9
      have H9:=Lib.hid (qV.out x w9 h9)
      clear h9 B9
      go_wp2
      generalize((((w9.setCell ⟨P.ob,0,none⟩ (.int .i64 0)).setCell ⟨P.ob,1,none⟩ (.int .i64 0)).setCell ⟨P.ob,2,none⟩ (.int .i64 0)).setCell ⟨P.ob,3,none⟩ (.int .i64 0))=DS at*
      refine leaves_cons (f:=38) (args:=#[.pointer (some ⟨x,0,none⟩)]) (by simp) (by simp[go_sem]) ?_
      refine(lR.out x _ _ H9.out).mono ?_
      rintro e u1 Bs ⟨rfl,rfl,Eo⟩
      have FM:=XA.out Bs Eo
      have q0:Bs.cell? ⟨P.ob,0,none⟩=some (.int .i64 0):=FM.cell 0
      have q1:Bs.cell? ⟨P.ob,1,none⟩=some (.int .i64 0):=FM.cell 1
      have q2:Bs.cell? ⟨P.ob,2,none⟩=some (.int .i64 0):=FM.cell 2
      have q3:Bs.cell? ⟨P.ob,3,none⟩=some (.int .i64 0):=FM.cell 3
      refine⟨.tuple #[.agg #[.int .i64 0,.int .i64 0,.int .i64 0,.int .i64 0],.int .i64 6],by simp[results,Tryz.results73,go_sem,q0,q1,q2,q3],?_⟩
      exact .inr (.inr ⟨rfl,qi.out Bs Eo⟩)
    ·clear HG
     generalize w8=w9 at*
     have B9:=Qj.out x w9 h9
     have g9:w9.cell? ⟨P.ob,0,none⟩=some (.int .i64 0)∧w9.cell? ⟨P.ob,1,none⟩=some (.int .i64 0)∧w9.cell? ⟨P.ob,2,none⟩=some (.int .i64 0)∧w9.cell? ⟨P.ob,3,none⟩=some (.int .i64 0):=⟨B9.cell 0,B9.cell 1,B9.cell 2,B9.cell 3⟩
     have f9:w9.frozen? ⟨P.ob,0,none⟩=false∧w9.frozen? ⟨P.ob,1,none⟩=false∧w9.frozen? ⟨P.ob,2,none⟩=false∧w9.frozen? ⟨P.ob,3,none⟩=false:=⟨B9.free 0,B9.free 1,B9.free 2,B9.free 3⟩
     obtain⟨iJ,iI,iH,iG⟩:=g9
     obtain⟨f90,f91,f92,f93⟩:=f9
     have H9:=Lib.hid (qV.out x w9 h9)
     clear h9 B9
     go_wp2
     generalize((((w9.setCell ⟨P.ob,0,none⟩ (.int .i64 0)).setCell ⟨P.ob,1,none⟩ (.int .i64 0)).setCell ⟨P.ob,2,none⟩ (.int .i64 0)).setCell ⟨P.ob,3,none⟩ (.int .i64 0))=DS at*
     refine leaves_cons (f:=38) (args:=#[.pointer (some ⟨x,0,none⟩)]) (by simp) (by simp[go_sem]) ?_
     refine(lR.out x _ _ H9.out).mono ?_
     rintro e u1 Bs ⟨rfl,rfl,Eo⟩
     have FM:=XA.out Bs Eo
     have q0:Bs.cell? ⟨P.ob,0,none⟩=some (.int .i64 0):=FM.cell 0
     have q1:Bs.cell? ⟨P.ob,1,none⟩=some (.int .i64 0):=FM.cell 1
     have q2:Bs.cell? ⟨P.ob,2,none⟩=some (.int .i64 0):=FM.cell 2
     have q3:Bs.cell? ⟨P.ob,3,none⟩=some (.int .i64 0):=FM.cell 3
     refine⟨.tuple #[.agg #[.int .i64 0,.int .i64 0,.int .i64 0,.int .i64 0],.int .i64 6],by simp[results,Tryz.results73,go_sem,q0,q1,q2,q3],?_⟩
     exact .inr (.inr ⟨rfl,qi.out Bs Eo⟩)
   ·have h3:once=false:=by have:=kE.out;rw[sQ]at this;simpa using this
    subst h3
    go_wp2_with fail
    refine HG.out.mono ?_
    rintro e w8 ⟨er,rfl,h8⟩
    rcases h8 with⟨rfl,h9⟩|⟨rfl,h9⟩
    ·have DJ:=Lib.hid (Y0.out x w8 h9)
     clear h9 HG
     go_wp2_with fail
     refine DJ.out.mono ?_
     rintro e w9 (⟨F,N,C,rfl,h9⟩|⟨rfl,h9⟩)
     ·clear DJ
      have B9:=BM.out x F N C _ _ w9 rfl h9
      have g9:w9.cell? ⟨P.ob,0,none⟩=some (.int .i64 0)∧w9.cell? ⟨P.ob,1,none⟩=some (.int .i64 0)∧w9.cell? ⟨P.ob,2,none⟩=some (.int .i64 0)∧w9.cell? ⟨P.ob,3,none⟩=some (.int .i64 0):=⟨B9.cell 0,B9.cell 1,B9.cell 2,B9.cell 3⟩
      have f9:w9.frozen? ⟨P.ob,0,none⟩=false∧w9.frozen? ⟨P.ob,1,none⟩=false∧w9.frozen? ⟨P.ob,2,none⟩=false∧w9.frozen? ⟨P.ob,3,none⟩=false:=⟨B9.free 0,B9.free 1,B9.free 2,B9.free 3⟩
      obtain⟨iJ,iI,iH,iG⟩:=g9
      obtain⟨f90,f91,f92,f93⟩:=f9
      have H9:=Lib.hid (Rr.out x F N C w9 h9)
      clear h9 B9
      go_wp2
      generalize((((w9.setCell ⟨P.ob,0,none⟩ (.int .i64 (F:Nat))).setCell ⟨P.ob,1,none⟩ (.int .i64 (N:Nat))).setCell ⟨P.ob,2,none⟩ (.int .i64 (P.k:Nat))).setCell ⟨P.ob,3,none⟩ (.int .i64 (C:Nat)))=DS at*
      refine leaves_cons (f:=38) (args:=#[.pointer (some ⟨x,0,none⟩)]) (by simp) (by simp[go_sem]) ?_
      refine(HD3.out x F N C _ _ _ H9.out).mono ?_
      rintro e u1 Bs ⟨rfl,rfl,Eo⟩
      have FM:=BM.out x F N C _ _ Bs (IT.out F N C) Eo
      have q0:Bs.cell? ⟨P.ob,0,none⟩=some (.int .i64 (F:Nat)):=FM.cell 0
      have q1:Bs.cell? ⟨P.ob,1,none⟩=some (.int .i64 (N:Nat)):=FM.cell 1
      have q2:Bs.cell? ⟨P.ob,2,none⟩=some (.int .i64 (P.k:Nat)):=FM.cell 2
      have q3:Bs.cell? ⟨P.ob,3,none⟩=some (.int .i64 (C:Nat)):=FM.cell 3
      refine⟨.tuple #[.agg #[.int .i64 (F:Nat),.int .i64 (N:Nat),.int .i64 P.k,.int .i64 (C:Nat)],.int .i64 0],by simp[results,Tryz.results73,go_sem,q0,q1,q2,q3],?_⟩
      exact .inr (.inl ⟨x,F,N,C,rfl,jM.out x F N C Bs Eo⟩)
     ·clear DJ
      have B9:=Qj.out x w9 h9
      have g9:w9.cell? ⟨P.ob,0,none⟩=some (.int .i64 0)∧w9.cell? ⟨P.ob,1,none⟩=some (.int .i64 0)∧w9.cell? ⟨P.ob,2,none⟩=some (.int .i64 0)∧w9.cell? ⟨P.ob,3,none⟩=some (.int .i64 0):=⟨B9.cell 0,B9.cell 1,B9.cell 2,B9.cell 3⟩
      have f9:w9.frozen? ⟨P.ob,0,none⟩=false∧w9.frozen? ⟨P.ob,1,none⟩=false∧w9.frozen? ⟨P.ob,2,none⟩=false∧w9.frozen? ⟨P.ob,3,none⟩=false:=⟨B9.free 0,B9.free 1,B9.free 2,B9.free 3⟩
      obtain⟨iJ,iI,iH,iG⟩:=g9
      obtain⟨f90,f91,f92,f93⟩:=f9
      have H9:=Lib.hid (qV.out x w9 h9)
      clear h9 B9
      go_wp2
      generalize((((w9.setCell ⟨P.ob,0,none⟩ (.int .i64 0)).setCell ⟨P.ob,1,none⟩ (.int .i64 0)).setCell ⟨P.ob,2,none⟩ (.int .i64 0)).setCell ⟨P.ob,3,none⟩ (.int .i64 0))=DS at*
      refine leaves_cons (f:=38) (args:=#[.pointer (some ⟨x,0,none⟩)]) (by simp) (by simp[go_sem]) ?_
      refine(lR.out x _ _ H9.out).mono ?_
      rintro e u1 Bs ⟨rfl,rfl,Eo⟩
      have FM:=XA.out Bs Eo
      have q0:Bs.cell? ⟨P.ob,0,none⟩=some (.int .i64 0):=FM.cell 0
      have q1:Bs.cell? ⟨P.ob,1,none⟩=some (.int .i64 0):=FM.cell 1
      have q2:Bs.cell? ⟨P.ob,2,none⟩=some (.int .i64 0):=FM.cell 2
      have q3:Bs.cell? ⟨P.ob,3,none⟩=some (.int .i64 0):=FM.cell 3
      refine⟨.tuple #[.agg #[.int .i64 0,.int .i64 0,.int .i64 0,.int .i64 0],.int .i64 6],by simp[results,Tryz.results73,go_sem,q0,q1,q2,q3],?_⟩
      exact .inr (.inr ⟨rfl,qi.out Bs Eo⟩)
    ·clear HG
     generalize w8=w9 at*
     have B9:=Qj.out x w9 h9
     have g9:w9.cell? ⟨P.ob,0,none⟩=some (.int .i64 0)∧w9.cell? ⟨P.ob,1,none⟩=some (.int .i64 0)∧w9.cell? ⟨P.ob,2,none⟩=some (.int .i64 0)∧w9.cell? ⟨P.ob,3,none⟩=some (.int .i64 0):=⟨B9.cell 0,B9.cell 1,B9.cell 2,B9.cell 3⟩
     have f9:w9.frozen? ⟨P.ob,0,none⟩=false∧w9.frozen? ⟨P.ob,1,none⟩=false∧w9.frozen? ⟨P.ob,2,none⟩=false∧w9.frozen? ⟨P.ob,3,none⟩=false:=⟨B9.free 0,B9.free 1,B9.free 2,B9.free 3⟩
     obtain⟨iJ,iI,iH,iG⟩:=g9
     obtain⟨f90,f91,f92,f93⟩:=f9
     have H9:=Lib.hid (qV.out x w9 h9)
     clear h9 B9
     go_wp2
     generalize((((w9.setCell ⟨P.ob,0,none⟩ (.int .i64 0)).setCell ⟨P.ob,1,none⟩ (.int .i64 0)).setCell ⟨P.ob,2,none⟩ (.int .i64 0)).setCell ⟨P.ob,3,none⟩ (.int .i64 0))=DS at*
     refine leaves_cons (f:=38) (args:=#[.pointer (some ⟨x,0,none⟩)]) (by simp) (by simp[go_sem]) ?_
     refine(lR.out x _ _ H9.out).mono ?_
     rintro e u1 Bs ⟨rfl,rfl,Eo⟩
     have FM:=XA.out Bs Eo
     have q0:Bs.cell? ⟨P.ob,0,none⟩=some (.int .i64 0):=FM.cell 0
     have q1:Bs.cell? ⟨P.ob,1,none⟩=some (.int .i64 0):=FM.cell 1
     have q2:Bs.cell? ⟨P.ob,2,none⟩=some (.int .i64 0):=FM.cell 2
     have q3:Bs.cell? ⟨P.ob,3,none⟩=some (.int .i64 0):=FM.cell 3
     refine⟨.tuple #[.agg #[.int .i64 0,.int .i64 0,.int .i64 0,.int .i64 0],.int .i64 6],by simp[results,Tryz.results73,go_sem,q0,q1,q2,q3],?_⟩
     exact .inr (.inr ⟨rfl,qi.out Bs Eo⟩)
end
structure SP where
 X:Cx
 AP:List AW
 sb:Nat
 rb:Nat
 An:Nat
 o:AB
 once:Bool
 k:Nat
 hh:Nat
 first:Nat
 nb:Nat
 count:Nat
 l:List AB
 m:Nat
 b2:Nat
 b3:Nat
 b4:Nat
 b6:Nat
 b7:Nat
def AQ(b F N k C:Nat):AW:=AI b 39 [.int .i64 (F:Nat),.int .i64 (N:Nat),.int .i64 (k:Nat),.int .i64 (C:Nat)]
def SP.bs(P:SP)(q:Nat):List AW:=[AI P.b2 93 [.pointer (some ⟨P.sb,0,none⟩)],AQ P.b3 P.first P.nb P.k P.count,AQ P.b4 0 0 0 0,AI P.b6 3 [.int .i64 (q:Nat)]]
structure SP.Ok (P:SP) (js:Nat):Prop where
 row:P.AP[js]?=some (AI P.sb 98 (Bh P.X.p.w P.k P.hh P.rb P.An P.o P.once P.count))
 f:NA P.first P.nb P.k P.hh P.l P.X.sz
 c:P.l.length=P.count
 src:Src P.AP P.X.sz P.first P.k P.hh P.l
 rb:0<P.rb∧P.rb≤100000
 An:2≤P.An∧P.An≤1000000
 room1:Ac AW.gw P.AP+2*P.X.sz+P.rb*P.hh*P.k≤P.X.rm
 room2:Ac AW.gw P.AP+P.X.sz+P.An*P.k+P.An*P.X.sz≤P.X.rm
 rm:P.X.rm≤1000000
 n:P.X.N+P.m+40*P.nb+3*P.count+10≤1000000
 prod:P.nb*P.An≤100000000
structure SP.Sd (P:SP) (q i:Nat) (l':List AB) (m':Nat):Prop where
 pw:2^i≤q
 ib:i=0∨2^(i-1)<P.nb
 m:m'≤P.m+2*P.nb*(1+i)
 kind:(q<P.nb∧l'.length=P.count∧UA P.o (q*P.hh) l'∧Cl P.o P.l l')∨(P.nb≤q∧∃s,Hl P.o s∧Cl P.o P.l s∧l'=BG P.once P.o s)
def SP.A(P:SP)(q i F N C:Nat)(W:World):Prop:=∃l' m',P.Sd q i l' m'∧NA F N P.k P.hh l' P.X.sz∧C=l'.length∧Wd P.X (P.AP++P.bs q++[Cf F N P.k P.hh l' P.X.sz,AQ P.b7 F N P.k C]) m' W
def SP.xD(P:SP)(er:Int):Prop:=(er=5∧∀z,¬Rm P.X P.AP z (3*P.nb))∨(er=6∧¬P.X.cm)
def SP.E(P:SP)(er:Int)(q:Nat)(W:World):Prop:=P.xD er∧∃m',Wd P.X (P.AP++P.bs q++[AQ P.b7 0 0 0 0]) m' W
section
variable {P : SP} {q i js : Nat} {W W' : World} {X : Cx} {os : List AW} {m : Nat} {a : AW}
theorem Wd.tf(h:Wd X os m W){j:Nat}(hi:os[j]?=some a)(hx:0<a.ex.2):a.ex.1+a.ex.2≤2000000:=by
 obtain⟨G,D,A,S,h⟩:=h
 have h1:=h.exs j a hi (a.ex.1+a.ex.2-1) ⟨by omega,by omega⟩
 have h2:=(h.s0.2.2.has h1).2
 have h3:=h.s0.1
 have h4:=h.s0.2.1
 omega
theorem JL(q:Nat):GX (P.bs q):=AN ⟨rfl,rfl⟩ (AN ⟨rfl,rfl⟩ (AN ⟨rfl,rfl⟩ (AN ⟨rfl,rfl⟩ BW)))
theorem GI:∀(l:List AW) (_:GX l),Ac AW.gw l=0
 |[],_=>rfl
 |a::l,h=>by
  rw[Bf,GI l fun q hq=>h q (List.mem_cons_of_mem _ hq)]
  have h1:=(h a List.mem_cons_self).1
  unfold AW.gw;rw[h1]
theorem cI{o:AB}{once:Bool}{k hh bd x tT fP n:Nat}{vT:Value}{Z:List AB→List AW}(hS:dI X o once k hh bd x tT fP vT Z n){s:List AB}(hs:s.length≤bd):Ac AW.gw (Z s)=X.sz:=by
 obtain⟨t,r,e1,_,_,_,_,_,h6⟩:=hS.hd s hs
 rw[e1,Bf,GI r h6];rfl
theorem jg{p:Wp}{x:Nat}{t:Wt}{sz:Nat}(h:Wd X os m W){j:Nat}(hi:os[j]?=some (Tw p x t sz)):Wd X (os.set j (Cf (BS t) (AA t.h t.l.length) t.k t.h t.l sz)) m W:=
 h.ZO hi RZ (fun _=>trivial) (fun _ hk=>hk.elim) rfl rfl (fun _ hd=>hd)
theorem cn{o:AB}{k:Nat}{l s:List AB}(h:Cl o l s)(hf:Ds k l):Ds k s:=fun u hu=>hf u (h.symm.mem hu)
theorem ag{on:Bool}{o:AB}{k:Nat}{s:List AB}(hf:Ds k s):Ds k (BG on o s):=fun u hu=>by
 unfold BG at hu
 split at hu
 ·exact hf u (Ld hu)
 ·exact hf u hu
theorem VX{o:AB}{q:Nat}{s:List AB}(h:UA o q s)(hl:s.length≤q):Hl o s:=by
 have h1:=h 0
 rwa [Nat.zero_mul,List.drop_zero,List.take_of_length_le hl]at h1
theorem SP.Ok.file(hP:P.Ok js){t:Wt}{on:Bool}{s:List AB}(ht:Ca t P.X.sz)(_hk:t.k=P.k)(_hh:t.h=P.hh)(hl:t.l=BG on P.o s)(hs:s.length≤P.count)(hf:Ds P.k s):NA (BS t) (AA P.hh t.l.length) P.k P.hh t.l P.X.sz∧AA P.hh t.l.length≤P.nb:=by
 have h1:=Nv on P.o s
 rw[←hl]at h1
 have h2:=hP.f.len
 rw[hP.c]at h2
 refine⟨⟨hP.f.kk,hP.f.hh,hP.f.Ow,rfl,by omega,?_,by rw[hl];exact ag hf⟩,?_⟩
 ·unfold BS;have:=ht.first;split<;>omega
 ·have h3:=hP.f.bn
  rw[hP.c]at h3
  rw[h3];exact Aq hP.f.hh.1 (by omega)
theorem Rm.less{AP z2:List AW}{F n z:Nat}(h:Rm X AP z (3*n))(hz:∀a∈z2,a.ex.2=0∨(a.ex=(F,n))):∃z',Rm X (AP++z2) z' n:=by
 have key:∀z',z≤z'→z'+n≤z+3*n→(z'+n≤F∨F+n≤z')→Rm X (AP++z2) z' n:=fun z' h1 h2 h3 y xd hy2=>by
  obtain⟨k1,k2⟩:=h y (by omega) (by omega)
  refine⟨k1,fun i a hi=>?_⟩
  rcases List.mem_append.1 (List.mem_of_getElem? hi)with hm|hm
  ·obtain⟨j,hj,e⟩:=List.getElem_of_mem hm
   exact k2 j a (by rw[List.getElem?_eq_getElem hj,e])
  ·rcases hz a hm with h4|h4
   ·unfold Fp;rw[h4];omega
   ·unfold Fp;rw[h4]
    show ¬(F≤y∧y<F+n)
    omega
 rcases Nat.lt_or_ge F (z+n)with h1|h1
 ·exact⟨z+2*n,key _ (by omega) (by omega) (by omega)⟩
 ·exact⟨z,key _ (by omega) (by omega) (by omega)⟩
def SP.V1(P:SP)(ob:Nat):VP:=⟨P.X,P.AP++P.bs P.rb,P.o,decide (P.nb≤P.rb)&&P.once,P.k,P.hh,P.count,ob,P.m,P.nb,fun s=>s.length=P.count∧UA P.o (P.rb*P.hh) s∧Cl P.o P.l s⟩
def SP.V2(P:SP)(ob q F N C b9 m:Nat)(l':List AB):VP:=⟨P.X,P.AP++(P.bs q++[Cf F N P.k P.hh l' P.X.sz,AQ P.b7 F N P.k C,AQ b9 F N P.k C]),P.o,decide (P.nb≤q*P.An)&&P.once,P.k,P.hh,P.count,ob,m,P.nb,fun s=>s.length=P.count∧UA P.o (q*P.An*P.hh) s∧Cl P.o l' s⟩
theorem Yp{tT b2 b3 sb:Nat}{vT:Value}{first nb k count:Nat}{Q:Int→World→Prop}(h2:W.cell? ⟨b2,0,none⟩=some (.pointer (some ⟨sb,0,none⟩)))(c0:W.cell? ⟨b3,0,none⟩=some (.int .i64 first))(c1:W.cell? ⟨b3,1,none⟩=some (.int .i64 nb))(c2:W.cell? ⟨b3,2,none⟩=some (.int .i64 k))(c3:W.cell? ⟨b3,3,none⟩=some (.int .i64 count))
  (hF:Calls Tryz.prog 75 #[.pointer (some ⟨sb,0,none⟩),.agg #[.int .i64 first,.int .i64 nb,.int .i64 k,.int .i64 count],.iface tT vT] W fun e w'=>∃er,e=.returned (.int .i64 er)∧Q er w'):
  Calls Tryz.prog 74 (#[.iface tT vT]++#[.pointer (some ⟨b2,0,none⟩),.pointer (some ⟨b3,0,none⟩)]) W fun e w'=>∃er,e=.returned (.int .i64 er)∧Q er w':=by
 have HF:=Lib.hid hF
 clear hF
 show Calls Tryz.prog 74 #[.iface tT vT,.pointer (some ⟨b2,0,none⟩),.pointer (some ⟨b3,0,none⟩)] W _
 go_enter Tryz.func74,Tryz.ntmps74
 go_wp2_with fail
 refine HF.out.mono ?_
 rintro e w' ⟨er,rfl,h⟩
 have HQ:=Lib.hid h
 clear h HF
 go_wp2
 go_ret
 exact⟨_,rfl,HQ.out⟩
theorem Yo{tT b2 b9 b6 sb q:Nat}{vT:Value}{first nb k count:Nat}{Q:Int→World→Prop}(h2:W.cell? ⟨b2,0,none⟩=some (.pointer (some ⟨sb,0,none⟩)))(c0:W.cell? ⟨b9,0,none⟩=some (.int .i64 first))(c1:W.cell? ⟨b9,1,none⟩=some (.int .i64 nb))(c2:W.cell? ⟨b9,2,none⟩=some (.int .i64 k))(c3:W.cell? ⟨b9,3,none⟩=some (.int .i64 count))(c6:W.cell? ⟨b6,0,none⟩=some (.int .i64 q))
  (hF:Calls Tryz.prog 77 #[.pointer (some ⟨sb,0,none⟩),.agg #[.int .i64 first,.int .i64 nb,.int .i64 k,.int .i64 count],.int .i64 q,.iface tT vT] W fun e w'=>∃er,e=.returned (.int .i64 er)∧Q er w'):
  Calls Tryz.prog 76 (#[.iface tT vT]++#[.pointer (some ⟨b2,0,none⟩),.pointer (some ⟨b9,0,none⟩),.pointer (some ⟨b6,0,none⟩)]) W fun e w'=>∃er,e=.returned (.int .i64 er)∧Q er w':=by
 have HF:=Lib.hid hF
 clear hF
 show Calls Tryz.prog 76 #[.iface tT vT,.pointer (some ⟨b2,0,none⟩),.pointer (some ⟨b9,0,none⟩),.pointer (some ⟨b6,0,none⟩)] W _
 go_enter Tryz.func76,Tryz.ntmps76
 go_wp2_with fail
 refine HF.out.mono ?_
 rintro e w' ⟨er,rfl,h⟩
 have HQ:=Lib.hid h
 clear h HF
 go_wp2
 go_ret
 exact⟨_,rfl,HQ.out⟩
theorem oG(hP:P.Ok js)(ob:Nat):(P.V1 ob).Y5 74 #[.pointer (some ⟨P.b2,0,none⟩),.pointer (some ⟨P.b3,0,none⟩)]:=by
 intro x tT fP n vT Z W hS hw
 have D9:=hP.f.len
 rw[hP.c]at D9
 have Ek:Wd P.X (P.AP++(P.bs P.rb++[(P.V1 ob).bx 0 0 0 0]++Z [])) P.m W:=by
  have h:=hw
  rw[List.append_assoc,show (P.V1 ob).AP=P.AP++P.bs P.rb from rfl,List.append_assoc]at h
  rw[List.append_assoc];exact h
 have Av:=Ek.row (AM P.AP (P.bs P.rb++[(P.V1 ob).bx 0 0 0 0]++Z []) 0)
 have Cn:=Ek.row (AM P.AP (P.bs P.rb++[(P.V1 ob).bx 0 0 0 0]++Z []) 1)
 have hg:Ac AW.gw ((P.V1 ob).AP++[(P.V1 ob).bx 0 0 0 0]++Z [])=Ac AW.gw P.AP+P.X.sz:=by
  rw[BO,cI hS (Nat.zero_le _),DF]
  show Ac AW.gw (P.AP++P.bs P.rb)+0+P.X.sz= _
  rw[BO,GI _ (JL _)];rfl
 have hn:=hP.n
 have h1:=hP.room1
 have h2:min P.count (P.rb*P.hh)*P.k≤P.rb*P.hh*P.k:=Nat.mul_le_mul_right _ (Nat.min_le_right _ _)
 have Ip:=hP.rm
 have hroom:P.X.sz+(min P.count (P.rb*P.hh)*P.k)+Ac AW.gw ((P.V1 ob).AP++[(P.V1 ob).bx 0 0 0 0]++Z [])≤P.X.rm:=by rw[hg];omega
 have nG:P.X.N+P.m+3*P.count+3≤1000000:=by omega
 have LI:=ey (AP:=(P.V1 ob).AP++[(P.V1 ob).bx 0 0 0 0]) (js:=js) (count:=P.count) hS (Ag (Ag hP.row)) hw hP.f hP.c hP.src.app.app hP.rb hroom Ip ⟨Nat.le_refl _,D9⟩ nG
 refine(Yp (Q:=fun er w'=>(er=0∧∃s,(P.V1 ob).R s∧s.length≤P.count∧Wd P.X ((P.V1 ob).AP++[(P.V1 ob).bx 0 0 0 0]++Z s) (P.m+P.nb+Eh (P.V1 ob).on P.o P.hh s) w')∨(er=6∧¬P.X.cm∧∃z m',Ml P.X x P.count n Z z∧Wd P.X ((P.V1 ob).AP++[(P.V1 ob).bx 0 0 0 0]++z) m' w')) (Av.cell 0) (Cn.cell 0) (Cn.cell 1) (Cn.cell 2) (Cn.cell 3) (LI.mono ?_)).mono ?_
 ·rintro e w' (⟨he,s,k1,k2,k3,k4,k5⟩|⟨he,Dn,z,m',k1,k2⟩)
  ·exact⟨0,he,.inl ⟨rfl,s,⟨k1,k2,k3⟩,by rw[k1];exact Nat.le_refl _,k5⟩⟩
  ·exact⟨6,he,.inr ⟨rfl,Dn,z,m',k1,k2⟩⟩
 ·rintro e w' ⟨er,he,(⟨rfl,h⟩|⟨rfl,h⟩)⟩
  ·exact .inl ⟨he,h⟩
  ·exact .inr ⟨he,h⟩
end
def SP.CC(P:SP)(q i F' N' k' C':Nat)(er:Int)(q6:Nat)(f1 b7 b9:AW)(W:World):Prop:=
 (er=0∧k'=P.k∧∃l' m',P.Sd (q*P.An) (i+1) l' m'∧NA F' N' P.k P.hh l' P.X.sz∧C'=l'.length∧Wd P.X (P.AP++(P.bs q6++[f1,b7,b9])++[Cf F' N' P.k P.hh l' P.X.sz]) m' W)∨
 (P.xD er∧(F'=0∧N'=0∧k'=0∧C'=0)∧∃m',Wd P.X (P.AP++(P.bs q6++[f1,b7,b9])++[]) m' W)
section
variable {P : SP} {q i js F N C F' N' k' C' Fl q6 m : Nat} {er : Int} {W W' : World} {f1 b7 b9 : AW} {l' : List AB} {z : List AW}
theorem I5(j:Nat):(P.AP++(P.bs q6++[f1,b7,b9])++z)[P.AP.length+j]?=(P.bs q6++[f1,b7,b9]++z)[j]?:=by rw[List.append_assoc];exact AM _ _ j
theorem UU(j:Nat)(v:AW):(P.AP++(P.bs q6++[f1,b7,b9])++z).set (P.AP.length+j) v=P.AP++(P.bs q6++[f1,b7,b9]++z).set j v:=by
 rw[List.append_assoc,List.set_append_right _ _ (by omega),Nat.add_sub_cancel_left]
theorem SP.CC.map{zm b7' b9':AW}{q6':Nat}(h:P.CC q i F' N' k' C' er q6 f1 b7 b9 W)(hw:∀z m,Wd P.X (P.AP++(P.bs q6++[f1,b7,b9])++z) m W→Wd P.X (P.AP++(P.bs q6'++[zm,b7',b9'])++z) m W'):P.CC q i F' N' k' C' er q6' zm b7' b9' W':=by
 rcases h with⟨h1,h2,l',m',h3,h4,h5,h6⟩|⟨h1,h2,m',h6⟩
 ·exact .inl ⟨h1,h2,l',m',h3,h4,h5,hw _ _ h6⟩
 ·exact .inr ⟨h1,h2,m',hw _ _ h6⟩
theorem SP.CC.get(h:P.CC q i F' N' k' C' er q6 f1 b7 b9 W):∃z m,Wd P.X (P.AP++(P.bs q6++[f1,b7,b9])++z) m W:=by
 rcases h with⟨_,_,l',m',_,_,_,h6⟩|⟨_,_,m',h6⟩
 ·exact⟨_,_,h6⟩
 ·exact⟨_,_,h6⟩
theorem SP.CC.below(h:P.CC q i F' N' k' C' er q6 f1 b7 b9 W)(hb:Below W.heap.size W W'):P.CC q i F' N' k' C' er q6 f1 b7 b9 W':=h.map fun _ _ hw=>hw.below hb
theorem SP.CC.lu{g:Nat}{c0 c1 c2 c3:Value}{A B K D:Nat}(h:P.CC q i F' N' k' C' er q6 f1 (AI g 39 [c0,c1,c2,c3]) b9 W)(hw:W'=((((W.setCell ⟨g,0,none⟩ (.int .i64 (A:Nat))).setCell ⟨g,1,none⟩ (.int .i64 (B:Nat))).setCell ⟨g,2,none⟩ (.int .i64 (K:Nat))).setCell ⟨g,3,none⟩ (.int .i64 (D:Nat)))):P.CC q i F' N' k' C' er q6 f1 (AQ g A B K D) b9 W':=by
 refine h.map fun z m h1=>?_
 have Bp:(P.AP++(P.bs q6++[f1,AI g 39 [c0,c1,c2,c3],b9])++z)[P.AP.length+5]?=some (AI g 39 [c0,c1,c2,c3]):=I5 5
 obtain⟨k1,k2⟩:=EF (F:=A) (N:=B) (k:=K) (C:=D) (h1.row Bp)
 have h2:=h1.MU Bp (by decide) k2 k1
 rw[UU]at h2
 rw[hw,List.append_assoc];exact h2
theorem SP.CC.lz{n:Nat}(h:P.CC q i F' N' k' C' er q6 f1 b7 b9 W):P.CC q i F' N' k' C' er n f1 b7 b9 (W.setCell ⟨P.b6,0,none⟩ (.int .i64 (n:Nat))):=by
 refine h.map fun z m h1=>?_
 have Bp:(P.AP++(P.bs q6++[f1,b7,b9])++z)[P.AP.length+3]?=some (AI P.b6 3 [.int .i64 (q6:Nat)]):=I5 3
 have h2:=h1.store Bp (by decide) 0 (.int .i64 (n:Nat))
 rw[UU]at h2
 rw[List.append_assoc];exact h2
theorem SP.CC.free{k hh sz:Nat}{l0:List AB}(h:P.CC q i F' N' k' C' er q6 (Cf F N k hh l0 sz) b7 b9 W)(hf:F≤2000000)(hn:N≤2000000)(c:Nat):Calls Tryz.prog 49 #[.pointer (some ⟨P.X.p.w,0,none⟩),.agg #[.int .i64 (F:Nat),.int .i64 (N:Nat),.int .i64 (k:Nat),.int .i64 (c:Nat)]] W fun e w'=>e=.returned (.int .i64 0)∧P.CC q i F' N' k' C' er q6 Bi b7 b9 w':=by
 have key:∀z m,Wd P.X (P.AP++(P.bs q6++[Cf F N k hh l0 sz,b7,b9])++z) m W→Calls Tryz.prog 49 #[.pointer (some ⟨P.X.p.w,0,none⟩),.agg #[.int .i64 (F:Nat),.int .i64 (N:Nat),.int .i64 (k:Nat),.int .i64 (c:Nat)]] W fun e w'=>e=.returned (.int .i64 0)∧Wd P.X (P.AP++(P.bs q6++[Bi,b7,b9])++z) m w':=fun z m h1=>by
  have Bp:(P.AP++(P.bs q6++[Cf F N k hh l0 sz,b7,b9])++z)[P.AP.length+4]?=some (Cf F N k hh l0 sz):=I5 4
  refine(Vq h1 Bp hf hn c).mono ?_
  rintro e w' ⟨he,h2⟩
  rw[UU]at h2
  exact⟨he,by rw[List.append_assoc];exact h2⟩
 rcases h with⟨h1,h2,l',m',h3,h4,h5,h6⟩|⟨h1,h2,m',h6⟩
 ·exact(key _ _ h6).mono fun e w' ⟨he,h7⟩=>⟨he,.inl ⟨h1,h2,l',m',h3,h4,h5,h7⟩⟩
 ·exact(key _ _ h6).mono fun e w' ⟨he,h7⟩=>⟨he,.inr ⟨h1,h2,m',h7⟩⟩
theorem SP.CC.fin(h:P.CC q i F' N' k' C' er (q*P.An) Bi (AQ P.b7 F' N' k' C') (AQ Fl F N P.k C) W):(er=0∧P.A (q*P.An) (i+1) F' N' C' W)∨P.E er (q*P.An) W:=by
 rcases h with⟨h1,h2,l',m',h3,h4,h5,h6⟩|⟨h1,⟨e1,e2,e3,e4⟩,m',h6⟩
 ·subst h2
  refine .inl ⟨h1,l',m',h3,h4,h5,?_⟩
  have h7:=Wd.perm (os':=P.AP++P.bs (q*P.An)++[Cf F' N' P.k P.hh l' P.X.sz,AQ P.b7 F' N' P.k C']++[Bi,AQ Fl F N P.k C]) h6 (by
   rw[List.append_assoc,List.append_assoc,List.append_assoc,List.append_assoc]
   refine List.Perm.append_left _ (List.Perm.append_left _ ?_)
   show List.Perm [_,_,Bi,_] [Bi,_,_,_]
   refine(List.perm_append_comm (l₁:=[Cf F' N' P.k P.hh l' P.X.sz,AQ P.b7 F' N' P.k C']) (l₂:=[Bi,AQ Fl F N P.k C])).trans ?_
   refine List.Perm.cons _ ?_
   exact(List.perm_append_comm (l₁:=[AQ Fl F N P.k C,Cf F' N' P.k P.hh l' P.X.sz]) (l₂:=[AQ P.b7 F' N' P.k C'])).trans (List.Perm.refl _))
  exact h7.forget (AN ⟨rfl,rfl⟩ (AN ⟨rfl,rfl⟩ BW))
 ·subst e1 e2 e3 e4
  refine .inr ⟨h1,m',?_⟩
  rw[List.append_nil]at h6
  have h7:=Wd.perm (os':=P.AP++P.bs (q*P.An)++[AQ P.b7 0 0 0 0]++[Bi,AQ Fl F N P.k C]) h6 (by
   rw[List.append_assoc,List.append_assoc]
   refine List.Perm.append_left _ (List.Perm.append_left _ ?_)
   exact List.perm_append_comm (l₁:=[AQ P.b7 0 0 0 0]) (l₂:=[Bi,AQ Fl F N P.k C])|>.trans (List.Perm.cons _ (List.Perm.swap _ _ _)))
  exact h7.forget (AN ⟨rfl,rfl⟩ (AN ⟨rfl,rfl⟩ BW))
theorem oF (hP : P.Ok js) (ob : Nat) (gW : P.Sd q i l' m) (hq : q < P.nb) (hf : NA F N P.k P.hh l' P.X.sz) (hC : C = l'.length) : (P.V2 ob q F N C Fl m l').Y5 76 #[.pointer (some ⟨P.b2, 0, none⟩), .pointer (some ⟨Fl, 0, none⟩), .pointer (some ⟨P.b6, 0, none⟩)] := by
  intro x tT fP n vT Z W hS hw
  obtain ⟨hi, hib, hm, hk⟩ := gW
  rcases hk with ⟨_, hl, hch, D9⟩ | ⟨h1, _⟩
  · have Ks := hP.f.len
    rw [hP.c] at Ks
    have Hu : N = P.nb := by
      have h1 := hf.bn
      have h2 := hP.f.bn
      rw [h1, h2, hl, hP.c]
    have YO : P.nb ≤ P.count := by
      have h2 := hP.f.bn
      rw [hP.c] at h2
      rw [h2]; exact BL _ _
    have yq : i ≤ 17 := by
      rcases hib with h1 | h1
      · omega
      · rcases Nat.lt_or_ge 17 i with h2 | h2
        · have h3 : 2 ^ 17 ≤ 2 ^ (i - 1) := Nat.pow_le_pow_right (by omega) (by omega)
          have h4 : (2 : Nat) ^ 17 = 131072 := by decide
          omega
        · exact h2
    have hm2 : m ≤ P.m + 36 * P.nb := by
      have h1 : 2 * P.nb * (1 + i) ≤ 2 * P.nb * 18 := Nat.mul_le_mul_left _ (by omega)
      omega
    have hn := hP.n
    have Y9 : Wd P.X (P.AP ++ (P.bs q ++ [Cf F N P.k P.hh l' P.X.sz, AQ P.b7 F N P.k C, AQ Fl F N P.k C]) ++ ([(P.V2 ob q F N C Fl m l').bx 0 0 0 0] ++ Z [])) m W := by
      rw [← List.append_assoc]; exact hw
    have Av := Y9.row (I5 0)
    have Ez := Y9.row (I5 3)
    have GG := Y9.row (I5 6)
    have g7 : (P.AP ++ (P.bs q ++ [Cf F N P.k P.hh l' P.X.sz, AQ P.b7 F N P.k C, AQ Fl F N P.k C]) ++ ([(P.V2 ob q F N C Fl m l').bx 0 0 0 0] ++ Z []))[P.AP.length + 4]? = some (Cf F N P.k P.hh l' P.X.sz) := I5 4
    have hFN : F + N ≤ 2000000 := Y9.tf g7 (by show 0 < N; omega)
    have hg : ∀ s, s.length ≤ P.count → Ac AW.gw ((P.V2 ob q F N C Fl m l').AP ++ [(P.V2 ob q F N C Fl m l').bx 0 0 0 0] ++ Z s) = Ac AW.gw P.AP + P.X.sz := fun s hs => by
      rw [BO, cI hS hs, DF]
      show Ac AW.gw (P.AP ++ (P.bs q ++ [Cf F N P.k P.hh l' P.X.sz, AQ P.b7 F N P.k C, AQ Fl F N P.k C])) + 0 + P.X.sz = _
      rw [BO, BO, GI _ (JL _)]; rfl
    let Q : JP := ⟨P.X, (P.V2 ob q F N C Fl m l').AP ++ [(P.V2 ob q F N C Fl m l').bx 0 0 0 0], Z, P.o, (P.V2 ob q F N C Fl m l').on, P.k, P.hh, P.count, x, tT, fP, vT, n, m, F, N, P.count, q, P.An, q * P.An, l'⟩
    have AE2 := hP.room2
    have B6 : 0 < q := Nat.lt_of_lt_of_le (Nat.pow_pos (by omega)) hi
    have hQ : Q.Ok := {
      S := hS
      f := hf
      c := hl
      src := by
        refine Src.app ⟨P.AP.length + 4, Cf F N P.k P.hh l' P.X.sz, AM P.AP _ 4, fun D hD hd => ?_, fun _ => ?_⟩
        · have h1 := hd hD
          rw [hf.bn] at h1; exact h1
        · show F ≤ F ∧ F + AA P.hh l'.length ≤ F + N
          rw [hf.bn]; omega
      rb := ⟨B6, by show q ≤ 1000000; omega⟩
      An := ⟨by have := hP.An.1; show 0 < P.An; omega, hP.An.2⟩
      L := rfl
      fst := hFN
      asc := hch
      room := fun s hs => by
        show Ac AW.gw ((P.V2 ob q F N C Fl m l').AP ++ [(P.V2 ob q F N C Fl m l').bx 0 0 0 0] ++ Z s) + P.An * P.k + P.An * P.X.sz ≤ P.X.rm
        rw [hg s hs]; omega
      rm := hP.rm
      bd := ⟨Nat.le_refl _, Ks⟩
      n := by show P.X.N + m + N + P.count + 3 ≤ 1000000; omega }
    have wG : q * P.An ≤ 100000000 := Nat.le_trans (Nat.mul_le_mul_right _ (by omega)) hP.prod
    have hCc : C = P.count := by rw [hC, hl]
    subst hCc
    refine (Yo (Q := fun er w' => (er = 0 ∧ ∃ s, (P.V2 ob q F N P.count Fl m l').R s ∧ s.length ≤ P.count ∧ Wd P.X ((P.V2 ob q F N P.count Fl m l').AP ++ [(P.V2 ob q F N P.count Fl m l').bx 0 0 0 0] ++ Z s) (m + P.nb + Eh (P.V2 ob q F N P.count Fl m l').on P.o P.hh s) w') ∨ (er = 6 ∧ ¬ P.X.cm ∧ ∃ z m', Ml P.X x P.count n Z z ∧ Wd P.X ((P.V2 ob q F N P.count Fl m l').AP ++ [(P.V2 ob q F N P.count Fl m l').bx 0 0 0 0] ++ z) m' w')) (Av.cell 0) (GG.cell 0) (GG.cell 1) (GG.cell 2) (GG.cell 3) (Ez.cell 0) ((ew (P := Q) (js := js) (Rw := P.rb) (Mv := P.once) hQ (Ag (Ag hP.row)) wG hw).mono ?_)).mono ?_
    · rintro e w' (⟨he, s, k1, k2, k3, k5⟩ | ⟨he, Dn, z, m', k1, k2⟩)
      · have k6 : Wd P.X ((P.V2 ob q F N P.count Fl m l').AP ++ [(P.V2 ob q F N P.count Fl m l').bx 0 0 0 0] ++ Z s) (m + N + Eh (P.V2 ob q F N P.count Fl m l').on P.o P.hh s) w' := k5
        rw [Hu] at k6
        have k7 : s.length = P.count := k1
        exact ⟨0, he, .inl ⟨rfl, s, ⟨k7, k2, k3⟩, by omega, by rw [← Hu]; rw [← Hu] at k6; exact k6⟩⟩
      · exact ⟨6, he, .inr ⟨rfl, Dn, z, m', k1, k2⟩⟩
    · rintro e w' ⟨er, he, (⟨rfl, h⟩ | ⟨rfl, h⟩)⟩
      · exact .inl ⟨he, h⟩
      · exact .inr ⟨he, h⟩
  · omega
end
def SP.B1(P:SP)(F N k' C:Nat)(er:Int)(W:World):Prop:=
 (er=0∧k'=P.k∧∃l' m',P.Sd P.rb 0 l' m'∧NA F N P.k P.hh l' P.X.sz∧C=l'.length∧Wd P.X (P.AP++P.bs P.rb++[Cf F N P.k P.hh l' P.X.sz]) m' W)∨
 (P.xD er∧(F=0∧N=0∧k'=0∧C=0)∧∃m',Wd P.X (P.AP++P.bs P.rb) m' W)
section
variable {P : SP} {q i js F N C Fl m : Nat} {W W' : World} {l' : List AB}
theorem SP.Ok.kind(hP:P.Ok js){q:Nat}{s:List AB}(h1:s.length=P.count)(h2:UA P.o (q*P.hh) s)(h3:Cl P.o P.l s):
  (q<P.nb∧(BG (decide (P.nb≤q)&&P.once) P.o s).length=P.count∧UA P.o (q*P.hh) (BG (decide (P.nb≤q)&&P.once) P.o s)∧Cl P.o P.l (BG (decide (P.nb≤q)&&P.once) P.o s))∨(P.nb≤q∧∃s',Hl P.o s'∧Cl P.o P.l s'∧BG (decide (P.nb≤q)&&P.once) P.o s=BG P.once P.o s'):=by
 have PJ:=hP.f.bn
 rw[hP.c]at PJ
 rcases Nat.lt_or_ge q P.nb with hq|hq
 ·rw[decide_eq_false (by omega),Bool.false_and]
  exact .inl ⟨hq,h1,h2,h3⟩
 ·rw[decide_eq_true hq,Bool.true_and]
  refine .inr ⟨hq,s,VX h2 ?_,h3,rfl⟩
  rw[h1]
  refine Nat.le_trans (I4 hP.f.hh.1 P.count) ?_
  rw[←PJ];exact Nat.mul_le_mul_right _ hq
theorem SP.Tb(hP:P.Ok js)(h:Wd P.X (P.AP++P.bs P.rb) P.m W):Calls Tryz.prog 73 #[.pointer (some ⟨P.sb,0,none⟩),.bool (decide (P.nb≤P.rb)),.func (.func 74) #[] #[.pointer (some ⟨P.b2,0,none⟩),.pointer (some ⟨P.b3,0,none⟩)]] W fun e w'=>
  ∃(F N k' C:Nat) (er:Int),e=.returned (.tuple #[.agg #[.int .i64 (F:Nat),.int .i64 (N:Nat),.int .i64 (k':Nat),.int .i64 (C:Nat)],.int .i64 er])∧P.B1 F N k' C er w':=by
 have D9:=hP.f.len
 rw[hP.c]at D9
 have PJ:=hP.f.bn
 rw[hP.c]at PJ
 have hn:=hP.n
 have hr:=hP.room1
 have hg:Ac AW.gw (P.AP++P.bs P.rb)=Ac AW.gw P.AP:=by rw[BO,GI _ (JL _)];rfl
 have YO:P.nb≤P.count:=by rw[PJ];exact BL _ _
 refine(PY (P:=P.V1 W.heap.size) (once:=P.once) (Pt:=decide (P.nb≤P.rb)) (Ag hP.row) rfl (oG hP _) (fun args w=>by kernel_rfl) hP.f.Ow hP.f.hh.1 D9 (by show P.X.sz+Ac AW.gw (P.AP++P.bs P.rb)≤P.X.rm;rw[hg];omega) (fun s hs=>?_) rfl h).mono ?_
 ·have h1:=Jk (P.V1 W.heap.size).on P.o P.hh s
  have h2:s.length=P.count:=hs.1
  show P.X.N+(P.m+P.nb+Eh (P.V1 W.heap.size).on P.o P.hh s)<1000000
  omega
 ·rintro e w' (⟨he,h1,h2⟩|⟨x,F,N,C,he,s,t,⟨h1,h2,h3⟩,h4,h5,h6,h7,⟨h8,h9,FJ⟩,LJ⟩|⟨he,Dn,m',h2⟩)
  ·refine⟨0,0,0,0,5,he,.inr ⟨.inl ⟨rfl,fun z hz=>?_⟩,⟨rfl,rfl,rfl,rfl⟩,P.m,h2⟩⟩
   obtain⟨z',xZ⟩:=Rm.less (z2:=P.bs P.rb) (F:=0) hz fun a ha=>.inl (JL _ a ha).2
   refine h1 z' ?_
   show Rm P.X (P.AP++P.bs P.rb) z' (AA P.hh P.count)
   rw[←PJ];exact xZ
  ·have Pw:s.length≤P.count:=by omega
   obtain⟨f1,f2⟩:=hP.file h4 h5 h6 h7 Pw (cn h3 hP.f.fit)
   have Eo:Wd P.X (P.AP++P.bs P.rb++[Tw P.X.p x t P.X.sz]) (P.m+P.nb+AA P.hh t.l.length) w':=LJ
   have Bp:(P.AP++P.bs P.rb++[Tw P.X.p x t P.X.sz])[(P.AP++P.bs P.rb).length]?=some (Tw P.X.p x t P.X.sz):=AM _ _ 0
   have J0:=jg Eo Bp
   have h5:t.k=P.k:=h5
   have h6:t.h=P.hh:=h6
   have h9:N=AA P.hh t.l.length:=h9
   rw[Ct,h5,h6,←h8,←h9]at J0
   have hk:=hP.kind h1 h2 h3
   have h7:t.l=BG (decide (P.nb≤P.rb)&&P.once) P.o s:=h7
   rw[←h7]at hk
   refine⟨F,N,P.k,C,0,he,.inl ⟨rfl,rfl,t.l,P.m+P.nb+N,⟨by rw[Nat.pow_zero];exact hP.rb.1,.inl rfl,by rw[h9];omega,hk⟩,by rw[h8,h9];exact f1,FJ,J0⟩⟩
  ·exact⟨0,0,0,0,6,he,.inr ⟨.inr ⟨rfl,Dn⟩,⟨rfl,rfl,rfl,rfl⟩,m',h2⟩⟩
theorem SP.Ug(hP:P.Ok js)(gW:P.Sd q i l' m)(hq:q<P.nb)(hf:NA F N P.k P.hh l' P.X.sz)(hC:C=l'.length)(h:Wd P.X (P.AP++(P.bs q++[Cf F N P.k P.hh l' P.X.sz,AQ P.b7 F N P.k C,AQ Fl F N P.k C])) m W):
  Calls Tryz.prog 73 #[.pointer (some ⟨P.sb,0,none⟩),.bool (decide (P.nb≤q*P.An)),.func (.func 76) #[] #[.pointer (some ⟨P.b2,0,none⟩),.pointer (some ⟨Fl,0,none⟩),.pointer (some ⟨P.b6,0,none⟩)]] W fun e w'=>
  ∃(F' N' k' C':Nat) (er:Int),e=.returned (.tuple #[.agg #[.int .i64 (F':Nat),.int .i64 (N':Nat),.int .i64 (k':Nat),.int .i64 (C':Nat)],.int .i64 er])∧P.CC q i F' N' k' C' er q (Cf F N P.k P.hh l' P.X.sz) (AQ P.b7 F N P.k C) (AQ Fl F N P.k C) w':=by
 have D9:=hP.f.len
 rw[hP.c]at D9
 have PJ:=hP.f.bn
 rw[hP.c]at PJ
 have hn:=hP.n
 have hr:=hP.room1
 have hg:Ac AW.gw (P.AP++(P.bs q++[Cf F N P.k P.hh l' P.X.sz,AQ P.b7 F N P.k C,AQ Fl F N P.k C]))=Ac AW.gw P.AP:=by rw[BO,BO,GI _ (JL _)];rfl
 have YO:P.nb≤P.count:=by rw[PJ];exact BL _ _
 have hib:=gW.ib
 have yq:i≤17:=by
  rcases hib with h1|h1
  ·omega
  ·rcases Nat.lt_or_ge 17 i with h2|h2
   ·have h3:2^17≤2^(i-1):=Nat.pow_le_pow_right (by omega) (by omega)
    have h4:(2:Nat)^17=131072:=by decide
    omega
   ·exact h2
 have hm2:m≤P.m+36*P.nb:=by
  have h1:2*P.nb*(1+i)≤2*P.nb*18:=Nat.mul_le_mul_left _ (by omega)
  have:=gW.m;omega
 have hlk:l'.length=P.count∧Cl P.o P.l l':=by
  rcases gW.kind with⟨_,h1,_,h2⟩|⟨h1,_⟩
  ·exact⟨h1,h2⟩
  ·omega
 refine(PY (P:=P.V2 W.heap.size q F N C Fl m l') (once:=P.once) (Pt:=decide (P.nb≤q*P.An)) (Ag hP.row) rfl (oF hP _ gW hq hf hC) (fun args w=>by kernel_rfl) hP.f.Ow hP.f.hh.1 D9 (by show P.X.sz+Ac AW.gw (P.AP++(P.bs q++[Cf F N P.k P.hh l' P.X.sz,AQ P.b7 F N P.k C,AQ Fl F N P.k C]))≤P.X.rm;rw[hg];omega) (fun s hs=>?_) rfl h).mono ?_
 ·have h1:=Jk (P.V2 W.heap.size q F N C Fl m l').on P.o P.hh s
  have h2:s.length=P.count:=hs.1
  show P.X.N+(m+P.nb+Eh (P.V2 W.heap.size q F N C Fl m l').on P.o P.hh s)<1000000
  omega
 ·rintro e w' (⟨he,h1,h2⟩|⟨x,F',N',C',he,s,t,⟨h1,h2,h3⟩,h4,h5,h6,h7,⟨h8,h9,FJ⟩,LJ⟩|⟨he,Dn,m',h2⟩)
  ·refine⟨0,0,0,0,5,he,.inr ⟨.inl ⟨rfl,fun z hz=>?_⟩,⟨rfl,rfl,rfl,rfl⟩,m,by rw[List.append_nil];exact h2⟩⟩
   have hNn:N=P.nb:=by rw[hf.bn,hlk.1,PJ]
   obtain⟨z',xZ⟩:=Rm.less (z2:=P.bs q++[Cf F N P.k P.hh l' P.X.sz,AQ P.b7 F N P.k C,AQ Fl F N P.k C]) (F:=F) hz fun a ha=>by
    rcases List.mem_append.1 ha with ha|ha
    ·exact .inl (JL _ a ha).2
    ·simp at ha
     rcases ha with rfl|rfl|rfl
     ·right;show (F,N)=(F,P.nb);rw[hNn]
     ·exact .inl rfl
     ·exact .inl rfl
   refine h1 z' ?_
   show Rm P.X (P.AP++(P.bs q++[Cf F N P.k P.hh l' P.X.sz,AQ P.b7 F N P.k C,AQ Fl F N P.k C])) z' (AA P.hh P.count)
   rw[←PJ];exact xZ
  ·have Pw:s.length≤P.count:=by omega
   have qN:Cl P.o P.l s:=hlk.2.trans h3
   obtain⟨f1,f2⟩:=hP.file h4 h5 h6 h7 Pw (cn qN hP.f.fit)
   have Eo:Wd P.X (P.AP++(P.bs q++[Cf F N P.k P.hh l' P.X.sz,AQ P.b7 F N P.k C,AQ Fl F N P.k C])++[Tw P.X.p x t P.X.sz]) (m+P.nb+AA P.hh t.l.length) w':=LJ
   have Bp:(P.AP++(P.bs q++[Cf F N P.k P.hh l' P.X.sz,AQ P.b7 F N P.k C,AQ Fl F N P.k C])++[Tw P.X.p x t P.X.sz])[(P.AP++(P.bs q++[Cf F N P.k P.hh l' P.X.sz,AQ P.b7 F N P.k C,AQ Fl F N P.k C])).length]?=some (Tw P.X.p x t P.X.sz):=AM _ _ 0
   have J0:=jg Eo Bp
   have h5:t.k=P.k:=h5
   have h6:t.h=P.hh:=h6
   have h9:N'=AA P.hh t.l.length:=h9
   rw[Ct,h5,h6,←h8,←h9]at J0
   have hk:=hP.kind h1 h2 qN
   have h7:t.l=BG (decide (P.nb≤q*P.An)&&P.once) P.o s:=h7
   rw[←h7]at hk
   have hmm:=gW.m
   have yJ:2^(i+1)≤q*P.An:=by
    rw[Nat.pow_succ];exact Nat.mul_le_mul gW.pw hP.An.1
   refine⟨F',N',P.k,C',0,he,.inl ⟨rfl,rfl,t.l,m+P.nb+N',⟨yJ,.inr (by rw[Nat.add_sub_cancel];exact Nat.lt_of_le_of_lt gW.pw hq),?_,hk⟩,by rw[h8,h9];exact f1,FJ,J0⟩⟩
   have Jb:2*P.nb*(1+(i+1))=2*P.nb*(1+i)+2*P.nb:=by rw[show 1+(i+1)=(1+i)+1 by omega,Nat.mul_add,Nat.mul_one]
   rw[Jb,h9];omega
  ·exact⟨0,0,0,0,6,he,.inr ⟨.inr ⟨rfl,Dn⟩,⟨rfl,rfl,rfl,rfl⟩,m',by rw[List.append_nil];exact h2⟩⟩
end
def SP.dy(P:SP)(e:Ending)(w':World):Prop:=
 (∃(F N C:Nat) (l':List AB) (m' i:Nat),e=.returned (.tuple #[.agg #[.int .i64 (F:Nat),.int .i64 (N:Nat),.int .i64 P.k,.int .i64 (C:Nat)],.int .i64 0])∧(∃s,Hl P.o s∧Cl P.o P.l s∧l'=BG P.once P.o s)∧NA F N P.k P.hh l' P.X.sz∧C=l'.length∧
  (i=0∨2^(i-1)<P.nb)∧m'≤P.m+2*P.nb*(1+i)∧Wd P.X (P.AP++[Cf F N P.k P.hh l' P.X.sz]) m' w')∨
 (∃er,e=.returned (.tuple #[.agg #[.int .i64 0,.int .i64 0,.int .i64 0,.int .i64 0],.int .i64 er])∧P.xD er∧∃m',Wd P.X P.AP m' w')
section
variable {P : SP} {q i js F N C : Nat} {W W' : World} {er : Int}
theorem SP.A.row(h:P.A q i F N C W):Row W P.b2 93 [.pointer (some ⟨P.sb,0,none⟩)]∧Row W P.b3 39 [.int .i64 (P.first:Nat),.int .i64 (P.nb:Nat),.int .i64 (P.k:Nat),.int .i64 (P.count:Nat)]∧Row W P.b4 39 [.int .i64 0,.int .i64 0,.int .i64 0,.int .i64 0]∧Row W P.b6 3 [.int .i64 (q:Nat)]∧Row W P.b7 39 [.int .i64 (F:Nat),.int .i64 (N:Nat),.int .i64 (P.k:Nat),.int .i64 (C:Nat)]:=by
 obtain⟨l',m',_,_,_,h⟩:=h
 rw[List.append_assoc]at h
 exact⟨h.row (AM _ _ 0),h.row (AM _ _ 1),h.row (AM _ _ 2),h.row (AM _ _ 3),h.row (AM _ _ 5)⟩
theorem SP.E.row(h:P.E er q W):Row W P.b2 93 [.pointer (some ⟨P.sb,0,none⟩)]∧Row W P.b3 39 [.int .i64 (P.first:Nat),.int .i64 (P.nb:Nat),.int .i64 (P.k:Nat),.int .i64 (P.count:Nat)]∧Row W P.b4 39 [.int .i64 0,.int .i64 0,.int .i64 0,.int .i64 0]∧Row W P.b6 3 [.int .i64 (q:Nat)]∧Row W P.b7 39 [.int .i64 0,.int .i64 0,.int .i64 0,.int .i64 0]:=by
 obtain⟨_,m',h⟩:=h
 rw[List.append_assoc]at h
 exact⟨h.row (AM _ _ 0),h.row (AM _ _ 1),h.row (AM _ _ 2),h.row (AM _ _ 3),h.row (AM _ _ 4)⟩
theorem SP.A.sort(hP:P.Ok js)(h:P.A q i F N C W):Row W P.sb 98 (Bh P.X.p.w P.k P.hh P.rb P.An P.o P.once P.count):=by
 obtain⟨l',m',_,_,_,h⟩:=h
 exact h.row (Ag (Ag hP.row))
theorem SP.A.fin(h:P.A q i F N C W)(hq:P.nb≤q)(hw:W'=((((W.setCell ⟨P.b4,0,none⟩ (.int .i64 (F:Nat))).setCell ⟨P.b4,1,none⟩ (.int .i64 (N:Nat))).setCell ⟨P.b4,2,none⟩ (.int .i64 (P.k:Nat))).setCell ⟨P.b4,3,none⟩ (.int .i64 (C:Nat)))):
  (W'.cell? ⟨P.b4,0,none⟩=some (.int .i64 (F:Nat))∧W'.cell? ⟨P.b4,1,none⟩=some (.int .i64 (N:Nat))∧W'.cell? ⟨P.b4,2,none⟩=some (.int .i64 (P.k:Nat))∧W'.cell? ⟨P.b4,3,none⟩=some (.int .i64 (C:Nat)))∧
   Hid (P.dy (.returned (.tuple #[.agg #[.int .i64 (F:Nat),.int .i64 (N:Nat),.int .i64 P.k,.int .i64 (C:Nat)],.int .i64 0])) W'):=by
 subst hw
 obtain⟨l',m',h1,h2,h3,h⟩:=h
 have h0:Wd P.X (P.AP++(P.bs q++[Cf F N P.k P.hh l' P.X.sz,AQ P.b7 F N P.k C])) m' W:=by rw[←List.append_assoc];exact h
 have Bp:(P.AP++(P.bs q++[Cf F N P.k P.hh l' P.X.sz,AQ P.b7 F N P.k C]))[P.AP.length+2]?=some (AI P.b4 39 [.int .i64 ((0:Nat):Int),.int .i64 ((0:Nat):Int),.int .i64 ((0:Nat):Int),.int .i64 ((0:Nat):Int)]):=AM _ _ 2
 obtain⟨k1,k2⟩:=EF (F:=F) (N:=N) (k:=P.k) (C:=C) (h0.row Bp)
 have h4:=h0.MU Bp (by decide) k2 k1
 rw[List.set_append_right _ _ (by omega),Nat.add_sub_cancel_left]at h4
 refine⟨⟨k1.cell 0,k1.cell 1,k1.cell 2,k1.cell 3⟩,.inl ⟨F,N,C,l',m',i,rfl,?_,h2,h3,h1.ib,h1.m,?_⟩⟩
 ·rcases h1.kind with⟨h5,_⟩|⟨_,h5⟩
  ·omega
  ·exact h5
 ·have h5:=Wd.perm (os':=P.AP++[Cf F N P.k P.hh l' P.X.sz]++([AI P.b2 93 [.pointer (some ⟨P.sb,0,none⟩)],AQ P.b3 P.first P.nb P.k P.count,AQ P.b4 F N P.k C,AI P.b6 3 [.int .i64 (q:Nat)]]++[AQ P.b7 F N P.k C])) h4 (by
   rw[List.append_assoc]
   refine List.Perm.append_left _ ?_
   exact(List.perm_append_comm (l₁:=[Cf F N P.k P.hh l' P.X.sz]) (l₂:=[AI P.b2 93 [.pointer (some ⟨P.sb,0,none⟩)],AQ P.b3 P.first P.nb P.k P.count,AQ P.b4 F N P.k C,AI P.b6 3 [.int .i64 (q:Nat)]]++[AQ P.b7 F N P.k C])).trans (by
    show List.Perm ([_,_,_,_]++([_]++[_])) ([_,_,_,_]++([_]++[_]))
    exact List.Perm.append_left _ List.perm_append_comm))
  exact h5.forget (AN ⟨rfl,rfl⟩ (AN ⟨rfl,rfl⟩ (AN ⟨rfl,rfl⟩ (AN ⟨rfl,rfl⟩ (AN ⟨rfl,rfl⟩ BW)))))
theorem SP.E.fin(h:P.E er q W)(hw:W'=((((W.setCell ⟨P.b4,0,none⟩ (.int .i64 0)).setCell ⟨P.b4,1,none⟩ (.int .i64 0)).setCell ⟨P.b4,2,none⟩ (.int .i64 0)).setCell ⟨P.b4,3,none⟩ (.int .i64 0))):
  (W'.cell? ⟨P.b4,0,none⟩=some (.int .i64 0)∧W'.cell? ⟨P.b4,1,none⟩=some (.int .i64 0)∧W'.cell? ⟨P.b4,2,none⟩=some (.int .i64 0)∧W'.cell? ⟨P.b4,3,none⟩=some (.int .i64 0))∧
   Hid (P.dy (.returned (.tuple #[.agg #[.int .i64 0,.int .i64 0,.int .i64 0,.int .i64 0],.int .i64 er])) W'):=by
 subst hw
 obtain⟨h1,m',h⟩:=h
 have h0:Wd P.X (P.AP++(P.bs q++[AQ P.b7 0 0 0 0])) m' W:=by rw[←List.append_assoc];exact h
 have Bp:(P.AP++(P.bs q++[AQ P.b7 0 0 0 0]))[P.AP.length+2]?=some (AI P.b4 39 [.int .i64 ((0:Nat):Int),.int .i64 ((0:Nat):Int),.int .i64 ((0:Nat):Int),.int .i64 ((0:Nat):Int)]):=AM _ _ 2
 obtain⟨k1,k2⟩:=EF (F:=0) (N:=0) (k:=0) (C:=0) (h0.row Bp)
 have h4:=h0.MU Bp (by decide) k2 k1
 rw[List.set_append_right _ _ (by omega),Nat.add_sub_cancel_left]at h4
 refine⟨⟨k1.cell 0,k1.cell 1,k1.cell 2,k1.cell 3⟩,.inr ⟨er,rfl,h1,m',?_⟩⟩
 exact h4.forget (AN ⟨rfl,rfl⟩ (AN ⟨rfl,rfl⟩ (AN ⟨rfl,rfl⟩ (AN ⟨rfl,rfl⟩ (AN ⟨rfl,rfl⟩ BW)))))
theorem SP.B1.box{k' b7:Nat}(h:P.B1 F N k' C er W)(hb:Below W.heap.size W W')(hr:Row W' b7 39 [.int .i64 (F:Nat),.int .i64 (N:Nat),.int .i64 (k':Nat),.int .i64 (C:Nat)])(hg:W.heap.size≤b7):(er=0∧k'=P.k∧({P with b7:=b7}:SP).A P.rb 0 F N C W')∨((F=0∧N=0∧k'=0∧C=0)∧({P with b7:=b7}:SP).E er P.rb W'):=by
 rcases h with⟨h1,h2,l',m',h3,h4,h5,h6⟩|⟨h1,⟨e1,e2,e3,e4⟩,m',h6⟩
 ·subst h2
  have h7:=h6.new hb hr hg
  rw[List.append_assoc]at h7
  exact .inl ⟨h1,rfl,l',m',⟨h3.pw,h3.ib,h3.m,h3.kind⟩,h4,h5,h7⟩
 ·subst e1 e2 e3 e4
  exact .inr ⟨⟨rfl,rfl,rfl,rfl⟩,h1,m',h6.new hb hr hg⟩
theorem SP.CC.row(hP:P.Ok js){F' N' k' C' q6 Fl:Nat}{f1 b7:AW}(h:P.CC q i F' N' k' C' er q6 f1 b7 (AQ Fl F N P.k C) W):Row W P.b2 93 [.pointer (some ⟨P.sb,0,none⟩)]∧Row W P.b6 3 [.int .i64 (q6:Nat)]∧Row W Fl 39 [.int .i64 (F:Nat),.int .i64 (N:Nat),.int .i64 (P.k:Nat),.int .i64 (C:Nat)]∧Row W P.sb 98 (Bh P.X.p.w P.k P.hh P.rb P.An P.o P.once P.count)∧(∀cs,b7=AI P.b7 39 cs→Row W P.b7 39 cs):=by
 obtain⟨z,m,h1⟩:=h.get
 exact⟨h1.row (I5 0),h1.row (I5 3),h1.row (I5 6),h1.row (Ag (Ag hP.row)),fun cs e=>by
  have h2:(P.AP++(P.bs q6++[f1,b7,AQ Fl F N P.k C])++z)[P.AP.length+5]?=some b7:=I5 5
  rw[e]at h2 h1;exact h1.row h2⟩
theorem SP.A.step(hP:P.Ok js)(h:P.A q i F N C W)(hq:q<P.nb):∃l0,F≤2000000∧N≤2000000∧q*P.An≤100000000∧q<q*P.An∧∀W' b9,Below W.heap.size W W'→Row W' b9 39 [.int .i64 (F:Nat),.int .i64 (N:Nat),.int .i64 (P.k:Nat),.int .i64 (C:Nat)]→W.heap.size≤b9→
  Calls Tryz.prog 73 #[.pointer (some ⟨P.sb,0,none⟩),.bool (decide (P.nb≤q*P.An)),.func (.func 76) #[] #[.pointer (some ⟨P.b2,0,none⟩),.pointer (some ⟨b9,0,none⟩),.pointer (some ⟨P.b6,0,none⟩)]] W' fun e w'=>
  ∃(F' N' k' C':Nat) (er:Int),e=.returned (.tuple #[.agg #[.int .i64 (F':Nat),.int .i64 (N':Nat),.int .i64 (k':Nat),.int .i64 (C':Nat)],.int .i64 er])∧P.CC q i F' N' k' C' er q (Cf F N P.k P.hh l0 P.X.sz) (AQ P.b7 F N P.k C) (AQ b9 F N P.k C) w':=by
 obtain⟨l',m',h1,h2,h3,h4⟩:=h
 have hq0:0<q:=Nat.lt_of_lt_of_le (Nat.pow_pos (by omega)) h1.pw
 have bN:=Nat.mul_le_mul_left q hP.An.1
 refine⟨l',h2.fst,?_,Nat.le_trans (Nat.mul_le_mul_right _ (by omega)) hP.prod,by omega,fun W' b9 hb hr hg=>?_⟩
 ·have h5:=h2.bn
  have h6:=BL P.hh l'.length
  have h7:=h2.len
  omega
 ·have h5:=h4.new hb hr hg
  refine SP.Ug hP h1 hq h2 h3 ?_
  rw[List.append_assoc,List.append_assoc]at h5
  exact h5
def vX(b:Nat)(w:World):Nat:=match w.cell? ⟨b,0,none⟩with
 |some v=>(intOf v).toNat
 |none=>0
theorem V6{b n:Nat}{w:World}(h:Row w b 3 [.int .i64 (n:Nat)]):vX b w=n:=by
 have h1:w.cell? ⟨b,0,none⟩=some (.int .i64 (n:Nat)):=h.cell 0
 unfold vX;rw[h1];simp[intOf]
theorem ek(hP:P.Ok js)(h:Wd P.X P.AP P.m W)(AZ:W.heap.size=P.b2)(A8:P.b2+1=P.b3)(Dp:P.b3+1=P.b4)(P9:P.b4+1=P.b6):
  Calls Tryz.prog 48 #[.pointer (some ⟨P.sb,0,none⟩),.agg #[.int .i64 P.first,.int .i64 P.nb,.int .i64 P.k,.int .i64 P.count]] W P.dy:=by
 obtain⟨W1,B8⟩:∃W1,W1=W.alloc (.cells #[.pointer (some ⟨P.sb,0,none⟩)] 93):=⟨_,rfl⟩
 obtain⟨W2,T3⟩:∃W2,W2=W1.alloc (.cells #[.int .i64 P.first,.int .i64 P.nb,.int .i64 P.k,.int .i64 P.count] 39):=⟨_,rfl⟩
 obtain⟨W3,M4⟩:∃W3,W3=W2.alloc (.cells #[.int .i64 0,.int .i64 0,.int .i64 0,.int .i64 0] 39):=⟨_,rfl⟩
 obtain⟨W4,wC⟩:∃W4,W4=W3.alloc (.cells #[.int .i64 P.rb] 3):=⟨_,rfl⟩
 have z1:W1.heap.size=P.b3:=by rw[B8];simp;omega
 have z2:W2.heap.size=P.b4:=by rw[T3];simp;omega
 have z3:W3.heap.size=P.b6:=by rw[M4];simp;omega
 have h1:Wd P.X (P.AP++[AI P.b2 93 [.pointer (some ⟨P.sb,0,none⟩)]]) P.m W1:=h.new (by rw[B8];exact(Below.refl _ _).alloc (Nat.le_refl _) _) (by rw[B8,←AZ];exact heap_alloc_new _ _) (by omega)
 have h2:Wd P.X (P.AP++[AI P.b2 93 [.pointer (some ⟨P.sb,0,none⟩)]]++[AQ P.b3 P.first P.nb P.k P.count]) P.m W2:=h1.new (by rw[T3];exact(Below.refl _ _).alloc (Nat.le_refl _) _) (by rw[T3,←z1];exact heap_alloc_new _ _) (by omega)
 have h3:Wd P.X (P.AP++[AI P.b2 93 [.pointer (some ⟨P.sb,0,none⟩)]]++[AQ P.b3 P.first P.nb P.k P.count]++[AQ P.b4 0 0 0 0]) P.m W3:=h2.new (by rw[M4];exact(Below.refl _ _).alloc (Nat.le_refl _) _) (by rw[M4,←z2];exact heap_alloc_new _ _) (by omega)
 have zf:Wd P.X (P.AP++[AI P.b2 93 [.pointer (some ⟨P.sb,0,none⟩)]]++[AQ P.b3 P.first P.nb P.k P.count]++[AQ P.b4 0 0 0 0]++[AI P.b6 3 [.int .i64 (P.rb:Nat)]]) P.m W4:=h3.new (by rw[wC];exact(Below.refl _ _).alloc (Nat.le_refl _) _) (by rw[wC,←z3];exact heap_alloc_new _ _) (by omega)
 have h4:Wd P.X (P.AP++P.bs P.rb) P.m W4:=by
  rw[List.append_assoc,List.append_assoc,List.append_assoc]at zf;exact zf
 have MQ:Hid (W3=((W.alloc (.cells #[.pointer (some ⟨P.sb,0,none⟩)] 93)).alloc (.cells #[.int .i64 P.first,.int .i64 P.nb,.int .i64 P.k,.int .i64 P.count] 39)).alloc (.cells #[.int .i64 0,.int .i64 0,.int .i64 0,.int .i64 0] 39)):=by unfold Hid;rw[M4,T3,B8]
 have HW4:=Lib.hid wC
 have r2:Row W3 P.b2 93 [.pointer (some ⟨P.sb,0,none⟩)]:=by
  rw[List.append_assoc,List.append_assoc]at h3;exact h3.row (AM _ _ 0)
 have rs:Row W3 P.sb 98 (Bh P.X.p.w P.k P.hh P.rb P.An P.o P.once P.count):=h3.row (Ag (Ag (Ag hP.row)))
 have q2:W3.cell? ⟨P.b2,0,none⟩=some (.pointer (some ⟨P.sb,0,none⟩)):=r2.cell 0
 have s2:W3.cell? ⟨P.sb,2,none⟩=some (.int .i64 P.rb):=rs.cell 2
 have u2:W4.cell? ⟨P.b2,0,none⟩=some (.pointer (some ⟨P.sb,0,none⟩)):=(h4.row (AM _ _ 0)).cell 0
 have u3:W4.cell? ⟨P.b3,1,none⟩=some (.int .i64 P.nb):=(h4.row (AM _ _ 1)).cell 1
 have u6:W4.cell? ⟨P.b6,0,none⟩=some (.int .i64 P.rb):=(h4.row (AM _ _ 3)).cell 0
 have R5:=Lib.hid (SP.Tb hP h4)
 obtain⟨one,PE⟩:∃one,decide (P.nb≤P.rb)=one:=⟨_,rfl⟩
 rw[PE]at R5
 have sO:decide ((P.nb:Int)≤(P.rb:Int))=one:=by rw[←PE];simp
 have HP:=Lib.hid hP
 clear B8 T3 M4 wC h h1 h2 h3 h4 zf z1 z2 r2 rs hP
 go_enter Tryz.func48,Tryz.ntmps48
 go_upto_region 1 with(fail)
 rw[←MQ.out]
 go_upto_region 2 with(fail)
 rw[←HW4.out]
 go_wp2_with fail
 refine R5.out.mono ?_
 rintro e w5 ⟨F,N,k',C,er,rfl,tP⟩
 have Mj:=tP.box (W':=w5.alloc (.cells #[.int .i64 (F:Nat),.int .i64 (N:Nat),.int .i64 (k':Nat),.int .i64 (C:Nat)] 39)) ((Below.refl _ _).alloc (Nat.le_refl _) _) (heap_alloc_new w5 (.cells #[.int .i64 (F:Nat),.int .i64 (N:Nat),.int .i64 (k':Nat),.int .i64 (C:Nat)] 39)) (Nat.le_refl _)
 have PU:Hid (∃q i F9 N9 C9,(er=0∧({P with b7:=w5.heap.size}:SP).A q i F9 N9 C9 (w5.alloc (.cells #[.int .i64 (F:Nat),.int .i64 (N:Nat),.int .i64 (k':Nat),.int .i64 (C:Nat)] 39)))∨({P with b7:=w5.heap.size}:SP).E er q (w5.alloc (.cells #[.int .i64 (F:Nat),.int .i64 (N:Nat),.int .i64 (k':Nat),.int .i64 (C:Nat)] 39))):=by
  rcases Mj with⟨e1,e2,hA⟩|⟨_,hE⟩
  ·exact⟨_,_,F,N,C,.inl ⟨e1,hA⟩⟩
  ·exact⟨P.rb,0,F,N,C,.inr hE⟩
 clear Mj tP R5 u2 u3 u6 PE sO q2 s2
 go_upto_region 3 with(fail)
 generalize w5.alloc (.cells #[.int .i64 (F:Nat),.int .i64 (N:Nat),.int .i64 (k':Nat),.int .i64 (C:Nat)] 39)=w6 at*
 generalize w5.heap.size=b7 at*
 obtain⟨Q,hQ⟩:∃Q:SP,Q={P with b7:=b7}:=⟨_,rfl⟩
 have eU:Hid (Q.Ok js):=by rw[hQ];exact⟨HP.out.row,HP.out.f,HP.out.c,HP.out.src,HP.out.rb,HP.out.An,HP.out.room1,HP.out.room2,HP.out.rm,HP.out.n,HP.out.prod⟩
 have HQD:Hid (Q.dy=P.dy):=by rw[hQ];rfl
 have e1:P.sb=Q.sb:=by rw[hQ]
 have e2:P.b2=Q.b2:=by rw[hQ]
 have e3:P.b3=Q.b3:=by rw[hQ]
 have e4:P.b4=Q.b4:=by rw[hQ]
 have e6:P.b6=Q.b6:=by rw[hQ]
 have e7:b7=Q.b7:=by rw[hQ]
 have e8:P.nb=Q.nb:=by rw[hQ]
 have e9:P.k=Q.k:=by rw[hQ]
 rw[←hQ]at PU
 have HHQ:=Lib.hid hQ
 clear hQ AZ A8 Dp P9 z3 MQ HW4
 rw[e1,e2,e3,e4,e6,e7]
 have AG7:=eU.out.An
 have ur:Q.nb≤100000:=by
  have h1:=eU.out.f.bn
  have h2:=BL Q.hh Q.l.length
  have h3:=eU.out.f.len
  omega
 clear e1 e2 e3 e4 e6 e7 e8 e9
 go_loopw [8] (fun iv wr=>∃(er:Int) (q i F N C:Nat),iv=.int .i64 er∧Hid ((er=0∧Q.A q i F N C wr)∨Q.E er q wr)) (fun _ wr=>Q.nb-vX Q.b6 wr)
 case atStart=>
  obtain⟨q,i,F,N,C,h1⟩:=PU.out
  exact⟨er,q,i,F,N,C,rfl,h1⟩
 case round=>
  obtain⟨er,q,i,F,N,C,rfl,ES⟩:=hrel
  clear PU
  rcases ES.out with⟨rfl,hA⟩|hE
  ·obtain⟨k2,k3,k4,k6,k7⟩:=hA.row
   have kS:=hA.sort eU.out
   have c6:wr.cell? ⟨Q.b6,0,none⟩=some (.int .i64 q):=k6.cell 0
   have c31:wr.cell? ⟨Q.b3,1,none⟩=some (.int .i64 Q.nb):=k3.cell 1
   have HA:=Lib.hid hA
   by_cases hq:q<Q.nb
   ·obtain⟨l0,hF,hN,hL,hqL,hstep⟩:=hA.step eU.out hq
    obtain⟨L,eL⟩:∃L,q*Q.An=L:=⟨_,rfl⟩
    have hmul:(q:Int)*(Q.An:Int)=(L:Int):=by rw[←eL];exact(Int.natCast_mul q Q.An).symm
    have pJ:=Lib.hid eL
    have sH:vX Q.b6 wr=q:=V6 k6
    have HQO:=Lib.hid sH
    rw[eL]at hL hqL
    have j3:Row ((wr.alloc (.cells #[.int .i64 F,.int .i64 N,.int .i64 Q.k,.int .i64 C] 39)).drew) wr.heap.size 39 [.int .i64 (F:Nat),.int .i64 (N:Nat),.int .i64 (Q.k:Nat),.int .i64 (C:Nat)]:=Row.drewN (heap_alloc_new wr (.cells #[.int .i64 F,.int .i64 N,.int .i64 Q.k,.int .i64 C] 39)) 1
    have zV:=hstep _ wr.heap.size (((Below.refl wr.heap.size wr).alloc (Nat.le_refl _) _).drew) j3 (Nat.le_refl _)
    obtain⟨mT,bT⟩:∃mT,decide (Q.nb≤q*Q.An)=mT:=⟨_,rfl⟩
    rw[bT]at zV
    rw[eL]at bT
    have AC4:decide ((Q.nb:Int)≤(L:Int))=mT:=by rw[←bT];simp
    have wg:=Lib.hid zV
    have hwL:IntKind.i64.wrap (L:Int)=(L:Int):=IntWalk.i64_in _ (by omega)
    have iY:=Lib.hid hwL
    have wD:∀w,Below wr.heap.size wr w→(w.cell? ⟨Q.b7,0,none⟩=some (.int .i64 F)∧w.cell? ⟨Q.b7,1,none⟩=some (.int .i64 N)∧w.cell? ⟨Q.b7,2,none⟩=some (.int .i64 Q.k)∧w.cell? ⟨Q.b7,3,none⟩=some (.int .i64 C)∧w.cell? ⟨Q.b6,0,none⟩=some (.int .i64 q)∧w.cell? ⟨Q.b2,0,none⟩=some (.pointer (some ⟨Q.sb,0,none⟩))∧w.cell? ⟨Q.sb,3,none⟩=some (.int .i64 Q.An)):=fun w hb=>by
     have j7:=k7.below hb k7.lt
     exact⟨j7.cell 0,j7.cell 1,j7.cell 2,j7.cell 3,(k6.below hb k6.lt).cell 0,(k2.below hb k2.lt).cell 0,(kS.below hb kS.lt).cell 3⟩
    have v8:∀cs,Below wr.heap.size wr ((wr.alloc (.cells cs 39)).drew):=fun cs=>((Below.refl wr.heap.size wr).alloc (Nat.le_refl _) _).drew
    have s1:=wD wr.drew (AG (Below.refl _ _))
    have s2:=wD _ (v8 #[.int .i64 0,.int .i64 0,.int .i64 0,.int .i64 0])
    have s3:=wD _ (v8 #[.int .i64 F,.int .i64 N,.int .i64 Q.k,.int .i64 C])
    have d31:((wr.alloc (.cells #[.int .i64 F,.int .i64 N,.int .i64 Q.k,.int .i64 C] 39)).drew).cell? ⟨Q.b3,1,none⟩=some (.int .i64 Q.nb):=(k3.below (v8 #[.int .i64 F,.int .i64 N,.int .i64 Q.k,.int .i64 C]) k3.lt).cell 1
    have d2:((wr.alloc (.cells #[.int .i64 F,.int .i64 N,.int .i64 Q.k,.int .i64 C] 39)).drew).cell? ⟨Q.b2,0,none⟩=some (.pointer (some ⟨Q.sb,0,none⟩)):=s3.2.2.2.2.2.1
    clear hwL j3 zV hstep sH eL v8 k2 k3 k4 k6 k7 kS hA wD
    go_upto_region 4 with(fail)
    go_region_held3 (fun w=>w.cell? ⟨Q.b7,0,none⟩=some (.int .i64 F)∧w.cell? ⟨Q.b7,1,none⟩=some (.int .i64 N)∧w.cell? ⟨Q.b7,2,none⟩=some (.int .i64 Q.k)∧w.cell? ⟨Q.b7,3,none⟩=some (.int .i64 C)∧w.cell? ⟨Q.b6,0,none⟩=some (.int .i64 q)∧w.cell? ⟨Q.b2,0,none⟩=some (.pointer (some ⟨Q.sb,0,none⟩))∧w.cell? ⟨Q.sb,3,none⟩=some (.int .i64 Q.An)) (first|with_reducible exact s1|with_reducible exact s2|with_reducible exact s3) (fail)
    rw[iY.out]
    clear s1 s2 s3
    generalize(wr.alloc (.cells #[.int .i64 F,.int .i64 N,.int .i64 Q.k,.int .i64 C] 39)).drew=w7 at*
    generalize wr.heap.size=b9 at*
    clear ES HA c6 c31
    go_wp2_with fail
    refine wg.out.mono ?_
    rintro e w8 ⟨F',N',k9,C',er',rfl,sw⟩
    obtain⟨j2,j6,j9,jS,j7⟩:=sw.row eU.out
    have j7:=j7 [.int .i64 (F:Nat),.int .i64 (N:Nat),.int .i64 (Q.k:Nat),.int .i64 (C:Nat)] rfl
    have x0:w8.cell? ⟨Q.b7,0,none⟩=some (.int .i64 F):=j7.cell 0
    have x1:w8.cell? ⟨Q.b7,1,none⟩=some (.int .i64 N):=j7.cell 1
    have x2:w8.cell? ⟨Q.b7,2,none⟩=some (.int .i64 Q.k):=j7.cell 2
    have x3:w8.cell? ⟨Q.b7,3,none⟩=some (.int .i64 C):=j7.cell 3
    have y0:w8.frozen? ⟨Q.b7,0,none⟩=false:=j7.free 0
    have y1:w8.frozen? ⟨Q.b7,1,none⟩=false:=j7.free 1
    have y2:w8.frozen? ⟨Q.b7,2,none⟩=false:=j7.free 2
    have y3:w8.frozen? ⟨Q.b7,3,none⟩=false:=j7.free 3
    have sy:=sw.lu (A:=F') (B:=N') (K:=k9) (D:=C') rfl
    clear sw wg d2 d31 j2 j6 j9 jS j7
    go_upto_region 6 with(fail)
    generalize((((w8.setCell ⟨Q.b7,0,none⟩ (.int .i64 (F':Nat))).setCell ⟨Q.b7,1,none⟩ (.int .i64 (N':Nat))).setCell ⟨Q.b7,2,none⟩ (.int .i64 (k9:Nat))).setCell ⟨Q.b7,3,none⟩ (.int .i64 (C':Nat)))=w9 at*
    clear x0 x1 x2 x3 y0 y1 y2 y3
    have nV:=sy.below (AG (Below.refl _ _))
    obtain⟨j2,j6,j9,jS,j7⟩:=nV.row eU.out
    have s4:w9.drew.cell? ⟨Q.b2,0,none⟩=some (.pointer (some ⟨Q.sb,0,none⟩))∧w9.drew.cell? ⟨Q.sb,4,none⟩=some (.pointer (some ⟨Q.X.p.w,0,none⟩))∧w9.drew.cell? ⟨b9,0,none⟩=some (.int .i64 F)∧w9.drew.cell? ⟨b9,1,none⟩=some (.int .i64 N)∧w9.drew.cell? ⟨b9,2,none⟩=some (.int .i64 Q.k)∧w9.drew.cell? ⟨b9,3,none⟩=some (.int .i64 C):=⟨j2.cell 0,jS.cell 4,j9.cell 0,j9.cell 1,j9.cell 2,j9.cell 3⟩
    have eY:=Lib.hid (nV.free hF hN C)
    have HCF:Hid (∀w,Q.CC q i F' N' k9 C' er' q Bi (AQ Q.b7 F' N' k9 C') (AQ b9 F N Q.k C) w→w.cell? ⟨Q.b2,0,none⟩=some (.pointer (some ⟨Q.sb,0,none⟩))∧w.cell? ⟨Q.sb,4,none⟩=some (.pointer (some ⟨Q.X.p.w,0,none⟩))∧w.cell? ⟨b9,0,none⟩=some (.int .i64 F)∧w.cell? ⟨b9,1,none⟩=some (.int .i64 N)∧w.cell? ⟨b9,2,none⟩=some (.int .i64 Q.k)∧w.cell? ⟨b9,3,none⟩=some (.int .i64 C)):=fun w h=>by
     obtain⟨j2,j6,j9,jS,j7⟩:=h.row eU.out
     exact⟨j2.cell 0,jS.cell 4,j9.cell 0,j9.cell 1,j9.cell 2,j9.cell 3⟩
    clear nV j2 j6 j9 jS j7 sy
    go_region_held3 (fun w=>w.cell? ⟨Q.b2,0,none⟩=some (.pointer (some ⟨Q.sb,0,none⟩))∧w.cell? ⟨Q.sb,4,none⟩=some (.pointer (some ⟨Q.X.p.w,0,none⟩))∧w.cell? ⟨b9,0,none⟩=some (.int .i64 F)∧w.cell? ⟨b9,1,none⟩=some (.int .i64 N)∧w.cell? ⟨b9,2,none⟩=some (.int .i64 Q.k)∧w.cell? ⟨b9,3,none⟩=some (.int .i64 C)) (first|with_reducible exact s4|with_reducible exact s5)
     ((go_at_call 49;(with_reducible refine eY.out.mono ?_);rintro e DS ⟨rfl,FJ⟩;have s5:=HCF.out DS FJ))
    have YI:=(FJ.row eU.out).2.1
    have c6:DS.cell? ⟨Q.b6,0,none⟩=some (.int .i64 q):=YI.cell 0
    have f6:DS.frozen? ⟨Q.b6,0,none⟩=false:=YI.free 0
    have LJ:=FJ.lz (n:=L)
    have sE:=(LJ.row eU.out).2.1
    have sI:=V6 sE
    have Hv:=SP.CC.fin (by rw[←pJ.out]at LJ;exact LJ)
    rw[pJ.out]at Hv
    have G9:=Lib.hid Hv
    have AA9:=Lib.hid sI
    clear FJ LJ YI sE sI Hv s4 s5 eY HCF
    go_wp2
    go_roundw
    case rel=>exact⟨er',L,i+1,F',N',C',rfl,G9.out⟩
    case measure=>rw[AA9.out,HQO.out];omega
   ·have hge:Q.nb≤q:=by omega
    have vA:=Lib.hid hge
    have d0:wr.cell? ⟨Q.b7,0,none⟩=some (.int .i64 F):=k7.cell 0
    have d1:wr.cell? ⟨Q.b7,1,none⟩=some (.int .i64 N):=k7.cell 1
    have d2:wr.cell? ⟨Q.b7,2,none⟩=some (.int .i64 Q.k):=k7.cell 2
    have d3:wr.cell? ⟨Q.b7,3,none⟩=some (.int .i64 C):=k7.cell 3
    have z0:wr.cell? ⟨Q.b4,0,none⟩=some (.int .i64 0):=k4.cell 0
    have z1:wr.cell? ⟨Q.b4,1,none⟩=some (.int .i64 0):=k4.cell 1
    have z2:wr.cell? ⟨Q.b4,2,none⟩=some (.int .i64 0):=k4.cell 2
    have z3:wr.cell? ⟨Q.b4,3,none⟩=some (.int .i64 0):=k4.cell 3
    have y0:wr.frozen? ⟨Q.b4,0,none⟩=false:=k4.free 0
    have y1:wr.frozen? ⟨Q.b4,1,none⟩=false:=k4.free 1
    have y2:wr.frozen? ⟨Q.b4,2,none⟩=false:=k4.free 2
    have y3:wr.frozen? ⟨Q.b4,3,none⟩=false:=k4.free 3
    have Hv:=hA.fin hge rfl
    clear k2 k3 k4 k6 k7 kS hA hge
    go_wp2
    generalize((((wr.setCell ⟨Q.b4,0,none⟩ (.int .i64 (F:Nat))).setCell ⟨Q.b4,1,none⟩ (.int .i64 (N:Nat))).setCell ⟨Q.b4,2,none⟩ (.int .i64 (Q.k:Nat))).setCell ⟨Q.b4,3,none⟩ (.int .i64 (C:Nat)))=w9 at*
    obtain⟨⟨q0,q1,q2,q3⟩,HD⟩:=Hv
    rw[HQD.out]at HD
    exact bodyPost_ret (v:=.tuple #[.agg #[.int .i64 (F:Nat),.int .i64 (N:Nat),.int .i64 Q.k,.int .i64 (C:Nat)],.int .i64 0]) (by simp[results,Tryz.results48,go_sem,q0,q1,q2,q3]) rfl HD.out
  ·obtain⟨k2,k3,k4,k6,k7⟩:=hE.row
   have d0:wr.cell? ⟨Q.b7,0,none⟩=some (.int .i64 0):=k7.cell 0
   have d1:wr.cell? ⟨Q.b7,1,none⟩=some (.int .i64 0):=k7.cell 1
   have d2:wr.cell? ⟨Q.b7,2,none⟩=some (.int .i64 0):=k7.cell 2
   have d3:wr.cell? ⟨Q.b7,3,none⟩=some (.int .i64 0):=k7.cell 3
   have z0:wr.cell? ⟨Q.b4,0,none⟩=some (.int .i64 0):=k4.cell 0
   have z1:wr.cell? ⟨Q.b4,1,none⟩=some (.int .i64 0):=k4.cell 1
   have z2:wr.cell? ⟨Q.b4,2,none⟩=some (.int .i64 0):=k4.cell 2
   have z3:wr.cell? ⟨Q.b4,3,none⟩=some (.int .i64 0):=k4.cell 3
   have y0:wr.frozen? ⟨Q.b4,0,none⟩=false:=k4.free 0
   have y1:wr.frozen? ⟨Q.b4,1,none⟩=false:=k4.free 1
   have y2:wr.frozen? ⟨Q.b4,2,none⟩=false:=k4.free 2
   have y3:wr.frozen? ⟨Q.b4,3,none⟩=false:=k4.free 3
   have YT:er=5∨er=6:=hE.1.elim (fun h=>.inl h.1) fun h=>.inr h.1
   have Hv:=hE.fin rfl
   have ne0:(er==0)=false:=by rcases YT with rfl|rfl<;>rfl
   clear k2 k3 k4 k6 k7 hE ES YT
   go_wp2
   generalize((((wr.setCell ⟨Q.b4,0,none⟩ (.int .i64 0)).setCell ⟨Q.b4,1,none⟩ (.int .i64 0)).setCell ⟨Q.b4,2,none⟩ (.int .i64 0)).setCell ⟨Q.b4,3,none⟩ (.int .i64 0))=w9 at*
   obtain⟨⟨q0,q1,q2,q3⟩,HD⟩:=Hv
   rw[HQD.out]at HD
   exact bodyPost_ret (v:=.tuple #[.agg #[.int .i64 0,.int .i64 0,.int .i64 0,.int .i64 0],.int .i64 er]) (by simp[results,Tryz.results48,go_sem,q0,q1,q2,q3]) rfl HD.out
end
def Jj(X:Cx)(os:List AW)(i m first nb k hh:Nat)(l:List AB)(W:World):Prop:=∃G D A S,Hi X (os.set i Bi) m W G D A S∧BA D first k hh l nb∧∀z,first≤z→z<first+nb→hasB S.fr z
section
variable {X : Cx} {os : List AW} {m i : Nat} {W W' : World} {G : Nat → Prop} {D : St} {A : Ar} {S : Sp} {first nb k hh : Nat} {l : List AB}
theorem ZX(h:Wd X os m W)(hi:os[i]?=some (Cf first nb k hh l X.sz))(hf:first≤2000000)(hn:nb≤2000000)(c:Nat):
  Calls Tryz.prog 49 #[.pointer (some ⟨X.p.w,0,none⟩),.agg #[.int .i64 first,.int .i64 nb,.int .i64 k,.int .i64 c]] W fun e w'=>e=.returned (.int .i64 0)∧Jj X os i m first nb k hh l w':=by
 obtain⟨G,D,A,S,h⟩:=h
 have hst:BA D first k hh l nb:=h.QT i _ hi h.size
 obtain⟨gu,E5⟩:=h.held hi
 have gu:∀z,Fp (first,nb) z→¬hasB S.fr z:=gu
 have E5:0<nb→S.first≤first∧first+nb≤S.first+S.blocks:=E5
 have Mg:=IA (S:=S) h.sys.V0 (f:=first) (n:=nb) (by
  rcases Nat.eq_zero_or_pos nb with h0|h0
  ·exact .inr h0
  ·exact .inl (E5 h0).1) (by
  rcases Nat.eq_zero_or_pos nb with h0|h0
  ·exact .inr h0
  ·exact .inl (E5 h0).2) (fun z z1 z2=>gu z ⟨z1,z2⟩)
 have cB:(if nb=0 then 0 else (CY S first nb).2)=0:=by
  by_cases h0:nb=0
  ·rw[if_pos h0]
  ·rw[if_neg h0]
   rcases Hz (s:=S) h.sys.V0 (first:Int) (nb:Int)with⟨s',a',m',ha,hm,h1,he,hg⟩|⟨_,IV⟩
   ·rw[he]
   ·exact absurd ⟨(E5 (by omega)).1,(E5 (by omega)).2,fun z z1 z2=>gu z ⟨z1,z2⟩⟩ (IV first nb rfl rfl (by omega))
 refine(QM (F:=⟨D,A,S⟩) h.sys first nb k c (by omega) (by omega)).mono ?_
 rintro e w' ⟨he,G',k1,k2,k3⟩
 refine⟨by rw[he,cB];rfl,G',_,_,_,h.step hi k1 (k2.mono fun k hk=>.inl hk) k3 Kh trivial (fun k hk=>hk.elim) ⟨rfl,rfl⟩ h.alive id h.Al (fun _ _=>rfl) trivial rfl rfl (fun _ _ hw _=>hw) (fun b n hb=>by cases hb) ⟨Mg.1,Mg.2.1⟩ (fun z=>?_) (fun z hz=>absurd hz (Ab _ _)) ?_,hst,fun z z1 z2=>(Mg.2.2.1 z).2 (.inr ⟨z1,z2⟩)⟩
 ·show hasB (Ay S first nb).fr z↔ _
  rw[Mg.2.2.1 z]
  exact⟨fun hz=>⟨hz,Ab _ _⟩,fun hz=>hz.1⟩
 ·show Az (Ay S first nb).fr+0=Az S.fr+nb
  rw[Mg.2.2.2];omega
theorem Jj.below(h:Jj X os i m first nb k hh l W)(hb:Below W.heap.size W W'):Jj X os i m first nb k hh l W':=by
 obtain⟨G,D,A,S,h1,h2,h3⟩:=h
 exact⟨G,D,A,S,h1.below hb,h2,h3⟩
theorem Jj.wd(h:Jj X os i m first nb k hh l W):Wd X (os.set i Bi) m W:=by
 obtain⟨G,D,A,S,h1,_⟩:=h
 exact⟨G,D,A,S,h1⟩
theorem Jj.none(h:Jj X os i m first 0 k hh l W)(hi:i<os.length):Wd X (os.set i (Cf first 0 k hh l X.sz)) m W:=by
 obtain⟨G,D,A,S,h1,h2,h3⟩:=h
 have Bp:(os.set i Bi)[i]?=some Bi:=by rw[List.getElem?_set,if_pos rfl,if_pos hi]
 have h4:=h1.step Bp h1.sys (AL.refl _ _) (fun k hk=>.inl hk) (RZ (first:=first) (nb:=0) (k:=k) (h:=hh) (l:=l) (sz:=X.sz)) trivial (fun k hk=>hk.elim) ⟨rfl,rfl⟩ h1.alive id h1.Al (fun _ _=>rfl) (fun _=>h2) rfl rfl (fun _ _ hw _=>hw) (fun b n hb=>by cases hb) ⟨rfl,rfl⟩ (fun z=>⟨fun hz=>⟨.inl hz,Ab _ _⟩,fun hz=>hz.1.elim id fun h=>absurd h (Ab _ _)⟩) (fun z hz=>absurd hz (Ab _ _)) rfl
 rw[List.set_set]at h4
 exact⟨G,D,A,S,h4⟩
theorem ZW(h:Jj X os i m first nb k hh l W)(hi:i<os.length)(hn:0<nb∧nb≤2000000)(hf:first≤2000000):
  Calls Tryz.prog 70 #[.pointer (some ⟨X.p.s,0,none⟩),.int .i64 first,.int .i64 nb] W fun e w'=>e=.returned (.int .i64 0)∧Wd X (os.set i (Cf first nb k hh l X.sz)) m w':=by
 obtain⟨G,D,A,S,h1,h2,h3⟩:=h
 have Bp:(os.set i Bi)[i]?=some Bi:=by rw[List.getElem?_set,if_pos rfl,if_pos hi]
 obtain⟨Gs,hs,IN⟩:=h1.sys.pX
 rcases Uz (s:=S) h1.sys.V0 (first:Int) (nb:Int)with⟨s',a',m',ha,hm,h4,he,hg⟩|⟨_,IV⟩
 ·have ha:a'=first:=by omega
  have hm:m'=nb:=by omega
  subst ha hm
  refine(bU X.p.s S Gs (a':Int) (m':Int) W hs (Fv.of (by omega) (by omega)) (Fv.of (by omega) (by omega))).mono ?_
  rw[he]
  rintro e w' ⟨h5,h6⟩
  obtain⟨G',k1,k2,k3⟩:=IN _ _ h6
  have h7:=h1.step Bp k1 (k2.mono fun k hk=>.inl hk) k3 (RZ (first:=a') (nb:=m') (k:=k) (h:=hh) (l:=l) (sz:=X.sz)) trivial (fun k hk=>hk.elim) ⟨rfl,rfl⟩ h1.alive id h1.Al (fun _ _=>rfl) (fun _=>h2) rfl rfl (fun _ _ hw _=>hw) (fun b n hb=>by cases hb) ⟨hg.first,hg.blocks⟩ (fun z=>by
    show hasB s'.fr z↔(hasB S.fr z∨Fp (0,0) z)∧¬Fp (a',m') z
    rw[hg.has z]
    exact⟨fun⟨x,y⟩=>⟨.inl x,y⟩,fun⟨x,y⟩=>⟨x.elim id fun h=>absurd h (Ab _ _),y⟩⟩) (fun z hz=>.inr (h3 z hz.1 hz.2)) (by
    show Az s'.fr+m'=Az S.fr+0
    have:=hg.sum;omega)
  rw[List.set_set]at h7
  exact⟨h5,G',_,_,_,h7⟩
 ·exact absurd (fun b Am AZ=>h3 b Am AZ) (IV first nb rfl rfl (by omega))
theorem XL(h:Wd X os m W)(hi:os[i]?=some (Cf first nb k hh l X.sz))(hf:first≤2000000)(hn:nb≤2000000)(c:Nat):
  Calls Tryz.prog 45 #[.pointer (some ⟨X.p.w,0,none⟩),.agg #[.int .i64 first,.int .i64 nb,.int .i64 k,.int .i64 c]] W fun e w'=>e=.returned (.bool true)∧Wd X os m w':=by
 have hlt:=Ik hi
 have ri:=EV hi
 obtain⟨W1,B8⟩:∃W1,W1=W.alloc (.cells #[.int .i64 first,.int .i64 nb,.int .i64 k,.int .i64 c] 39):=⟨_,rfl⟩
 have Am:Below W.heap.size W W1:=by rw[B8];exact(Below.refl _ _).alloc (Nat.le_refl _) _
 have Bl:Row W1 W.heap.size 39 [.int .i64 first,.int .i64 nb,.int .i64 k,.int .i64 c]:=by rw[B8];exact heap_alloc_new _ _
 have h1:Wd X (os++[AI W.heap.size 39 [.int .i64 first,.int .i64 nb,.int .i64 k,.int .i64 c]]) m W1:=h.new Am Bl (Nat.le_refl _)
 have bX:(os++[AI W.heap.size 39 [.int .i64 first,.int .i64 nb,.int .i64 k,.int .i64 c]])[i]?=some (Cf first nb k hh l X.sz):=Ag hi
 have eY:=Lib.hid (ZX h1 bX hf hn c)
 have b0:W1.cell? ⟨W.heap.size,0,none⟩=some (.int .i64 first):=Bl.cell 0
 have b1:W1.cell? ⟨W.heap.size,1,none⟩=some (.int .i64 nb):=Bl.cell 1
 have b2:W1.cell? ⟨W.heap.size,2,none⟩=some (.int .i64 k):=Bl.cell 2
 have b3:W1.cell? ⟨W.heap.size,3,none⟩=some (.int .i64 c):=Bl.cell 3
 have Ef:=Lib.hid B8
 generalize ZF:W.heap.size=s0 at*
 have tM:∀w,Wd X ((os++[AI s0 39 [.int .i64 first,.int .i64 nb,.int .i64 k,.int .i64 c]]).set i (Cf first nb k hh l X.sz)) m w→Wd X os m w:=fun w hw=>by
  rw[EV bX]at hw
  exact hw.forget (AN ⟨rfl,rfl⟩ BW)
 have Aw:=Lib.hid tM
 have hil:i<(os++[AI s0 39 [.int .i64 first,.int .i64 nb,.int .i64 k,.int .i64 c]]).length:=Ik bX
 have hrow:∀w,Jj X (os++[AI s0 39 [.int .i64 first,.int .i64 nb,.int .i64 k,.int .i64 c]]) i m first nb k hh l w→Row w s0 39 [.int .i64 first,.int .i64 nb,.int .i64 k,.int .i64 c]:=fun w hw=>by
  have h9:=hw.wd
  rw[Dz hi]at h9
  exact h9.row (by
   have FJ:=AM (os.set i Bi) [AI s0 39 [.int .i64 first,.int .i64 nb,.int .i64 k,.int .i64 c]] 0
   exact FJ)
 have Dr:=Lib.hid hrow
 clear B8 Am Bl h h1 bX tM hrow ri
 have AE6:(nb:Int)≤2000000:=by omega
 go_enter Tryz.func45,Tryz.ntmps45
 go_upto_region 1 with(fail)
 rw[←Ef.out]
 clear Ef ZF
 go_wp2_with fail
 refine eY.out.mono ?_
 rintro e w2 ⟨rfl,h2⟩
 have Av:=Dr.out w2 h2
 clear eY b0 b1 b2 b3
 rcases Nat.eq_zero_or_pos nb with h0|h0
 ·have h2n:Wd X ((os++[AI s0 39 [.int .i64 first,.int .i64 nb,.int .i64 k,.int .i64 c]]).set i (Cf first nb k hh l X.sz)) m w2:=by subst h0;exact h2.none hil
  have H3:=Lib.hid (Aw.out w2 h2n)
  clear h2n
  have c1:w2.drew.cell? ⟨s0,1,none⟩=some (.int .i64 nb):=Av.cell 1
  have c0:w2.drew.cell? ⟨s0,0,none⟩=some (.int .i64 first):=Av.cell 0
  have g0:((nb:Int)==0)=true:=by simp;omega
  have H4:=Lib.hid (H3.out.drewN 1)
  have H2:=Lib.hid h2
  clear h2 Av
  go_wp2_with fail
  go_region
  go_wp2
  go_ret
  exact⟨rfl,H4.out⟩
 ·have wJ:=h2.below (AG (Below.refl _ _))
  have nB:=Dr.out _ wJ
  have c1:w2.drew.cell? ⟨s0,1,none⟩=some (.int .i64 nb):=nB.cell 1
  have c0:w2.drew.cell? ⟨s0,0,none⟩=some (.int .i64 first):=nB.cell 0
  have g0:((nb:Int)==0)=false:=by simp;omega
  have HH:=Lib.hid (ZW wJ hil ⟨h0,hn⟩ hf)
  have iy:=Lib.hid (UF wJ.wd)
  have H2:=Lib.hid h2
  have HH3:Hid (∀w,Wd X ((os++[AI s0 39 [.int .i64 first,.int .i64 nb,.int .i64 k,.int .i64 c]]).set i (Cf first nb k hh l X.sz)) m w→w.cell? ⟨s0,1,none⟩=some (.int .i64 nb)∧w.cell? ⟨s0,0,none⟩=some (.int .i64 first)):=fun w hw=>by
   rw[Dz hi]at hw
   have FJ:=hw.row (AM (os.set i (Cf first nb k hh l X.sz)) [AI s0 39 [.int .i64 first,.int .i64 nb,.int .i64 k,.int .i64 c]] 0)
   exact⟨FJ.cell 1,FJ.cell 0⟩
  clear h2 Av wJ nB
  go_wp2_with fail
  go_region_held3 (fun w=>w.cell? ⟨s0,1,none⟩=some (.int .i64 nb)∧w.cell? ⟨s0,0,none⟩=some (.int .i64 first)) (first|with_reducible exact⟨c1,c0⟩|with_reducible exact q5)
   (first
    |(go_at_call 16;(with_reducible refine iy.out.mono ?_);rintro e w5 ⟨rfl,rfl⟩)
    |(go_at_call 70;(with_reducible refine HH.out.mono ?_);rintro e w5 ⟨rfl,h5⟩;have q5:=HH3.out w5 h5))
  have H9:=Lib.hid (Aw.out _ h5)
  clear h5 q5
  go_wp2
  go_ret
  exact⟨rfl,H9.out⟩
theorem SM{rm rb An:Nat}(h:Wd X os m W)(k0:0<k∧k≤5)(Iu:hh=AH X.sz k)(DQ:0<hh)(Ip:min (X.rm-Ac AW.gw os) 65536=rm)(hsz:2*X.sz≤rm)(hrb:(rm-2*X.sz)/(hh*k)=rb)(Mh:(rm-X.sz)/(X.sz+k)=An):
  Calls Tryz.prog 47 #[.pointer (some ⟨X.p.w,0,none⟩),.int .i64 k] W fun e w'=>e=.returned (.agg #[.int .i64 k,.int .i64 hh,.int .i64 rb,.int .i64 An])∧Below W.heap.size W w':=by
 obtain⟨W1,B8⟩:∃W1,W1=W.alloc (.cells #[.int .i64 0,.int .i64 0,.int .i64 0,.int .i64 0] 95):=⟨_,rfl⟩
 have Am:Below W.heap.size W W1:=by rw[B8];exact(Below.refl _ _).alloc (Nat.le_refl _) _
 have Bl:Row W1 W.heap.size 95 [.int .i64 0,.int .i64 0,.int .i64 0,.int .i64 0]:=by rw[B8];exact heap_alloc_new _ _
 have h1:=h.below Am
 have hbd:=h.bounds
 have HD:=Lib.hid (Qq h1)
 have HZ:=Lib.hid (NL h1)
 have HO:=Lib.hid (ZV h1 k)
 rw[←Iu]at HO
 have lT:=Lib.hid (LR h1)
 have eX:=Lib.hid (Qp h1)
 have E4:hh≤256:=by rw[Iu];exact Nat.le_trans (EY _ _) (by have:=hbd.1.2;omega)
 have AD8:rm≤65536:=by rw[←Ip];exact Nat.min_le_right _ _
 generalize hG:X.rm-Ac AW.gw os=LF at*
 have kH:(if 65536<LF then (65536:Int)else (LF:Int))=(rm:Int):=by rw[←Ip];split<;>omega
 have sV:(if (65536:Int)<(LF:Int)then (65536:Int)else (LF:Int))=(rm:Int):=by rw[←Ip];split<;>omega
 generalize hz:X.sz=sz at*
 obtain⟨S2,hS2⟩:∃S2,2*sz=S2:=⟨_,rfl⟩
 obtain⟨A1,kZ⟩:∃A1,rm-S2=A1:=⟨_,rfl⟩
 obtain⟨HK,tL⟩:∃HK,hh*k=HK:=⟨_,rfl⟩
 obtain⟨B1,tP⟩:∃B1,rm-sz=B1:=⟨_,rfl⟩
 obtain⟨SK,hSK⟩:∃SK,sz+k=SK:=⟨_,rfl⟩
 rw[hS2]at hrb
 rw[kZ,tL]at hrb
 rw[tP,hSK]at Mh
 have Tq:0<HK:=by rw[←tL];exact Nat.mul_pos DQ k0.1
 have HKb:HK≤1280:=by rw[←tL];exact Nat.mul_le_mul E4 k0.2
 have e1:(2:Int)*(sz:Int)=(S2:Int):=by omega
 have e2:(rm:Int)-(S2:Int)=(A1:Int):=by omega
 have e3:(hh:Int)*(k:Int)=(HK:Int):=by rw[←tL];exact(Int.natCast_mul hh k).symm
 have e4:(A1:Int).tdiv (HK:Int)=(rb:Int):=by rw[←hrb];rfl
 have e5:(rm:Int)-(sz:Int)=(B1:Int):=by omega
 have e6:(sz:Int)+(k:Int)=(SK:Int):=by omega
 have e7:(B1:Int).tdiv (SK:Int)=(An:Int):=by rw[←Mh];rfl
 have n1:¬((HK:Int)=0):=by omega
 have n2:¬((SK:Int)=0):=by omega
 have n3:((HK:Int)==0)=false:=by simpa using n1
 have n4:((SK:Int)==0)=false:=by simpa using n2
 have n5:¬(HK=0):=by omega
 have n6:¬(SK=0):=by omega
 have AE0:rb≤65536:=by rw[←hrb];exact Nat.le_trans (Nat.div_le_self _ _) (by omega)
 have AF7:An≤65536:=by rw[←Mh];exact Nat.le_trans (Nat.div_le_self _ _) (by omega)
 have w1:IntKind.i64.wrap (S2:Int)=(S2:Int):=IntWalk.i64_in _ (by omega)
 have w2:IntKind.i64.wrap (A1:Int)=(A1:Int):=IntWalk.i64_in _ (by omega)
 have w3:IntKind.i64.wrap (HK:Int)=(HK:Int):=IntWalk.i64_in _ (by omega)
 have w4:IntKind.i64.wrap (rb:Int)=(rb:Int):=IntWalk.i64_in _ (by omega)
 have w5:IntKind.i64.wrap (B1:Int)=(B1:Int):=IntWalk.i64_in _ (by omega)
 have w6:IntKind.i64.wrap (SK:Int)=(SK:Int):=IntWalk.i64_in _ (by omega)
 have w7:IntKind.i64.wrap (An:Int)=(An:Int):=IntWalk.i64_in _ (by omega)
 have Ef:=Lib.hid B8
 have LG:=Lib.hid Am
 have Ee:=Lib.hid Bl
 generalize ZF:W.heap.size=s0 at*
 have x0:W1.cell? ⟨s0,0,none⟩=some (.int .i64 0):=Ee.out.cell 0
 have x1:W1.cell? ⟨s0,1,none⟩=some (.int .i64 0):=Ee.out.cell 1
 have x2:W1.cell? ⟨s0,2,none⟩=some (.int .i64 0):=Ee.out.cell 2
 have x3:W1.cell? ⟨s0,3,none⟩=some (.int .i64 0):=Ee.out.cell 3
 have f0:W1.frozen? ⟨s0,0,none⟩=false:=Ee.out.free 0
 have f1:W1.frozen? ⟨s0,1,none⟩=false:=Ee.out.free 1
 have f2:W1.frozen? ⟨s0,2,none⟩=false:=Ee.out.free 2
 have f3:W1.frozen? ⟨s0,3,none⟩=false:=Ee.out.free 3
 clear B8 Am Bl h h1 Ip hG hS2 kZ tL tP hSK Iu hrb Mh hz hbd hsz
 go_enter Tryz.func47,Tryz.ntmps47
 go_upto_region 1 with(fail)
 rw[←Ef.out]
 clear Ef
 go_wp2_with fail
 refine HD.out.mono ?_
 rintro e w ⟨rfl,rfl⟩
 go_wp2_with fail
 refine HZ.out.mono ?_
 rintro e w' ⟨rfl,rfl⟩
 go_wp2_with fail
 refine HO.out.mono ?_
 rintro e Cq ⟨rfl,rfl⟩
 go_wp2_with fail
 refine lT.out.mono ?_
 rintro e w3' ⟨rfl,rfl⟩
 go_wp2_with fail
 refine eX.out.mono ?_
 rintro e pV ⟨rfl,rfl⟩
 go_upto_region 3 with(fail)
 refine wp_region_still_tail 18 (by kernel_rfl) (by kernel_rfl) ?_
 simp only[List.take_succ_cons,List.take_zero,List.drop_succ_cons,List.drop_zero]
 change wpStill Tryz.prog _ pV.drew (fun a'=>wpList Tryz.prog _ _ _ a' pV.drew) _ _
 repeat still_step
 refine wpStill_nil ?_
 go_wp2
 have GG:Row (((((pV.setCell ⟨s0,0,none⟩ (.int .i64 k)).setCell ⟨s0,1,none⟩ (.int .i64 hh)).setCell ⟨s0,2,none⟩ (.int .i64 rb)).setCell ⟨s0,3,none⟩ (.int .i64 An)).drew) s0 95 [.int .i64 k,.int .i64 hh,.int .i64 rb,.int .i64 An]:=((((Ee.out.set 0 (.int .i64 k)).set 1 (.int .i64 hh)).set 2 (.int .i64 rb)).set 3 (.int .i64 An)).drewN 1
 have eO:Below W.heap.size W (((((pV.setCell ⟨s0,0,none⟩ (.int .i64 k)).setCell ⟨s0,1,none⟩ (.int .i64 hh)).setCell ⟨s0,2,none⟩ (.int .i64 rb)).setCell ⟨s0,3,none⟩ (.int .i64 An)).drew):=by
  have h0:Below s0 W pV:=LG.out
  have h1:=h0.setCell (p:=⟨s0,0,none⟩) (Nat.le_refl _) (.int .i64 (k:Int))
  have h2:=h1.setCell (p:=⟨s0,1,none⟩) (Nat.le_refl _) (.int .i64 (hh:Int))
  have h3:=h2.setCell (p:=⟨s0,2,none⟩) (Nat.le_refl _) (.int .i64 (rb:Int))
  have h4:=(h3.setCell (p:=⟨s0,3,none⟩) (Nat.le_refl _) (.int .i64 (An:Int))).drew
  rw[ZF];exact h4
 generalize((((pV.setCell ⟨s0,0,none⟩ (.int .i64 k)).setCell ⟨s0,1,none⟩ (.int .i64 hh)).setCell ⟨s0,2,none⟩ (.int .i64 rb)).setCell ⟨s0,3,none⟩ (.int .i64 An)).drew=w9 at*
 have q0:=GG.cell 0
 have q1:=GG.cell 1
 have q2:=GG.cell 2
 have q3:=GG.cell 3
 rw[ZF]at eO
 exact bodyPost_ret (v:=.agg #[.int .i64 k,.int .i64 hh,.int .i64 rb,.int .i64 An]) (by simp[results,Tryz.results47,go_sem,q0,q1,q2,q3]) rfl ⟨rfl,eO⟩
end
end Go.Proofs.YteldegofbbfaeaaGreat
