/- What the laws stand on. -/
import Derived.Test.YteldegofbbfaeaaGreatFourB
namespace Go.Proofs.YteldegofbbfaeaaGreat
set_option linter.unusedVariables false
set_option maxRecDepth 100000
set_option maxHeartbeats 8000000
open Go.ChangeShapes Go.WideShapes Go.ChangeAt Go.RowKit
open Go.Joins Go.Deep
open Go.ChangeShapes Go.WideShapes Go.ChangeAt Go.RowKit Go.Maps
open Go.ChangeMaps (setBlock heap_setBlock_same heap_setBlock_other)
def Cq(first blocks k c:Nat):Value:=.agg #[.int .i64 first,.int .i64 blocks,.int .i64 k,.int .i64 c]
def Af(t:Wt):Nat:=if t.l.length=0 then 0 else t.first
def Ke(w:World)(G:Nat→Prop)(x:Nat)(p:Wp)(F:Fs)(n:Nat)(t:Wt)(e:Ending)(w':World):Prop:=
 (t.l.length%t.h=0∧e=.returned (.tuple #[Cq (Af t) (AA t.h t.l.length) t.k t.l.length,.int .i64 0])∧Ho w G x p (Dx F t (AA t.h t.l.length)) n t w')∨
 (t.l.length%t.h≠0∧(write F.D (AV t:Nat) (AT F.D.size t)).1=0∧e=.returned (.tuple #[Cq (Af t) (AA t.h t.l.length) t.k t.l.length,.int .i64 0])∧
  Ho w G x p (Dx {F with D:=(write F.D (AV t:Nat) (AT F.D.size t)).2} t (AA t.h t.l.length)) (n+1) t w')∨
 (t.l.length%t.h≠0∧(write F.D (AV t:Nat) (AT F.D.size t)).1≠0∧e=.returned (.tuple #[Cq 0 0 0 0,.int .i64 (write F.D (AV t:Nat) (AT F.D.size t)).1])∧
  Ho w G x p (Dx {F with D:=(write F.D (AV t:Nat) (AT F.D.size t)).2} t 0) (n+1) t w')
theorem AK.four(w:World)(g:Nat)(a b c d:Value):AK (fun k=>k=g) w ((((w.setCell ⟨g,0,none⟩ a).setCell ⟨g,1,none⟩ b).setCell ⟨g,2,none⟩ c).setCell ⟨g,3,none⟩ d):=
 ((AK.two w g 0 1 a b).set (p:=⟨g,2,none⟩) (.inl rfl) c).set (p:=⟨g,3,none⟩) (.inl rfl) d
theorem Xf{w w0 W6 W7:World}{G:Nat→Prop}{p:Wp}{F FE:Fs}{n n1 x:Nat}{t:Wt}{rb:Nat}(h:Sys w G p F n)(hst:∀q∈FE.A.st,q∈F.A.st)(hb0:Below w.heap.size w w0)(hr:Row w x 122 (RB p t))(hx:¬G x)(Jt:x≠t.b)(EX:t.b<w.heap.size)
  (h6:Bk w0 G t.b p FE n1 W6) (hrb:w.heap.size≤rb) (AB8:rb<w0.heap.size) (S3:AK (fun k=>k=rb) W6 W7):Ho w G x p FE n1 t W7:=by
 have vu:=hr.lt
 obtain⟨G',k1,k2,k3,k4⟩:=h6
 have Cz:=hr.below hb0 vu
 refine⟨G',k1.CU S3 (fun k hk e=>?_) (fun q hq e=>?_),⟨S3.row (k2.row Cz (by rintro(h5|h5);exact hx h5;exact Jt h5)) (by omega),S3.row k4 (by omega)⟩,?_,?_⟩
 ·subst e
  rcases k3 k hk with h5|h5
  ·have:=h.lt h5;omega
  ·omega
 ·have:=(h.buf (hst q hq)).1.lt;omega
 ·refine(((AK.AJ hb0 (fun k=>G k∨k=x∨k=t.g∨k=t.b)).trans k2 fun k hk=>.inl (hk.elim .inl fun h=>.inr (.inr (.inr h))))).trans S3 fun k hk=>.inr (by omega)
 ·intro k hk
  exact(k3 k hk).imp_right fun h=>Nat.le_trans hb0.size h
def Iq(w w0:World)(G:Nat→Prop)(x:Nat)(p:Wp)(t:Wt)(F1:Fs)(n1:Nat)(W2:World):Prop:=AQ w0 G p F1 n1 W2∧Row W2 x 122 (RB p t)∧Row W2 w.heap.size 39 [.int .i64 0,.int .i64 0,.int .i64 0,.int .i64 0]
theorem Mc{w:World}{G:Nat→Prop}{p:Wp}{F:Fs}{n x:Nat}{t:Wt}(h:Sys w G p F n)(hn:n<1000000)(hok:B8 t F.D.size)(hm:JJ w x p t F.D.size)(ho:OV G x t)(hst:wordsAt F.A.st t.b=some F.D.size):Calls Tryz.prog 40 #[.pointer (some ⟨x,0,none⟩)] w (Ke w G x p F n t):=by
  obtain⟨ws,hm,IY⟩:=hm
  obtain⟨hx,EX,Hs⟩:=hm.lt
  obtain⟨Jt,Sy,Qz⟩:=hm.apart
  have hk:=hok.k
  have hh:=hok.h
  have hsz:=hok.sz
  have hbd:=hok.bound
  have IB:=hok.blocks
  have fI:=hok.first
  have hb0:=(Below.refl w.heap.size w).alloc (Nat.le_refl _) (.cells #[.int .i64 0,.int .i64 0,.int .i64 0,.int .i64 0] 39)
  have hrb:Row (w.alloc (.cells #[.int .i64 0,.int .i64 0,.int .i64 0,.int .i64 0] 39)) w.heap.size 39 [.int .i64 0,.int .i64 0,.int .i64 0,.int .i64 0]:=heap_alloc_new _ _
  have Cy:(w.alloc (.cells #[.int .i64 0,.int .i64 0,.int .i64 0,.int .i64 0] 39)).heap.size=w.heap.size+1:=by simp
  obtain⟨w0,DN⟩:∃w0,w0=w.alloc (.cells #[.int .i64 0,.int .i64 0,.int .i64 0,.int .i64 0] 39):=⟨_,rfl⟩
  rw[←DN]at hb0 hrb Cy
  have VK:¬G w.heap.size:=fun hg=>by have:=h.lt hg;omega
  have h0:=h.below hb0
  have hm0:=hm.below hb0
  have NC:x<w0.heap.size:=by omega
  have HC:=Lib.hid (DX hm0.row hm0.buf)
  have hd:decide (0<F.D.size)=true:=by simp;omega
  rw[hd]at HC
  have OB:=AH (Below.refl w0.heap.size w0)
  have bw:Hid (Iq w w0 G x p t F n w0.drew):=⟨AQ.AJ h0 OB,hm0.row.below OB NC,hrb.below OB hrb.lt⟩
  have Lj:Hid (t.l.length%t.h≠0→Calls Tryz.prog 69 #[.pointer (some ⟨x,0,none⟩)] w0.drew fun e w'=>e=.returned (.int .i64 (write F.D (AV t:Nat) (AT F.D.size t)).1)∧
      (((write F.D (AV t:Nat) (AT F.D.size t)).1=0∧Iq w w0 G x p t {F with D:=(write F.D (AV t:Nat) (AT F.D.size t)).2} (n+1) w')∨
       ((write F.D (AV t:Nat) (AT F.D.size t)).1≠0∧Bk w0 G t.b p (Dx {F with D:=(write F.D (AV t:Nat) (AT F.D.size t)).2} t 0) (n+1) w'∧Row w' w.heap.size 39 [.int .i64 0,.int .i64 0,.int .i64 0,.int .i64 0]))):=fun hne=>by
    have hl:0<t.l.length:=by
      rcases Nat.eq_zero_or_pos t.l.length with h1|h1
      · rw[h1]at hne;simp at hne
      · exact h1
    refine(Oa (h0.below OB) hn hok (hm0.below OB) ho hst hl ((O9 hh.1 hne).1 IY)).mono ?_
    rintro e w' ⟨he,h1⟩
    refine⟨he,?_⟩
    rcases h1 with⟨h2,h3⟩|⟨h2,h3⟩
    · exact .inl ⟨h2,h3.behind OB,h3.row (hm0.row.below OB NC) ho.x,h3.row (hrb.below OB hrb.lt) VK⟩
    · refine .inr ⟨h2,h3.behind OB,h3.row (hrb.below OB hrb.lt) VK (by omega)⟩
  obtain⟨nb,Hz⟩:∃nb,nb=AA t.h t.l.length:=⟨_,rfl⟩
  obtain⟨fst,KJ⟩:∃fst,fst=Af t:=⟨_,rfl⟩
  have lP:nb≤t.blocks:=by rw[Hz,IB.1];exact Am hh.1 hbd.2
  have MA:Hid (∀W,Calls Tryz.prog 62 #[.agg #[.int .i64 t.k,.int .i64 t.h],.int .i64 (t.l.length:Nat)] W fun e w'=>e=.returned (.int .i64 nb)∧Below W.heap.size W w'):=fun W=>by
    rw[Hz];exact FV t.k t.h t.l.length W hh.1 hh.2.2 (by omega)
  have Vo:Hid (∀(F1:Fs) (n1:Nat) (W2:World),Iq w w0 G x p t F1 n1 W2→F1.A=F.A→F1.D.size=F.D.size→∀W5,Below W2.heap.size W2 W5→Calls Tryz.prog 66 #[.pointer (some ⟨x,0,none⟩),.int .i64 nb] W5 fun e w6=>e=.returned (.tuple #[])∧Bk w0 G t.b p (Dx F1 t nb) n1 w6∧Row w6 w.heap.size 39 [.int .i64 0,.int .i64 0,.int .i64 0,.int .i64 0]∧∀fb cs,Row W5 fb 39 cs→W2.heap.size≤fb→Row w6 fb 39 cs):=by
    intro F1 n1 W2 ⟨EB,Ap,DZ⟩ hA hD W5 DS
    obtain⟨G',k1,k2,k3⟩:=EB
    have iF:=Ap.lt
    have AD7:t.b<W2.heap.size:=by have:=k2.size;omega
    have K0:¬G' x:=fun hg=>(k3 x hg).elim ho.x fun h8=>by omega
    refine(Mb (k1.below DS) (Ap.below DS iF) K0 (by rw[hA,hD];exact hst) Jt fI IB.2 nb lP).mono ?_
    rintro e w6 ⟨he,h6⟩
    have hnw:¬G' w.heap.size:=fun hg=>(k3 _ hg).elim VK fun h8=>by omega
    have hf5:Row W5 w.heap.size 39 [.int .i64 0,.int .i64 0,.int .i64 0,.int .i64 0]:=DZ.below DS DZ.lt
    refine⟨he,(h6.behind DS).from k2 k3,h6.row hf5 hnw (by omega),fun fb cs O8 hl=>h6.row O8 (fun hg=>by have:=k1.lt hg;omega) (by omega)⟩
  have Fg:Hid (∀(F1:Fs) (n1 kp:Nat) (W6 W7:World),F1.A=F.A→Bk w0 G t.b p (Dx F1 t kp) n1 W6→AK (fun k=>k=w.heap.size) W6 W7→Ho w G x p (Dx F1 t kp) n1 t W7):=by
    intro F1 n1 kp W6 W7 hA h6 S3
    refine Xf h (fun q hq=>?_) hb0 hm.row ho.x Jt EX h6 (Nat.le_refl _) (by omega) S3
    have Z9:q∈CH F1.A.st t.b:=hq
    have:=DW _ _ _ Z9
    rwa [hA]at this
  have Nw:Hid (∀(F1:Fs) (n1:Nat) (W2:World),Iq w w0 G x p t F1 n1 W2→∀W,Below W2.heap.size W2 W→W.cell? ⟨x,0,none⟩=some (.int .i64 t.k)∧W.cell? ⟨x,1,none⟩=some (.int .i64 t.h)∧W.cell? ⟨x,4,none⟩=some (.int .i64 (t.l.length:Nat))∧W.cell? ⟨x,5,none⟩=some (.int .i64 t.first)):=by
    intro F1 n1 W2 ⟨_,Ap,_⟩ W hb
    have r:=Ap.below hb Ap.lt
    exact⟨r.cell 0,r.cell 1,r.cell 4,r.cell 5⟩
  have uA:=(EG F.D (AV t:Nat) (AT F.D.size t)).1
  have ck:Hid (t.l.length%t.h=0→∀W7,Ho w G x p (Dx F t nb) n t W7→Ke w G x p F n t (.returned (.tuple #[Cq fst nb t.k t.l.length,.int .i64 0])) W7):=fun h1 W7 h2=>by
    rw[Hz]at h2⊢;rw[KJ];exact .inl ⟨h1,rfl,h2⟩
  have oy:Hid (t.l.length%t.h≠0→(write F.D (AV t:Nat) (AT F.D.size t)).1=0→∀W7,Ho w G x p (Dx {F with D:=(write F.D (AV t:Nat) (AT F.D.size t)).2} t nb) (n+1) t W7→Ke w G x p F n t (.returned (.tuple #[Cq fst nb t.k t.l.length,.int .i64 0])) W7):=fun h1 h0 W7 h2=>by
    rw[Hz]at h2⊢;rw[KJ];exact .inr (.inl ⟨h1,h0,rfl,h2⟩)
  have ox:Hid (t.l.length%t.h≠0→(write F.D (AV t:Nat) (AT F.D.size t)).1≠0→∀W7,Ho w G x p (Dx {F with D:=(write F.D (AV t:Nat) (AT F.D.size t)).2} t 0) (n+1) t W7→Ke w G x p F n t (.returned (.tuple #[Cq 0 0 0 0,.int .i64 (write F.D (AV t:Nat) (AT F.D.size t)).1])) W7):=fun h1 h0 W7 h2=>.inr (.inr ⟨h1,h0,rfl,h2⟩)
  have VL:Int.tmod ((t.l.length:Nat):Int) (t.h:Int)=((t.l.length%t.h:Nat):Int):=rfl
  have DO:¬((t.h:Int)=0):=by omega
  have Qx:t.l.length%t.h≤254:=by have:=Nat.mod_lt t.l.length hh.1;omega
  have HZ:Hid (t.l.length=0→nb=0∧fst=0):=fun h1=>⟨by rw[Hz,h1,Aw],by rw[KJ];unfold Af;rw[if_pos h1]⟩
  have zA:Hid (t.l.length≠0→fst=t.first):=fun h1=>by rw[KJ];unfold Af;rw[if_neg h1]
  have we:=hm0.row.cell 0
  have a1:w0.cell? ⟨x,1,none⟩=some (.int .i64 t.h):=hm0.row.cell 1
  have a4:w0.cell? ⟨x,4,none⟩=some (.int .i64 (t.l.length:Nat)):=hm0.row.cell 4
  have VT:t.l.length≤100000000:=by omega
  have nK:=Lib.hid hrb
  obtain⟨FB,x7⟩:∃FB:Fs,FB={F with D:=(write F.D (AV t:Nat) (AT F.D.size t)).2}:=⟨_,rfl⟩
  have gU:Hid (FB.A=F.A∧FB.D.size=F.D.size):=by unfold Hid;rw[x7];exact⟨rfl,uA⟩
  have So:Hid (F.A=F.A∧F.D.size=F.D.size):=⟨rfl,rfl⟩
  rw[←x7]at Lj oy ox
  clear x7 uA h h0 hm hm0 hok IY hst hd Hz KJ lP IB fI hbd hrb hb0 we Cy OB hsz hk VK hx EX Hs Jt Sy Qz NC ho
  generalize Ke w G x p F n t=EO at*
  generalize(write F.D (AV t:Nat) (AT F.D.size t)).1=er at*
  obtain⟨k,Ee,bound,first,blocks,b,g,l⟩:=t
  simp only at*
  obtain⟨cnt,KM⟩:∃cnt,cnt=l.length:=⟨_,rfl⟩
  rw[←KM]at VL Qx HZ zA a4 VT Lj MA Nw ck oy ox
  obtain⟨r,hr⟩:∃r,r=cnt%Ee:=⟨_,rfl⟩
  rw[←hr]at VL Qx Lj ck oy ox
  have yV:=Lib.hid DN
  clear hr KM hh DN
  by_cases Cz:r=0
  · have gr:¬0<r:=by omega
    have HP:=Lib.hid (ck.out Cz)
    have Nv:=bw
    have Jw:=So
    clear ck oy ox Lj bw Cz gU So
    go_enter Tryz.func40,Tryz.ntmps40
    go_wp2_with fail
    rw[←yV.out]
    refine HC.out.mono ?_;rintro e w1 ⟨rfl,rfl⟩
    go_wp2
    go_region
    generalize w1.drew=W2 at*
    clear gr VL DO Qx a1 a4
    have Ct:=Lib.hid (Nw.out _ _ _ Nv.out)
    obtain⟨e0,e1,e4,e5⟩:=Ct.out W2 (Below.refl _ _)
    have vz:x<W2.heap.size:=Nv.out.2.1.lt
    have T3:=Nv.out.2.2
    have xC:w.heap.size<W2.heap.size:=T3.lt
    have nF:=Lib.hid T3
    clear T3
    go_wp2
    go_region
    have Z6:Row (W2.alloc (.cells #[.int .i64 0,.int .i64 0,.int .i64 k,.int .i64 cnt] 39)).drew W2.heap.size 39 [.int .i64 0,.int .i64 0,.int .i64 k,.int .i64 cnt]:=heap_alloc_new _ _
    have A9:=AH ((Below.refl W2.heap.size W2).alloc (Nat.le_refl _) (.cells #[.int .i64 0,.int .i64 0,.int .i64 k,.int .i64 cnt] 39))
    generalize(W2.alloc (.cells #[.int .i64 0,.int .i64 0,.int .i64 k,.int .i64 cnt] 39)).drew=W3 at*
    obtain⟨_,_,i4,_⟩:=Ct.out W3 A9
    have Bq:=Lib.hid A9
    have Nt:=Lib.hid Z6
    clear e0 e1 e4 e5
    have Aq:Hid (∀W5,Below W2.heap.size W2 W5→Row W5 W2.heap.size 39 [.int .i64 fst,.int .i64 nb,.int .i64 k,.int .i64 cnt]→Calls Tryz.prog 66 #[.pointer (some ⟨x,0,none⟩),.int .i64 nb] W5 fun e w6=>e=.returned (.tuple #[])∧(Row w6 w.heap.size 39 [.int .i64 0,.int .i64 0,.int .i64 0,.int .i64 0]∧Row w6 W2.heap.size 39 [.int .i64 fst,.int .i64 nb,.int .i64 k,.int .i64 cnt])∧∀W7,AK (fun k=>k=w.heap.size) w6 W7→EO (.returned (.tuple #[Cq fst nb k cnt,.int .i64 0])) W7):=fun W5 DS GQ=>
      (Vo.out _ _ W2 Nv.out (by first|exact Jw.out.1|rfl) (by first|exact Jw.out.2|rfl) W5 DS).mono fun e w6 ⟨he,h6,hz,hk⟩=>⟨he,⟨hz,hk _ _ GQ (Nat.le_refl _)⟩,fun W7 S3=>HP.out W7 (Fg.out _ _ nb w6 W7 (by first|exact Jw.out.1|rfl) h6 S3)⟩
    clear Vo Fg HP Z6 A9 nF nK HC Nv Jw
    by_cases Ht:cnt=0
    · obtain⟨wu,xW⟩:=HZ.out Ht
      subst wu;subst xW
      have gc:¬0<cnt:=by omega
      have i5:W3.cell? ⟨W2.heap.size,1,none⟩=some (.int .i64 0):=Nt.out.cell 1
      have HE:=Lib.hid (Aq.out W3 Bq.out Nt.out)
      clear Aq Ht Ct
      go_wp2_with fail
      refine HE.out.mono ?_;rintro e W6 ⟨rfl,⟨GI,Ju⟩,h7⟩
      have H7:=Lib.hid h7
      have q0:W6.cell? ⟨w.heap.size,0,none⟩=some (.int .i64 0):=GI.cell 0
      have q1:W6.cell? ⟨w.heap.size,1,none⟩=some (.int .i64 0):=GI.cell 1
      have q2:W6.cell? ⟨w.heap.size,2,none⟩=some (.int .i64 0):=GI.cell 2
      have q3:W6.cell? ⟨w.heap.size,3,none⟩=some (.int .i64 0):=GI.cell 3
      have z0:=GI.free 0
      have z1:=GI.free 1
      have z2:=GI.free 2
      have z3:=GI.free 3
      have s0:W6.cell? ⟨W2.heap.size,0,none⟩=some (.int .i64 0):=Ju.cell 0
      have s1:W6.cell? ⟨W2.heap.size,1,none⟩=some (.int .i64 0):=Ju.cell 1
      have s2:W6.cell? ⟨W2.heap.size,2,none⟩=some (.int .i64 k):=Ju.cell 2
      have s3:W6.cell? ⟨W2.heap.size,3,none⟩=some (.int .i64 cnt):=Ju.cell 3
      have m7:=Lib.hid GI
      clear GI Ju h7 HE
      go_wp2
      have HQ:=H7.out _ (AK.four W6 w.heap.size (.int .i64 0) (.int .i64 0) (.int .i64 k) (.int .i64 cnt))
      have Ec:=(((m7.out.set 0 (.int .i64 0)).set 1 (.int .i64 0)).set 2 (.int .i64 k)).set 3 (.int .i64 cnt)
      have r0:=Ec.cell 0
      have r1:=Ec.cell 1
      have r2:=Ec.cell 2
      have r3:=Ec.cell 3
      refine bodyPost_ret (v:=.tuple #[.agg #[.int .i64 0,.int .i64 0,.int .i64 k,.int .i64 cnt],.int .i64 0]) (by simp[results,Tryz.results40,go_sem,r0,r1,r2,r3]) rfl HQ
    · have gc:0<cnt:=by omega
      have hfe:=zA.out Ht
      have QX:=AH Bq.out
      have q1:=Ct.out W3.drew QX
      have i5:=Ct.out W3 Bq.out
      rw[hfe]at Aq
      clear hfe i4
      have i4:=i5.2.2.1
      clear Ht
      go_wp2
      go_region_held3 (fun w'=>w'.cell? ⟨x,0,none⟩=some (.int .i64 k)∧w'.cell? ⟨x,1,none⟩=some (.int .i64 Ee)∧w'.cell? ⟨x,4,none⟩=some (.int .i64 cnt)∧w'.cell? ⟨x,5,none⟩=some (.int .i64 first))
        (first|with_reducible exact q1|with_reducible exact q2|with_reducible exact q3|with_reducible exact q4)
        (first
          | (go_at_call 62;(with_reducible refine(MA.out _).mono ?_);rintro e w4 ⟨rfl,UG⟩;have Kz:=(Nt.out.drewN 1).below UG (Nt.out.drewN 1).lt;have Dz:=QX.trans (UG.mono QX.size);have q2:=Ct.out w4 Dz;have f0:w4.cell? ⟨W2.heap.size,0,none⟩=some (.int .i64 0):=Kz.cell 0;have f1:w4.cell? ⟨W2.heap.size,1,none⟩=some (.int .i64 0):=Kz.cell 1;have z0:=Kz.free 0;have z1:=Kz.free 1;have DS:=Dz.setCell (p:=⟨W2.heap.size,0,none⟩) (Nat.le_refl _) (.int .i64 first);have q3:=Ct.out _ DS;have SO:=DS.setCell (p:=⟨W2.heap.size,1,none⟩) (Nat.le_refl _) (.int .i64 nb);have q4:=Ct.out _ SO;have bV:=Lib.hid Kz;clear Kz UG))
      have GQ:=(bV.out.set 0 (.int .i64 first)).set 1 (.int .i64 nb)
      have HE:=Lib.hid (Aq.out _ SO GQ)
      have i6:((w4.setCell ⟨W2.heap.size,0,none⟩ (.int .i64 first)).setCell ⟨W2.heap.size,1,none⟩ (.int .i64 nb)).cell? ⟨W2.heap.size,1,none⟩=some (.int .i64 nb):=GQ.cell 1
      clear Aq Ct q1 q2 q3 q4 f0 f1 z0 z1 Dz DS SO GQ bV Nt Bq i4 i5 QX MA
      generalize(w4.setCell ⟨W2.heap.size,0,none⟩ (.int .i64 first)).setCell ⟨W2.heap.size,1,none⟩ (.int .i64 nb)=W5 at*
      go_wp2_with fail
      refine HE.out.mono ?_;rintro e W6 ⟨rfl,⟨GI,Ju⟩,h7⟩
      have H7:=Lib.hid h7
      have q0:W6.cell? ⟨w.heap.size,0,none⟩=some (.int .i64 0):=GI.cell 0
      have q1:W6.cell? ⟨w.heap.size,1,none⟩=some (.int .i64 0):=GI.cell 1
      have q2:W6.cell? ⟨w.heap.size,2,none⟩=some (.int .i64 0):=GI.cell 2
      have q3:W6.cell? ⟨w.heap.size,3,none⟩=some (.int .i64 0):=GI.cell 3
      have z0:=GI.free 0
      have z1:=GI.free 1
      have z2:=GI.free 2
      have z3:=GI.free 3
      have s0:W6.cell? ⟨W2.heap.size,0,none⟩=some (.int .i64 first):=Ju.cell 0
      have s1:W6.cell? ⟨W2.heap.size,1,none⟩=some (.int .i64 nb):=Ju.cell 1
      have s2:W6.cell? ⟨W2.heap.size,2,none⟩=some (.int .i64 k):=Ju.cell 2
      have s3:W6.cell? ⟨W2.heap.size,3,none⟩=some (.int .i64 cnt):=Ju.cell 3
      have m7:=Lib.hid GI
      clear GI Ju h7 HE
      go_wp2
      have HQ:=H7.out _ (AK.four W6 w.heap.size (.int .i64 first) (.int .i64 nb) (.int .i64 k) (.int .i64 cnt))
      have Ec:=(((m7.out.set 0 (.int .i64 first)).set 1 (.int .i64 nb)).set 2 (.int .i64 k)).set 3 (.int .i64 cnt)
      have r0:=Ec.cell 0
      have r1:=Ec.cell 1
      have r2:=Ec.cell 2
      have r3:=Ec.cell 3
      refine bodyPost_ret (v:=.tuple #[.agg #[.int .i64 first,.int .i64 nb,.int .i64 k,.int .i64 cnt],.int .i64 0]) (by simp[results,Tryz.results40,go_sem,r0,r1,r2,r3]) rfl HQ
  · have gr:0<r:=by omega
    have jW:=Lib.hid (Lj.out Cz)
    have nR:=Lib.hid (oy.out Cz)
    have nQ:=Lib.hid (ox.out Cz)
    clear ck oy ox Lj bw Cz So
    by_cases uL:er=0
    · subst uL
      have HP:=Lib.hid (nR.out rfl)
      clear nR nQ
      go_enter Tryz.func40,Tryz.ntmps40
      go_wp2_with fail
      rw[←yV.out]
      refine HC.out.mono ?_;rintro e w1 ⟨rfl,rfl⟩
      go_wp2
      go_region
      go_wp2_with fail
      refine jW.out.mono ?_;rintro e W2 ⟨rfl,h2⟩
      have Nv:Hid (Iq w w1 G x p ⟨k,Ee,bound,first,blocks,b,g,l⟩ FB (n+1) W2):=by
        rcases h2 with⟨_,h3⟩|⟨h3,_⟩
        · exact h3
        · exact absurd rfl h3
      have Jw:=gU
      clear h2 jW gU
      clear gr VL DO Qx a1 a4
      have Ct:=Lib.hid (Nw.out _ _ _ Nv.out)
      obtain⟨e0,e1,e4,e5⟩:=Ct.out W2 (Below.refl _ _)
      have vz:x<W2.heap.size:=Nv.out.2.1.lt
      have T3:=Nv.out.2.2
      have xC:w.heap.size<W2.heap.size:=T3.lt
      have nF:=Lib.hid T3
      clear T3
      go_wp2
      go_region
      have Z6:Row (W2.alloc (.cells #[.int .i64 0,.int .i64 0,.int .i64 k,.int .i64 cnt] 39)).drew W2.heap.size 39 [.int .i64 0,.int .i64 0,.int .i64 k,.int .i64 cnt]:=heap_alloc_new _ _
      have A9:=AH ((Below.refl W2.heap.size W2).alloc (Nat.le_refl _) (.cells #[.int .i64 0,.int .i64 0,.int .i64 k,.int .i64 cnt] 39))
      generalize(W2.alloc (.cells #[.int .i64 0,.int .i64 0,.int .i64 k,.int .i64 cnt] 39)).drew=W3 at*
      obtain⟨_,_,i4,_⟩:=Ct.out W3 A9
      have Bq:=Lib.hid A9
      have Nt:=Lib.hid Z6
      clear e0 e1 e4 e5
      have Aq:Hid (∀W5,Below W2.heap.size W2 W5→Row W5 W2.heap.size 39 [.int .i64 fst,.int .i64 nb,.int .i64 k,.int .i64 cnt]→Calls Tryz.prog 66 #[.pointer (some ⟨x,0,none⟩),.int .i64 nb] W5 fun e w6=>e=.returned (.tuple #[])∧(Row w6 w.heap.size 39 [.int .i64 0,.int .i64 0,.int .i64 0,.int .i64 0]∧Row w6 W2.heap.size 39 [.int .i64 fst,.int .i64 nb,.int .i64 k,.int .i64 cnt])∧∀W7,AK (fun k=>k=w.heap.size) w6 W7→EO (.returned (.tuple #[Cq fst nb k cnt,.int .i64 0])) W7):=fun W5 DS GQ=>
        (Vo.out _ _ W2 Nv.out (by first|exact Jw.out.1|rfl) (by first|exact Jw.out.2|rfl) W5 DS).mono fun e w6 ⟨he,h6,hz,hk⟩=>⟨he,⟨hz,hk _ _ GQ (Nat.le_refl _)⟩,fun W7 S3=>HP.out W7 (Fg.out _ _ nb w6 W7 (by first|exact Jw.out.1|rfl) h6 S3)⟩
      clear Vo Fg HP Z6 A9 nF nK HC Nv Jw
      by_cases Ht:cnt=0
      · obtain⟨wu,xW⟩:=HZ.out Ht
        subst wu;subst xW
        have gc:¬0<cnt:=by omega
        have i5:W3.cell? ⟨W2.heap.size,1,none⟩=some (.int .i64 0):=Nt.out.cell 1
        have HE:=Lib.hid (Aq.out W3 Bq.out Nt.out)
        clear Aq Ht Ct
        go_wp2_with fail
        refine HE.out.mono ?_;rintro e W6 ⟨rfl,⟨GI,Ju⟩,h7⟩
        have H7:=Lib.hid h7
        have q0:W6.cell? ⟨w.heap.size,0,none⟩=some (.int .i64 0):=GI.cell 0
        have q1:W6.cell? ⟨w.heap.size,1,none⟩=some (.int .i64 0):=GI.cell 1
        have q2:W6.cell? ⟨w.heap.size,2,none⟩=some (.int .i64 0):=GI.cell 2
        have q3:W6.cell? ⟨w.heap.size,3,none⟩=some (.int .i64 0):=GI.cell 3
        have z0:=GI.free 0
        have z1:=GI.free 1
        have z2:=GI.free 2
        have z3:=GI.free 3
        have s0:W6.cell? ⟨W2.heap.size,0,none⟩=some (.int .i64 0):=Ju.cell 0
        have s1:W6.cell? ⟨W2.heap.size,1,none⟩=some (.int .i64 0):=Ju.cell 1
        have s2:W6.cell? ⟨W2.heap.size,2,none⟩=some (.int .i64 k):=Ju.cell 2
        have s3:W6.cell? ⟨W2.heap.size,3,none⟩=some (.int .i64 cnt):=Ju.cell 3
        have m7:=Lib.hid GI
        clear GI Ju h7 HE
        go_wp2
        have HQ:=H7.out _ (AK.four W6 w.heap.size (.int .i64 0) (.int .i64 0) (.int .i64 k) (.int .i64 cnt))
        have Ec:=(((m7.out.set 0 (.int .i64 0)).set 1 (.int .i64 0)).set 2 (.int .i64 k)).set 3 (.int .i64 cnt)
        have r0:=Ec.cell 0
        have r1:=Ec.cell 1
        have r2:=Ec.cell 2
        have r3:=Ec.cell 3
        refine bodyPost_ret (v:=.tuple #[.agg #[.int .i64 0,.int .i64 0,.int .i64 k,.int .i64 cnt],.int .i64 0]) (by simp[results,Tryz.results40,go_sem,r0,r1,r2,r3]) rfl HQ
      · have gc:0<cnt:=by omega
        have hfe:=zA.out Ht
        have QX:=AH Bq.out
        have q1:=Ct.out W3.drew QX
        have i5:=Ct.out W3 Bq.out
        rw[hfe]at Aq
        clear hfe i4
        have i4:=i5.2.2.1
        clear Ht
        go_wp2
        go_region_held3 (fun w'=>w'.cell? ⟨x,0,none⟩=some (.int .i64 k)∧w'.cell? ⟨x,1,none⟩=some (.int .i64 Ee)∧w'.cell? ⟨x,4,none⟩=some (.int .i64 cnt)∧w'.cell? ⟨x,5,none⟩=some (.int .i64 first))
          (first|with_reducible exact q1|with_reducible exact q2|with_reducible exact q3|with_reducible exact q4)
          (first
            | (go_at_call 62;(with_reducible refine(MA.out _).mono ?_);rintro e w4 ⟨rfl,UG⟩;have Kz:=(Nt.out.drewN 1).below UG (Nt.out.drewN 1).lt;have Dz:=QX.trans (UG.mono QX.size);have q2:=Ct.out w4 Dz;have f0:w4.cell? ⟨W2.heap.size,0,none⟩=some (.int .i64 0):=Kz.cell 0;have f1:w4.cell? ⟨W2.heap.size,1,none⟩=some (.int .i64 0):=Kz.cell 1;have z0:=Kz.free 0;have z1:=Kz.free 1;have DS:=Dz.setCell (p:=⟨W2.heap.size,0,none⟩) (Nat.le_refl _) (.int .i64 first);have q3:=Ct.out _ DS;have SO:=DS.setCell (p:=⟨W2.heap.size,1,none⟩) (Nat.le_refl _) (.int .i64 nb);have q4:=Ct.out _ SO;have bV:=Lib.hid Kz;clear Kz UG))
        have GQ:=(bV.out.set 0 (.int .i64 first)).set 1 (.int .i64 nb)
        have HE:=Lib.hid (Aq.out _ SO GQ)
        have i6:((w4.setCell ⟨W2.heap.size,0,none⟩ (.int .i64 first)).setCell ⟨W2.heap.size,1,none⟩ (.int .i64 nb)).cell? ⟨W2.heap.size,1,none⟩=some (.int .i64 nb):=GQ.cell 1
        clear Aq Ct q1 q2 q3 q4 f0 f1 z0 z1 Dz DS SO GQ bV Nt Bq i4 i5 QX MA
        generalize(w4.setCell ⟨W2.heap.size,0,none⟩ (.int .i64 first)).setCell ⟨W2.heap.size,1,none⟩ (.int .i64 nb)=W5 at*
        go_wp2_with fail
        refine HE.out.mono ?_;rintro e W6 ⟨rfl,⟨GI,Ju⟩,h7⟩
        have H7:=Lib.hid h7
        have q0:W6.cell? ⟨w.heap.size,0,none⟩=some (.int .i64 0):=GI.cell 0
        have q1:W6.cell? ⟨w.heap.size,1,none⟩=some (.int .i64 0):=GI.cell 1
        have q2:W6.cell? ⟨w.heap.size,2,none⟩=some (.int .i64 0):=GI.cell 2
        have q3:W6.cell? ⟨w.heap.size,3,none⟩=some (.int .i64 0):=GI.cell 3
        have z0:=GI.free 0
        have z1:=GI.free 1
        have z2:=GI.free 2
        have z3:=GI.free 3
        have s0:W6.cell? ⟨W2.heap.size,0,none⟩=some (.int .i64 first):=Ju.cell 0
        have s1:W6.cell? ⟨W2.heap.size,1,none⟩=some (.int .i64 nb):=Ju.cell 1
        have s2:W6.cell? ⟨W2.heap.size,2,none⟩=some (.int .i64 k):=Ju.cell 2
        have s3:W6.cell? ⟨W2.heap.size,3,none⟩=some (.int .i64 cnt):=Ju.cell 3
        have m7:=Lib.hid GI
        clear GI Ju h7 HE
        go_wp2
        have HQ:=H7.out _ (AK.four W6 w.heap.size (.int .i64 first) (.int .i64 nb) (.int .i64 k) (.int .i64 cnt))
        have Ec:=(((m7.out.set 0 (.int .i64 first)).set 1 (.int .i64 nb)).set 2 (.int .i64 k)).set 3 (.int .i64 cnt)
        have r0:=Ec.cell 0
        have r1:=Ec.cell 1
        have r2:=Ec.cell 2
        have r3:=Ec.cell 3
        refine bodyPost_ret (v:=.tuple #[.agg #[.int .i64 first,.int .i64 nb,.int .i64 k,.int .i64 cnt],.int .i64 0]) (by simp[results,Tryz.results40,go_sem,r0,r1,r2,r3]) rfl HQ
    · have g9:(er !=0)=true:=by simpa using uL
      have HP:=Lib.hid (nQ.out uL)
      clear nR nQ
      go_enter Tryz.func40,Tryz.ntmps40
      go_wp2_with fail
      rw[←yV.out]
      refine HC.out.mono ?_;rintro e w1 ⟨rfl,rfl⟩
      go_wp2
      go_region
      go_wp2_with fail
      refine jW.out.mono ?_;rintro e W2 ⟨rfl,h2⟩
      have h3:Bk w1 G b p (Dx FB ⟨k,Ee,bound,first,blocks,b,g,l⟩ 0) (n+1) W2∧Row W2 w.heap.size 39 [.int .i64 0,.int .i64 0,.int .i64 0,.int .i64 0]:=by
        rcases h2 with⟨h3,_⟩|⟨_,h3⟩
        · exact absurd h3 uL
        · exact h3
      have q0:W2.cell? ⟨w.heap.size,0,none⟩=some (.int .i64 0):=h3.2.cell 0
      have q1:W2.cell? ⟨w.heap.size,1,none⟩=some (.int .i64 0):=h3.2.cell 1
      have q2:W2.cell? ⟨w.heap.size,2,none⟩=some (.int .i64 0):=h3.2.cell 2
      have q3:W2.cell? ⟨w.heap.size,3,none⟩=some (.int .i64 0):=h3.2.cell 3
      have z0:=h3.2.free 0
      have z1:=h3.2.free 1
      have z2:=h3.2.free 2
      have z3:=h3.2.free 3
      have H3:=Lib.hid h3
      clear h2 h3 jW
      go_wp2
      have HQ:=HP.out _ (Fg.out FB (n+1) 0 W2 _ gU.out.1 H3.out.1 (AK.four W2 w.heap.size (.int .i64 0) (.int .i64 0) (.int .i64 0) (.int .i64 0)))
      have Ec:=(((H3.out.2.set 0 (.int .i64 0)).set 1 (.int .i64 0)).set 2 (.int .i64 0)).set 3 (.int .i64 0)
      have r0:=Ec.cell 0
      have r1:=Ec.cell 1
      have r2:=Ec.cell 2
      have r3:=Ec.cell 3
      refine bodyPost_ret (v:=.tuple #[.agg #[.int .i64 0,.int .i64 0,.int .i64 0,.int .i64 0],.int .i64 er]) (by simp[results,Tryz.results40,go_sem,r0,r1,r2,r3]) rfl HQ
def FX(F:Fs)(width bound:Int):Prop:=AE F.D.size width≠0∧0≤bound∧bound≤100000000
def mo(F:Fs)(width bound er:Int):Prop:=
 (er=1∧¬FX F width bound)∨(er=7∧FX F width bound∧F.A.room-F.A.used<F.D.size)∨
 (er=5∧FX F width bound∧F.D.size≤F.A.room-F.A.used∧0<AA (AE F.D.size width) bound.toNat∧∀k,¬JC F.S k (AA (AE F.D.size width) bound.toNat))
def Gq(S S':Sp)(a m:Nat):Prop:=(m=0∧a=0∧S'=S)∨(0<m∧Xn S S' a m∧∀k,JC S k m→a≤k)
theorem PG{S S':Sp}{a m:Nat}(hm:0<m)(h:S.ok)(ht:Xn S S' a m):(CO S' a m).1=S:=by
 have hr:=h.2.2
 have h1:=hr.has (ht.room a (Nat.le_refl _) (by omega))
 have h2:=hr.has (ht.room (a+m-1) (by omega) (by omega))
 rcases Hg ht.ok (a:Int) (m:Int)with⟨s',a',m',e1,e2,h3,e3,hg⟩|⟨e3,hno⟩
 ·have ea:a'=a:=by omega
  have em:m'=m:=by omega
  subst ea;subst em
  rw[e3]
  have hf:s'.first=S.first:=hg.first.trans ht.first
  have hb:s'.blocks=S.blocks:=hg.blocks.trans ht.blocks
  have YB:s'.fr=S.fr:=by
   have hc:=hg.ok.2.2
   rw[hf,hb]at hc
   refine Canon.only hc hr fun b=>?_
   rw[hg.has,ht.has]
   constructor
   ·rintro(h4|h4)
    ·exact h4.1
    ·exact ht.room b h4.1 h4.2
   ·intro h4
    by_cases h5:a'≤b∧b<a'+m'
    ·exact .inr h5
    ·exact .inl ⟨h4,h5⟩
  obtain⟨f1,b1,l1⟩:=s'
  obtain⟨f2,b2,l2⟩:=S
  simp only at hf hb YB
  subst hf;subst hb;subst YB;rfl
 ·refine absurd ?_ (hno a m rfl rfl (by omega))
  rw[ht.first,ht.blocks]
  exact⟨h1.1,by omega,fun b Aj AX hh=>((ht.has b).1 hh).2 ⟨Aj,AX⟩⟩
theorem Ux{S S':Sp}{a m:Nat}(hm:0<m)(h:S.ok)(ht:Xn S S' a m):a+m≤S.first+S.blocks∧S.first≤a:=by
 have hr:=h.2.2
 have h1:=hr.has (ht.room a (Nat.le_refl _) (by omega))
 have h2:=hr.has (ht.room (a+m-1) (by omega) (by omega))
 omega
theorem TS{S:Sp}(h:S.ok)(m:Nat):(∃S' a,takeN S m=(S',a,m,0)∧Gq S S' a m∧At S' a m=S∧a+m≤2000000)∨(takeN S m=(S,0,0,5)∧0<m∧∀k,¬JC S k m):=by
 by_cases hm:m=0
 ·subst hm;exact .inl ⟨S,0,rfl,.inl ⟨rfl,rfl,rfl⟩,rfl,by omega⟩
 ·have hm':0<m:=by omega
  unfold takeN
  rw[if_neg hm]
  rcases TR h (n:=m) hm' with⟨S',a,e,ht,hl⟩|⟨e,hno⟩
  ·rw[e,if_pos rfl]
   refine .inl ⟨S',a,rfl,.inr ⟨hm',ht,hl⟩,?_,?_⟩
   ·unfold At;rw[if_neg hm];exact PG hm' h ht
   ·have:=Ux hm' h ht;have:=h.1;have:=h.2.1;omega
  ·rw[e,if_neg (show ¬((5:Nat)=0)by decide)]
   exact .inr ⟨rfl,hm',hno⟩
theorem Gh{size:Nat}{width:Int}(h:AE size width≠0):∃k:Nat,width=(k:Int)∧0<k∧k≤5∧AE size width*k≤size-2:=by
 unfold AE at h⊢
 by_cases hc:width<1∨5<width
 ·rw[if_pos hc]at h;exact absurd rfl h
 ·rw[if_neg hc]
  refine⟨width.toNat,by omega,by omega,by omega,?_⟩
  exact Nat.div_mul_le_self _ _
theorem UL{w:World}{G:Nat→Prop}{p:Wp}{F:Fs}{n:Nat}(h:Sys w G p F n)(width bound:Int)(hno:¬FX F width bound):Calls Tryz.prog 37 #[.pointer (some ⟨p.w,0,none⟩),.int .i64 width,.int .i64 bound] w fun e w'=>e=.returned (.tuple #[.pointer none,.int .i64 1])∧Below w.heap.size w w':=by
 have HS:=Lib.hid (E1 h width)
 by_cases h0:AE F.D.size width=0
 ·rw[h0]at HS
  clear h0 hno h
  go_enter Tryz.func37,Tryz.ntmps37
  go_wp2_with fail
  refine HS.out.mono ?_;rintro e w1 ⟨rfl,hb⟩
  have HB:=Lib.hid (hb.alloc hb.size (.cells #[.int .i64 width,.int .i64 0] 113))
  clear hb
  go_wp2
  go_ret2
  exact⟨rfl,HB.out⟩
 ·have g0:(((AE F.D.size width:Nat):Int)==0)=false:=by simpa using h0
  by_cases h1:bound<0
  ·have g1:decide (bound<0)=true:=by simpa using h1
   generalize AE F.D.size width=hh at*
   clear h0 hno h h1
   go_enter Tryz.func37,Tryz.ntmps37
   go_wp2_with fail
   refine HS.out.mono ?_;rintro e w1 ⟨rfl,hb⟩
   have HB:=Lib.hid (hb.alloc hb.size (.cells #[.int .i64 width,.int .i64 hh] 113))
   clear hb
   go_wp2
   go_ret2
   exact⟨rfl,HB.out⟩
  ·have g1:decide (bound<0)=false:=by simpa using h1
   have g2:decide (bound>100000000)=true:=by
    have:¬bound≤100000000:=fun h2=>hno ⟨h0,by omega,h2⟩
    simp;omega
   generalize AE F.D.size width=hh at*
   clear h0 hno h h1
   go_enter Tryz.func37,Tryz.ntmps37
   go_wp2_with fail
   refine HS.out.mono ?_;rintro e w1 ⟨rfl,hb⟩
   have HB:=Lib.hid (hb.alloc hb.size (.cells #[.int .i64 width,.int .i64 hh] 113))
   clear hb
   go_wp2
   go_ret2
   exact⟨rfl,HB.out⟩
theorem SU{w:World}{G:Nat→Prop}{p:Wp}{F:Fs}{n:Nat}(h:Sys w G p F n)(width bound:Int)(ha:FX F width bound)(QN:takeN F.S (AA (AE F.D.size width) bound.toNat)=(F.S,0,0,5))(e7:Bool)(rB:e7=decide (F.A.room-F.A.used<F.D.size)):Calls Tryz.prog 37 #[.pointer (some ⟨p.w,0,none⟩),.int .i64 width,.int .i64 bound] w fun e w'=>e=.returned (.tuple #[.pointer none,.int .i64 (if e7 then 7 else 5)])∧AQ w G p F n w':=by
 have hsz:=h.size
 have Ed:AE F.D.size width≤254:=Nat.le_trans (Dm _ _) (by omega)
 obtain⟨ML,XR,mD⟩:=ha
 obtain⟨bn,rfl⟩:∃bn:Nat,bound=(bn:Int):=⟨bound.toNat,by omega⟩
 rw[Int.toNat_natCast]at QN
 obtain⟨k,rfl,VO,fG,iU⟩:=Gh ML
 have PB:AA (AE F.D.size k) bn≤100000000:=Nat.le_trans (BM _ _) (by omega)
 have HS:=Lib.hid (E1 h k)
 have MA:Hid (∀W,Calls Tryz.prog 62 #[.agg #[.int .i64 k,.int .i64 (AE F.D.size k:Nat)],.int .i64 bn] W fun e w'=>e=.returned (.int .i64 (AA (AE F.D.size k) bn:Nat))∧Below W.heap.size W w'):=fun W=>FV k (AE F.D.size k) bn W (by omega) Ed (by omega)
 have Kg:Hid (∀W,Below w.heap.size w W→Calls Tryz.prog 61 #[.pointer (some ⟨p.w,0,none⟩),.int .i64 (AA (AE F.D.size k) bn:Nat)] W fun e w'=>e=.returned (.tuple #[.agg #[.int .i64 0,.int .i64 0],.int .i64 5])∧AQ W G p F n w'∧∀g t cs,Row W g t cs→¬G g→Row w' g t cs):=fun W hb=>by
  have h1:=K8 (h.below hb) (AA (AE F.D.size k) bn) PB
  rw[QN]at h1
  exact h1.mono fun e w' ⟨he,h2⟩=>⟨he,h2,fun g t cs hr hg=>h2.row hr hg⟩
 have Vs:Hid (∀k,w.heap.size≤k→¬G k):=fun k hk hg=>by have:=h.lt hg;omega
 have so:Hid (∀W G',Sys W G' p F n→∀q,Calls Tryz.prog 43 #[.pointer (some ⟨p.a,0,none⟩)] (W.drewN q) fun e DG=>e=.returned (.int .i64 ((F.A.room-F.A.used:Nat):Int))∧∃k,DG=W.drewN k):=fun W G' hs q=>Calls.quiet_of_same ((hs.below (AG (Below.refl _ _) q)).Ry.mono fun _ _ h=>h)
 have S9:Hid (∀W G',Sys W G' p F n→∀q,Calls Tryz.prog 44 #[.pointer (some ⟨p.d,0,none⟩)] (W.drewN q) fun e DG=>e=.returned (.int .i64 (F.D.size:Int))∧∃k,DG=W.drewN k):=fun W G' hs q=>Calls.quiet_of_same ((hs.below (AG (Below.refl _ _) q)).Dd.mono fun _ _ h=>h)
 obtain⟨left,La⟩:∃left,left=F.A.room-F.A.used:=⟨_,rfl⟩
 rw[←La]at so rB
 have g0:(((AE F.D.size (k:Int):Nat):Int)==0)=false:=by simpa using ML
 have g1:decide ((bn:Int)<0)=false:=by simp
 have g2:decide ((bn:Int)>100000000)=false:=by simp;omega
 clear La QN h ML XR iU Ed
 generalize AA (AE F.D.size k) bn=nb at*
 generalize AE F.D.size k=hh at*
 cases e7
 ·have gl:¬left<F.D.size:=by simpa using rB
  clear rB
  go_enter Tryz.func37,Tryz.ntmps37
  go_wp2_with fail
  refine HS.out.mono ?_;rintro e w1 ⟨rfl,Aj⟩
  have AX:=Aj.alloc Aj.size (.cells #[.int .i64 k,.int .i64 hh] 113)
  have Ap:Row (w1.alloc (.cells #[.int .i64 k,.int .i64 hh] 113)) w1.heap.size 113 [.int .i64 k,.int .i64 hh]:=heap_alloc_new _ _
  have QT:=Aj.size
  clear Aj
  go_wp2_with fail
  refine(MA.out _).mono ?_;rintro e w3 ⟨rfl,A9⟩
  have Cm:=Ap.below A9 Ap.lt
  have NQ:=AX.trans (A9.mono AX.size)
  have Hq:=Lib.hid Cm
  have Bq:=Lib.hid NQ
  have OG:=Lib.hid QT
  clear AX Ap A9 Cm NQ QT
  go_wp2_with fail
  refine(Kg.out _ Bq.out).mono ?_;rintro e w4 ⟨rfl,h4,XI⟩
  have FZ:=XI _ _ _ Hq.out (Vs.out _ OG.out)
  obtain⟨G',k1,Sw,M9⟩:=h4
  have Lv:¬G' w1.heap.size:=fun hg=>(M9 _ hg).elim (Vs.out _ OG.out) fun h=>by have:=Hq.out.lt;omega
  have k2:AK G w w4:=(AK.AJ Bq.out G).trans Sw fun b hb=>.inl hb
  have k3:∀k,G' k→G k∨w.heap.size≤k:=fun k hk=>(M9 k hk).imp id fun h=>Nat.le_trans Bq.out.size h
  clear Sw M9
  have DS:=(Below.refl w4.heap.size w4).alloc (Nat.le_refl _) (.cells #[.int .i64 0,.int .i64 0] 80)
  have GQ:=FZ.below DS FZ.lt
  have OO:Row (w4.alloc (.cells #[.int .i64 0,.int .i64 0] 80)) w4.heap.size 80 [.int .i64 0,.int .i64 0]:=heap_alloc_new _ _
  have k5:=k1.below DS
  have Ty:=k2.size
  go_wp2
  generalize w4.alloc (.cells #[.int .i64 0,.int .i64 0] 80)=w5 at*
  have Q1:=Lib.hid (so.out w5 G' k5)
  have Q2:=Lib.hid (S9.out w5 G' k5)
  have c0:w5.cell? ⟨p.w,0,none⟩=some (.pointer (some ⟨p.d,0,none⟩)):=k5.row.cell 0
  have c1:w5.cell? ⟨p.w,1,none⟩=some (.pointer (some ⟨p.a,0,none⟩)):=k5.row.cell 1
  have Aq:Hid (∀q,AQ w G p F n (w5.drewN q)):=fun q=>AQ.ahead (AQ.ahead ⟨G',k1,k2,k3⟩ DS) (AG (Below.refl _ _) q)
  clear k1 k2 k3 k5 DS GQ OO FZ XI MA Kg HS so S9 Hq Bq
  go_quiet ((with_reducible first|exact Q1.out _|exact Q2.out _))
  go_wp2
  go_ret2
  exact⟨rfl,Aq.out _⟩
 ·have gl:left<F.D.size:=by simpa using rB
  clear rB
  go_enter Tryz.func37,Tryz.ntmps37
  go_wp2_with fail
  refine HS.out.mono ?_;rintro e w1 ⟨rfl,Aj⟩
  have AX:=Aj.alloc Aj.size (.cells #[.int .i64 k,.int .i64 hh] 113)
  have Ap:Row (w1.alloc (.cells #[.int .i64 k,.int .i64 hh] 113)) w1.heap.size 113 [.int .i64 k,.int .i64 hh]:=heap_alloc_new _ _
  have QT:=Aj.size
  clear Aj
  go_wp2_with fail
  refine(MA.out _).mono ?_;rintro e w3 ⟨rfl,A9⟩
  have Cm:=Ap.below A9 Ap.lt
  have NQ:=AX.trans (A9.mono AX.size)
  have Hq:=Lib.hid Cm
  have Bq:=Lib.hid NQ
  have OG:=Lib.hid QT
  clear AX Ap A9 Cm NQ QT
  go_wp2_with fail
  refine(Kg.out _ Bq.out).mono ?_;rintro e w4 ⟨rfl,h4,XI⟩
  have FZ:=XI _ _ _ Hq.out (Vs.out _ OG.out)
  obtain⟨G',k1,Sw,M9⟩:=h4
  have Lv:¬G' w1.heap.size:=fun hg=>(M9 _ hg).elim (Vs.out _ OG.out) fun h=>by have:=Hq.out.lt;omega
  have k2:AK G w w4:=(AK.AJ Bq.out G).trans Sw fun b hb=>.inl hb
  have k3:∀k,G' k→G k∨w.heap.size≤k:=fun k hk=>(M9 k hk).imp id fun h=>Nat.le_trans Bq.out.size h
  clear Sw M9
  have DS:=(Below.refl w4.heap.size w4).alloc (Nat.le_refl _) (.cells #[.int .i64 0,.int .i64 0] 80)
  have GQ:=FZ.below DS FZ.lt
  have OO:Row (w4.alloc (.cells #[.int .i64 0,.int .i64 0] 80)) w4.heap.size 80 [.int .i64 0,.int .i64 0]:=heap_alloc_new _ _
  have k5:=k1.below DS
  have Ty:=k2.size
  go_wp2
  generalize w4.alloc (.cells #[.int .i64 0,.int .i64 0] 80)=w5 at*
  have Q1:=Lib.hid (so.out w5 G' k5)
  have Q2:=Lib.hid (S9.out w5 G' k5)
  have c0:w5.cell? ⟨p.w,0,none⟩=some (.pointer (some ⟨p.d,0,none⟩)):=k5.row.cell 0
  have c1:w5.cell? ⟨p.w,1,none⟩=some (.pointer (some ⟨p.a,0,none⟩)):=k5.row.cell 1
  have Aq:Hid (∀q,AQ w G p F n (w5.drewN q)):=fun q=>AQ.ahead (AQ.ahead ⟨G',k1,k2,k3⟩ DS) (AG (Below.refl _ _) q)
  clear k1 k2 k3 k5 DS GQ OO FZ XI MA Kg HS so S9 Hq Bq
  go_quiet ((with_reducible first|exact Q1.out _|exact Q2.out _))
  go_wp2
  go_ret2
  exact⟨rfl,Aq.out _⟩
theorem J0{w:World}{G:Nat→Prop}{p:Wp}{F:Fs}{n:Nat}(h:Sys w G p F n)(m:Nat)(hm:F.A.room-F.A.used<m):Calls Tryz.prog 63 #[.pointer (some ⟨p.a,0,none⟩),.int .i64 m] w fun e w'=>e=.returned (.tuple #[.pointer none,.int .i64 7])∧w'=w:=by
 obtain⟨Ga,ha,_⟩:=h.sA
 have h1:=aY p.a F.A Ga (m:Int) w ha (.inr (by omega))
 rw[if_neg (by omega)]at h1
 exact h1
theorem Oh{w:World}{G:Nat→Prop}{p:Wp}{F:Fs}{n:Nat}(h:Sys w G p F n)(m:Nat)(hm:m≤F.A.room-F.A.used)(h8:m≤256):Calls Tryz.prog 63 #[.pointer (some ⟨p.a,0,none⟩),.int .i64 m] w fun e w'=>∃b g,e=.returned (.tuple #[.pointer (some ⟨b,0,none⟩),.int .i64 0])∧
  (∃G',Sys w' G' p {F with A:=Bo F.A b m} n∧AK G w w'∧(∀k,G' k→G k∨w.heap.size≤k)∧¬G' b∧¬G' g)∧Row w' b 126 [.slice (some ⟨g,0,none⟩) m m]∧Row w' g 127 ((List.replicate m 0).map vw)∧w.heap.size≤b∧w.heap.size≤g:=by
 obtain⟨Ga,ha,hg,_⟩:=h.sA
 refine(PF p.a F.A Ga m w ha hm (by omega)).mono ?_
 rintro e w' ⟨b,g,Xz,he,h1,h2,h3,h4,h5,h6⟩
 refine⟨b,g,he,hg w' b g m ⟨Xz,h1,h2,h3,h4,h5,h6⟩,h2,?_,h4,h5⟩
 rw[List.map_replicate];exact h3
theorem SS{w:World}{G:Nat→Prop}{p:Wp}{F:Fs}{n:Nat}(h:Sys w G p F n)(width bound:Int)(ha:FX F width bound)(S1:Sp)(a:Nat)(QN:takeN F.S (AA (AE F.D.size width) bound.toNat)=(S1,a,AA (AE F.D.size width) bound.toNat,0))(xS:At S1 a (AA (AE F.D.size width) bound.toNat)=F.S)(oV:a≤2000000)(hroom:F.A.room-F.A.used<F.D.size):Calls Tryz.prog 37 #[.pointer (some ⟨p.w,0,none⟩),.int .i64 width,.int .i64 bound] w fun e w'=>e=.returned (.tuple #[.pointer none,.int .i64 7])∧AQ w G p F n w':=by
 have hsz:=h.size
 have Ed:AE F.D.size width≤254:=Nat.le_trans (Dm _ _) (by omega)
 obtain⟨ML,XR,mD⟩:=ha
 obtain⟨bn,rfl⟩:∃bn:Nat,bound=(bn:Int):=⟨bound.toNat,by omega⟩
 rw[Int.toNat_natCast]at QN
 obtain⟨k,rfl,VO,fG,iU⟩:=Gh ML
 have PB:AA (AE F.D.size k) bn≤100000000:=Nat.le_trans (BM _ _) (by omega)
 have HS:=Lib.hid (E1 h k)
 have MA:Hid (∀W,Calls Tryz.prog 62 #[.agg #[.int .i64 k,.int .i64 (AE F.D.size k:Nat)],.int .i64 bn] W fun e w'=>e=.returned (.int .i64 (AA (AE F.D.size k) bn:Nat))∧Below W.heap.size W w'):=fun W=>FV k (AE F.D.size k) bn W (by omega) Ed (by omega)
 have Kg:Hid (∀W,Below w.heap.size w W→Calls Tryz.prog 61 #[.pointer (some ⟨p.w,0,none⟩),.int .i64 (AA (AE F.D.size k) bn:Nat)] W fun e w'=>e=.returned (.tuple #[.agg #[.int .i64 a,.int .i64 (AA (AE F.D.size k) bn:Nat)],.int .i64 0])∧AQ W G p {F with S:=S1} n w'∧∀g t cs,Row W g t cs→¬G g→Row w' g t cs):=fun W hb=>by
  have h1:=K8 (h.below hb) (AA (AE F.D.size k) bn) PB
  rw[QN]at h1
  exact h1.mono fun e w' ⟨he,h2⟩=>⟨he,h2,fun g t cs hr hg=>h2.row hr hg⟩
 have Vs:Hid (∀k,w.heap.size≤k→¬G k):=fun k hk hg=>by have:=h.lt hg;omega
 rw[Int.toNat_natCast]at xS
 obtain⟨F1,S7⟩:∃F1:Fs,F1={F with S:=S1}:=⟨_,rfl⟩
 rw[←S7]at Kg
 have su:Hid (∀W G',Sys W G' p F1 n→∀q,Calls Tryz.prog 63 #[.pointer (some ⟨p.a,0,none⟩),.int .i64 F.D.size] (W.drewN q) fun e DG=>e=.returned (.tuple #[.pointer none,.int .i64 7])∧∃k,DG=W.drewN k):=fun W G' hs q=>Calls.quiet_of_same ((J0 (hs.below (AG (Below.refl _ _) q)) F.D.size (by rw[S7];exact hroom)).mono fun _ _ h=>h)
 have S9:Hid (∀W G',Sys W G' p F1 n→∀q,Calls Tryz.prog 44 #[.pointer (some ⟨p.d,0,none⟩)] (W.drewN q) fun e DG=>e=.returned (.int .i64 (F.D.size:Int))∧∃k,DG=W.drewN k):=fun W G' hs q=>by
  have h1:=(hs.below (AG (Below.refl _ _) q)).Dd
  rw[S7]at h1
  exact Calls.quiet_of_same (h1.mono fun _ _ h=>h)
 have jY:Hid (∀W G',Sys W G' p F1 n→Calls Tryz.prog 64 #[.pointer (some ⟨p.w,0,none⟩),.agg #[.int .i64 a,.int .i64 (AA (AE F.D.size k) bn:Nat)]] W fun e w'=>e=.returned (.tuple #[])∧AQ W G' p F n w'):=fun W G' hs=>by
  have h1:=PM hs a (AA (AE F.D.size k) bn) (by omega) PB
  rw[S7]at h1
  simp only[xS]at h1
  exact h1
 have g0:(((AE F.D.size (k:Int):Nat):Int)==0)=false:=by simpa using ML
 have g1:decide ((bn:Int)<0)=false:=by simp
 have g2:decide ((bn:Int)>100000000)=false:=by simp;omega
 clear S7 QN h ML XR iU Ed xS hroom
 generalize AA (AE F.D.size k) bn=nb at*
 generalize AE F.D.size k=hh at*
 go_enter Tryz.func37,Tryz.ntmps37
 go_wp2_with fail
 refine HS.out.mono ?_;rintro e w1 ⟨rfl,Aj⟩
 have AX:=Aj.alloc Aj.size (.cells #[.int .i64 k,.int .i64 hh] 113)
 have Ap:Row (w1.alloc (.cells #[.int .i64 k,.int .i64 hh] 113)) w1.heap.size 113 [.int .i64 k,.int .i64 hh]:=heap_alloc_new _ _
 have QT:=Aj.size
 clear Aj
 go_wp2_with fail
 refine(MA.out _).mono ?_;rintro e w3 ⟨rfl,A9⟩
 have Cm:=Ap.below A9 Ap.lt
 have NQ:=AX.trans (A9.mono AX.size)
 have Hq:=Lib.hid Cm
 have Bq:=Lib.hid NQ
 have OG:=Lib.hid QT
 clear AX Ap A9 Cm NQ QT
 go_wp2_with fail
 refine(Kg.out _ Bq.out).mono ?_;rintro e w4 ⟨rfl,h4,XI⟩
 have FZ:=XI _ _ _ Hq.out (Vs.out _ OG.out)
 obtain⟨G',k1,Sw,M9⟩:=h4
 have Lv:¬G' w1.heap.size:=fun hg=>(M9 _ hg).elim (Vs.out _ OG.out) fun h=>by have:=Hq.out.lt;omega
 have k2:AK G w w4:=(AK.AJ Bq.out G).trans Sw fun b hb=>.inl hb
 have k3:∀k,G' k→G k∨w.heap.size≤k:=fun k hk=>(M9 k hk).imp id fun h=>Nat.le_trans Bq.out.size h
 clear Sw M9
 have DS:=(Below.refl w4.heap.size w4).alloc (Nat.le_refl _) (.cells #[.int .i64 a,.int .i64 nb] 80)
 have GQ:=FZ.below DS FZ.lt
 have OO:Row (w4.alloc (.cells #[.int .i64 a,.int .i64 nb] 80)) w4.heap.size 80 [.int .i64 a,.int .i64 nb]:=heap_alloc_new _ _
 have k5:=k1.below DS
 have Ty:=k2.size
 go_wp2
 generalize w4.alloc (.cells #[.int .i64 a,.int .i64 nb] 80)=w5 at*
 have Q1:=Lib.hid (su.out w5 G' k5)
 have Q2:=Lib.hid (S9.out w5 G' k5)
 have c0:w5.cell? ⟨p.w,0,none⟩=some (.pointer (some ⟨p.d,0,none⟩)):=k5.row.cell 0
 have c1:w5.cell? ⟨p.w,1,none⟩=some (.pointer (some ⟨p.a,0,none⟩)):=k5.row.cell 1
 have e0:w5.cell? ⟨w4.heap.size,0,none⟩=some (.int .i64 a):=OO.cell 0
 have e1:w5.cell? ⟨w4.heap.size,1,none⟩=some (.int .i64 nb):=OO.cell 1
 have sw:Hid (∀q,Calls Tryz.prog 64 #[.pointer (some ⟨p.w,0,none⟩),.agg #[.int .i64 a,.int .i64 nb]] (w5.drewN q) fun e w'=>e=.returned (.tuple #[])∧AQ w G p F n w'):=fun q=>by
  refine(jY.out _ G' (k5.below (AG (Below.refl _ _) q))).mono ?_
  rintro e w' ⟨he,h6⟩
  refine⟨he,?_⟩
  obtain⟨Cu,m1,m2,m3⟩:=h6
  have Sw:AK G w (w5.drewN q):=(k2.trans (AK.AJ DS fun _=>False) fun _ hf=>hf.elim).drewN q
  exact⟨Cu,m1,Sw.trans m2 k3,fun k hk=>(m3 k hk).elim (fun h=>k3 k h) fun h=>.inr (Nat.le_trans Sw.size h)⟩
 clear k1 k2 k3 k5 DS GQ OO FZ XI MA Kg HS su S9 Hq Bq jY
 go_quiet ((with_reducible first|exact Q1.out _|exact Q2.out _))
 clear Q1 Q2 c0 c1
 go_wp2_with fail
 refine(sw.out _).mono ?_;rintro e w6 ⟨rfl,h6⟩
 have H6:=Lib.hid h6
 clear h6 sw
 go_wp2
 go_ret2
 exact⟨rfl,H6.out⟩
def gC(w:World)(G:Nat→Prop)(p:Wp)(F:Fs)(n:Nat)(S1:Sp)(t:Wt)(x:Nat)(w':World):Prop:=
 w.heap.size≤x∧w.heap.size≤t.b∧w.heap.size≤t.g∧∃G',Sys w' G' p {F with S:=S1,A:=Bo F.A t.b F.D.size} n∧JJ w' x p t F.D.size∧OV G' x t∧AK G w w'∧∀k,G' k→G k∨w.heap.size≤k
def Ql(w:World)(G:Nat→Prop)(p:Wp)(F:Fs)(n:Nat)(S1:Sp)(a k h bn nb:Nat)(e:Ending)(w':World):Prop:=
 ∃x b g,e=.returned (.tuple #[.pointer (some ⟨x,0,none⟩),.int .i64 0])∧gC w G p F n S1 ⟨k,h,bn,a,nb,b,g,[]⟩ x w'
theorem XT{w:World}{G:Nat→Prop}{p:Wp}{F:Fs}{n:Nat}(h:Sys w G p F n)(width bound:Int)(ha:FX F width bound)(S1:Sp)(a:Nat)(QN:takeN F.S (AA (AE F.D.size width) bound.toNat)=(S1,a,AA (AE F.D.size width) bound.toNat,0))(hroom:F.D.size≤F.A.room-F.A.used):
  Calls Tryz.prog 37 #[.pointer (some ⟨p.w,0,none⟩),.int .i64 width,.int .i64 bound] w (Ql w G p F n S1 a width.toNat (AE F.D.size width) bound.toNat (AA (AE F.D.size width) bound.toNat)):=by
 have hsz:=h.size
 have Ed:AE F.D.size width≤254:=Nat.le_trans (Dm _ _) (by omega)
 obtain⟨ML,XR,mD⟩:=ha
 obtain⟨bn,rfl⟩:∃bn:Nat,bound=(bn:Int):=⟨bound.toNat,by omega⟩
 rw[Int.toNat_natCast]at QN
 obtain⟨k,rfl,VO,fG,iU⟩:=Gh ML
 have PB:AA (AE F.D.size k) bn≤100000000:=Nat.le_trans (BM _ _) (by omega)
 have HS:=Lib.hid (E1 h k)
 have MA:Hid (∀W,Calls Tryz.prog 62 #[.agg #[.int .i64 k,.int .i64 (AE F.D.size k:Nat)],.int .i64 bn] W fun e w'=>e=.returned (.int .i64 (AA (AE F.D.size k) bn:Nat))∧Below W.heap.size W w'):=fun W=>FV k (AE F.D.size k) bn W (by omega) Ed (by omega)
 have Kg:Hid (∀W,Below w.heap.size w W→Calls Tryz.prog 61 #[.pointer (some ⟨p.w,0,none⟩),.int .i64 (AA (AE F.D.size k) bn:Nat)] W fun e w'=>e=.returned (.tuple #[.agg #[.int .i64 a,.int .i64 (AA (AE F.D.size k) bn:Nat)],.int .i64 0])∧AQ W G p {F with S:=S1} n w'∧∀g t cs,Row W g t cs→¬G g→Row w' g t cs):=fun W hb=>by
  have h1:=K8 (h.below hb) (AA (AE F.D.size k) bn) PB
  rw[QN]at h1
  exact h1.mono fun e w' ⟨he,h2⟩=>⟨he,h2,fun g t cs hr hg=>h2.row hr hg⟩
 have Vs:Hid (∀k,w.heap.size≤k→¬G k):=fun k hk hg=>by have:=h.lt hg;omega
 simp only[Int.toNat_natCast]
 obtain⟨F1,S7⟩:∃F1:Fs,F1={F with S:=S1}:=⟨_,rfl⟩
 rw[←S7]at Kg
 obtain⟨size,Ca⟩:∃size,size=F.D.size:=⟨_,rfl⟩
 have Ul:Hid (∀W G',Sys W G' p F1 n→Calls Tryz.prog 63 #[.pointer (some ⟨p.a,0,none⟩),.int .i64 size] W.drew fun e w'=>∃b g,e=.returned (.tuple #[.pointer (some ⟨b,0,none⟩),.int .i64 0])∧
   (∃Cu,Sys w' Cu p {F with S:=S1,A:=Bo F.A b F.D.size} n∧AK G' W w'∧(∀k,Cu k→G' k∨W.heap.size≤k)∧¬Cu b∧¬Cu g)∧Row w' b 126 [.slice (some ⟨g,0,none⟩) size size]∧Row w' g 127 ((List.replicate size 0).map vw)∧W.heap.size≤b∧W.heap.size≤g):=fun W G' hs=>by
  refine(Oh (hs.below (AH (Below.refl _ _))) size (by rw[S7,Ca];exact hroom) (by omega)).mono ?_
  rintro e w' ⟨b,g,he,⟨Cu,h1,h2,h3,h4⟩,h5⟩
  rw[S7,Ca]at h1
  exact⟨b,g,he,⟨Cu,h1,⟨h2.os,h2.tape,h2.output,h2.size,h2.block⟩,h3,h4⟩,h5⟩
 have S9:Hid (∀W G',Sys W G' p F1 n→Calls Tryz.prog 44 #[.pointer (some ⟨p.d,0,none⟩)] W.drew fun e DG=>e=.returned (.int .i64 (size:Int))∧DG=W.drew):=fun W G' hs=>by
  have h1:=(hs.below (AH (Below.refl _ _))).Dd
  rw[S7]at h1
  rw[Ca];exact h1
 have bh:Hid (∀w6 w7 b g Cu,Sys w6 Cu p {F with S:=S1,A:=Bo F.A b F.D.size} n→AK G w w6→(∀k,Cu k→G k∨w.heap.size≤k)→¬Cu b→¬Cu g→Row w6 b 126 [.slice (some ⟨g,0,none⟩) size size]→Row w6 g 127 ((List.replicate size 0).map vw)→w.heap.size≤b→w.heap.size≤g→
   w7=w6.alloc (.cells #[.int .i64 k,.int .i64 (AE F.D.size k:Nat),.pointer (some ⟨p.w,0,none⟩),.int .i64 bn,.int .i64 0,.int .i64 a,.int .i64 (AA (AE F.D.size k) bn:Nat),.pointer (some ⟨b,0,none⟩)] 122)→
   gC w G p F n S1 ⟨k,AE F.D.size k,bn,a,AA (AE F.D.size k) bn,b,g,[]⟩ w6.heap.size w7):=by
  intro w6 w7 b g Cu k1 k2 k3 k4 k5 k6 k7 k8 k9 e7
  subst e7
  have hb:=(Below.refl w6.heap.size w6).alloc (Nat.le_refl _) (.cells #[.int .i64 k,.int .i64 (AE F.D.size k:Nat),.pointer (some ⟨p.w,0,none⟩),.int .i64 bn,.int .i64 0,.int .i64 a,.int .i64 (AA (AE F.D.size k) bn:Nat),.pointer (some ⟨b,0,none⟩)] 122)
  refine⟨k2.size,k8,k9,Cu,k1.below hb,⟨List.replicate size 0,⟨heap_alloc_new _ _,by have pq:=k6.below hb k6.lt;rw[Ca]at pq;exact pq,k7.below hb k7.lt,by rw[←Ca];simp,?_⟩,aQ _ _ _⟩,⟨fun hg=>by have:=k1.lt hg;omega,k4,k5⟩,k2.trans (AK.AJ hb fun _=>False) fun _ hf=>hf.elim,k3⟩
  intro y hy
  rw[List.mem_replicate]at hy;omega
 have g0:(((AE F.D.size (k:Int):Nat):Int)==0)=false:=by simpa using ML
 have g1:decide ((bn:Int)<0)=false:=by simp
 have g2:decide ((bn:Int)>100000000)=false:=by simp;omega
 have bX:Hid (∀w7 x b g,gC w G p F n S1 ⟨k,AE F.D.size k,bn,a,AA (AE F.D.size k) bn,b,g,[]⟩ x w7→Ql w G p F n S1 a k (AE F.D.size k) bn (AA (AE F.D.size k) bn) (.returned (.tuple #[.pointer (some ⟨x,0,none⟩),.int .i64 0])) w7):=fun w7 x b g h1=>⟨x,b,g,rfl,h1⟩
 clear S7 Ca QN h ML XR iU Ed hroom
 generalize Ql w G p F n S1 a k (AE F.D.size k) bn (AA (AE F.D.size k) bn)=EO at*
 generalize AA (AE F.D.size k) bn=nb at*
 generalize AE F.D.size k=hh at*
 go_enter Tryz.func37,Tryz.ntmps37
 go_wp2_with fail
 refine HS.out.mono ?_;rintro e w1 ⟨rfl,Aj⟩
 have AX:=Aj.alloc Aj.size (.cells #[.int .i64 k,.int .i64 hh] 113)
 have Ap:Row (w1.alloc (.cells #[.int .i64 k,.int .i64 hh] 113)) w1.heap.size 113 [.int .i64 k,.int .i64 hh]:=heap_alloc_new _ _
 have QT:=Aj.size
 clear Aj
 go_wp2_with fail
 refine(MA.out _).mono ?_;rintro e w3 ⟨rfl,A9⟩
 have Cm:=Ap.below A9 Ap.lt
 have NQ:=AX.trans (A9.mono AX.size)
 have Hq:=Lib.hid Cm
 have Bq:=Lib.hid NQ
 have OG:=Lib.hid QT
 clear AX Ap A9 Cm NQ QT
 go_wp2_with fail
 refine(Kg.out _ Bq.out).mono ?_;rintro e w4 ⟨rfl,h4,XI⟩
 have FZ:=XI _ _ _ Hq.out (Vs.out _ OG.out)
 obtain⟨G',k1,Sw,M9⟩:=h4
 have Lv:¬G' w1.heap.size:=fun hg=>(M9 _ hg).elim (Vs.out _ OG.out) fun h=>by have:=Hq.out.lt;omega
 have k2:AK G w w4:=(AK.AJ Bq.out G).trans Sw fun b hb=>.inl hb
 have k3:∀k,G' k→G k∨w.heap.size≤k:=fun k hk=>(M9 k hk).imp id fun h=>Nat.le_trans Bq.out.size h
 clear Sw M9
 have DS:=(Below.refl w4.heap.size w4).alloc (Nat.le_refl _) (.cells #[.int .i64 a,.int .i64 nb] 80)
 have GQ:=FZ.below DS FZ.lt
 have OO:Row (w4.alloc (.cells #[.int .i64 a,.int .i64 nb] 80)) w4.heap.size 80 [.int .i64 a,.int .i64 nb]:=heap_alloc_new _ _
 have k5:=k1.below DS
 have Ty:=k2.size
 go_wp2
 have HE5:=Lib.hid OO
 have Cc:=Lib.hid GQ
 have BW:=Lib.hid DS
 generalize w4.alloc (.cells #[.int .i64 a,.int .i64 nb] 80)=w5 at*
 have Q1:=Lib.hid (Ul.out w5 G' k5)
 have Q2:=Lib.hid (S9.out w5 G' k5)
 have nZ:Hid (AK G w w5):=k2.trans (AK.AJ DS fun _=>False) fun _ hf=>hf.elim
 have sy:=Lib.hid k3
 have c0:w5.drew.cell? ⟨p.w,0,none⟩=some (.pointer (some ⟨p.d,0,none⟩)):=k5.row.cell 0
 have c1:w5.drew.cell? ⟨p.w,1,none⟩=some (.pointer (some ⟨p.a,0,none⟩)):=k5.row.cell 1
 have Ct:Hid (∀W Cu F2,Sys W Cu p F2 n→W.cell? ⟨p.w,0,none⟩=some (.pointer (some ⟨p.d,0,none⟩))∧W.cell? ⟨p.w,1,none⟩=some (.pointer (some ⟨p.a,0,none⟩))):=fun W Cu F2 hs=>⟨hs.row.cell 0,hs.row.cell 1⟩
 have cn:Hid (¬G' w4.heap.size):=fun hg=>by have:=k1.lt hg;omega
 have HSB:=Lib.hid Lv
 clear k1 k2 k3 k5 DS GQ OO FZ XI MA Kg HS Ul S9 Hq Bq Lv
 go_region_held3 (fun w'=>w'.cell? ⟨p.w,0,none⟩=some (.pointer (some ⟨p.d,0,none⟩))∧w'.cell? ⟨p.w,1,none⟩=some (.pointer (some ⟨p.a,0,none⟩))) (first|with_reducible exact⟨c0,c1⟩|with_reducible exact d1)
  (first
   |(go_at_call 44;(with_reducible refine Q2.out.mono ?_);rintro e w8 ⟨rfl,rfl⟩)
   |(go_at_call 63;(with_reducible refine Q1.out.mono ?_);rintro e w6 ⟨b,g,rfl,⟨G6,k1,k2,k3,k4,k5⟩,k6,k7,k8,k9⟩;have d1:=Ct.out _ _ _ k1))
 have Sz:=k2.row HE5.out cn.out
 have SD:=k2.row Cc.out HSB.out
 have e0:w6.cell? ⟨w4.heap.size,0,none⟩=some (.int .i64 a):=Sz.cell 0
 have e1:w6.cell? ⟨w4.heap.size,1,none⟩=some (.int .i64 nb):=Sz.cell 1
 have e2:w6.cell? ⟨w1.heap.size,0,none⟩=some (.int .i64 k):=SD.cell 0
 have e3:w6.cell? ⟨w1.heap.size,1,none⟩=some (.int .i64 hh):=SD.cell 1
 have HN:=Lib.hid (bh.out w6 _ b g G6 k1 (nZ.out.trans k2 sy.out) (fun k hk=>(k3 k hk).elim (fun h=>sy.out k h) fun h=>.inr (Nat.le_trans nZ.out.size h)) k4 k5 k6 k7 (Nat.le_trans nZ.out.size k8) (Nat.le_trans nZ.out.size k9) rfl)
 clear k1 k2 k3 k4 k5 k6 k7 k8 k9 Sz SD Q1 Q2 bh HE5 Cc BW nZ sy Ct cn HSB d1 c0 c1
 go_wp2
 exact bX.out _ _ b g HN.out
def Vk(w:World)(G:Nat→Prop)(p:Wp)(F:Fs)(n:Nat)(width bound:Int)(e:Ending)(w':World):Prop:=
 (∃er,e=.returned (.tuple #[.pointer none,.int .i64 er])∧mo F width bound er∧AQ w G p F n w')∨
 (∃x t S',e=.returned (.tuple #[.pointer (some ⟨x,0,none⟩),.int .i64 0])∧FX F width bound∧F.D.size≤F.A.room-F.A.used∧(t.k:Int)=width∧(t.bound:Int)=bound∧t.h=AE F.D.size width∧t.l=[]∧t.blocks=AA t.h t.bound∧Gq F.S S' t.first t.blocks∧B8 t F.D.size∧gC w G p F n S' t x w')
theorem NU{w:World}{G:Nat→Prop}{p:Wp}{F:Fs}{n:Nat}(h:Sys w G p F n)(width bound:Int):Calls Tryz.prog 37 #[.pointer (some ⟨p.w,0,none⟩),.int .i64 width,.int .i64 bound] w (Vk w G p F n width bound):=by
 by_cases ha:FX F width bound
 ·obtain⟨ML,XR,mD⟩:=id ha
  obtain⟨k,hk,VO,fG,iU⟩:=Gh ML
  have hsz:=h.size
  have qK:=h.U1
  have Ed:AE F.D.size width≤254:=Nat.le_trans (Dm _ _) (by omega)
  rcases TS h.U1 (AA (AE F.D.size width) bound.toNat)with⟨S1,a,e,ht,hg,oV⟩|⟨e,hm,hno⟩
  ·by_cases hr:F.D.size≤F.A.room-F.A.used
   ·refine(XT h width bound ha S1 a e hr).mono ?_
    rintro e w' ⟨x,b,g,he,hN⟩
    refine .inr ⟨x,⟨width.toNat,AE F.D.size width,bound.toNat,a,AA (AE F.D.size width) bound.toNat,b,g,[]⟩,S1,he,ha,hr,?_,?_,rfl,rfl,rfl,ht,⟨⟨?_,?_⟩,⟨by show 0<AE F.D.size width;omega,?_,Ed⟩,hsz,⟨?_,Nat.zero_le _⟩,⟨rfl,by show AA (AE F.D.size width) bound.toNat≤2000000;omega⟩,by show a≤2000000;omega⟩,hN⟩
    ·show ((width.toNat:Nat):Int)=width;omega
    ·show ((bound.toNat:Nat):Int)=bound;omega
    ·show 0<width.toNat;omega
    ·show width.toNat≤5;omega
    ·show AE F.D.size width*width.toNat≤F.D.size-2
     rw[hk]at iU⊢;rw[Int.toNat_natCast];exact iU
    ·show bound.toNat≤100000000;omega
   ·exact(SS h width bound ha S1 a e hg (by omega) (by omega)).mono fun e w' ⟨he,h1⟩=>.inl ⟨7,he,.inr (.inl ⟨rfl,ha,by omega⟩),h1⟩
  ·refine(SU h width bound ha e (decide (F.A.room-F.A.used<F.D.size)) rfl).mono ?_
   rintro e w' ⟨he,h1⟩
   by_cases hr:F.A.room-F.A.used<F.D.size
   ·rw[decide_eq_true hr,if_pos rfl]at he
    exact .inl ⟨7,he,.inr (.inl ⟨rfl,ha,hr⟩),h1⟩
   ·rw[decide_eq_false hr,if_neg (by decide)]at he
    exact .inl ⟨5,he,.inr (.inr ⟨rfl,ha,by omega,hm,hno⟩),h1⟩
 ·exact(UL h width bound ha).mono fun e w' ⟨he,hb⟩=>.inl ⟨1,he,.inl ⟨rfl,ha⟩,AQ.AJ h hb⟩
structure Rt where
 k:Nat
 h:Nat
 first:Nat
 blocks:Nat
 count:Nat
 pos:Nat
 b:Nat
 g:Nat
def Sv(p:Wp)(r:Rt):List Value:=[.int .i64 r.k,.int .i64 r.h,.pointer (some ⟨p.w,0,none⟩),.int .i64 r.first,.int .i64 r.blocks,.int .i64 r.k,.int .i64 r.count,.int .i64 r.pos,.pointer (some ⟨r.b,0,none⟩)]
structure Fc (r:Rt) (sz:Nat):Prop where
 k:0<r.k∧r.k≤5
 h:0<r.h∧r.h*r.k≤sz-2∧r.h≤254
 sz:8≤sz∧sz≤256
 count:r.count≤100000000∧r.pos≤r.count
 first:r.first≤2000000
structure DA (w:World) (x:Nat) (p:Wp) (r:Rt) (sz:Nat) (ws:List Nat):Prop where
 row:Row w x 140 (Sv p r)
 buf:Row w r.b 126 [.slice (some ⟨r.g,0,none⟩) sz sz]
 words:Row w r.g 127 (ws.map vw)
 len:ws.length=sz
 u64:I6 ws
structure Jo (G:Nat→Prop) (x:Nat) (r:Rt):Prop where
 x:¬G x
 b:¬G r.b
 g:¬G r.g
def Pb(w:World)(x:Nat)(p:Wp)(r:Rt):Prop:=Row w x 140 (Sv p r)∧Row w r.b 126 [.slice none 0 0]
section
variable {w w' : World} {x : Nat} {p : Wp} {r : Rt} {sz : Nat} {ws : List Nat}
theorem DA.CU{R:Nat→Prop}(h:DA w x p r sz ws)(hf:AK R w w')(h1:¬R x)(h2:¬R r.b)(h3:¬R r.g):DA w' x p r sz ws:=⟨hf.row h.row h1,hf.row h.buf h2,hf.row h.words h3,h.len,h.u64⟩
theorem DA.below(h:DA w x p r sz ws)(hb:Below w.heap.size w w'):DA w' x p r sz ws:=h.CU (AK.AJ hb fun _=>False) (fun h=>h) (fun h=>h) (fun h=>h)
theorem DA.lt(h:DA w x p r sz ws):x<w.heap.size∧r.b<w.heap.size∧r.g<w.heap.size:=⟨h.row.lt,h.buf.lt,h.words.lt⟩
theorem DA.apart(h:DA w x p r sz ws):x≠r.b∧x≠r.g∧r.b≠r.g:=
 ⟨fun e=>absurd (h.row.typed (e▸h.buf)) (by decide),fun e=>absurd (h.row.typed (e▸h.words)) (by decide),fun e=>absurd (h.buf.typed (e▸h.words)) (by decide)⟩
end
section
variable {w : World} {x : Nat} {p : Wp} {r : Rt}
theorem CD{A:Option Addr}{m c:Nat}(hr:Row w x 140 (Sv p r))(hb:Row w r.b 126 [.slice A m c]):Calls Tryz.prog 79 #[.pointer (some ⟨x,0,none⟩)] w fun e w'=>e=.returned (.bool (!decide (0<m)))∧w'=w:=by
 have c7:w.cell? ⟨x,8,none⟩=some (.pointer (some ⟨r.b,0,none⟩)):=hr.cell 8
 have HS:=Lib.hid (RP hb)
 clear hb hr
 go_enter Tryz.func79,Tryz.ntmps79
 go_wp2_with fail
 refine HS.out.mono ?_;rintro e w1 ⟨rfl,rfl⟩
 go_wp2
 go_ret
 exact⟨Di (by simp),rfl⟩
end
def Sm(w:World)(G:Nat→Prop)(x:Nat)(p:Wp)(F:Fs)(n:Nat)(r:Rt)(w':World):Prop:=
 ∃G',Sys w' G' p {F with A:=release F.A r.b F.D.size} n∧Pb w' x p r∧AK (fun k=>G k∨k=r.b) w w'∧∀k,G' k→G k∨w.heap.size≤k
theorem Ms{w:World}{G:Nat→Prop}{p:Wp}{F:Fs}{n x:Nat}{r:Rt}{ws:List Nat}(h:Sys w G p F n)(hm:DA w x p r F.D.size ws)(ho:Jo G x r)(hst:wordsAt F.A.st r.b=some F.D.size):
  Calls Tryz.prog 51 #[.pointer (some ⟨x,0,none⟩)] w fun e w'=>(e=.returned (.tuple #[])∧Sm w G x p F n r w'):=by
 have hsz:=h.size
 have hc:=CD hm.row hm.buf
 rw[decide_eq_true (show 0<F.D.size by omega)]at hc
 have HC:=Lib.hid hc
 have OB:=AH (Below.refl w.heap.size w)
 obtain⟨Jt,Sy,Qz⟩:=hm.apart
 have ou:Hid (Calls Tryz.prog 80 #[.pointer (some ⟨p.a,0,none⟩),.pointer (some ⟨r.b,0,none⟩)] w.drew fun e w'=>e=.returned (.bool true)∧Sm w G x p F n r w'):=by
  refine(IJ (h.below OB) hst).mono ?_
  rintro e w' ⟨he,h2⟩
  obtain⟨G',k1,k2,k3,k4⟩:=h2.behind OB
  refine⟨he,G',k1,⟨k2.row hm.row ?_,k4⟩,k2,k3⟩
  rintro(h5|h5)
  ·exact ho.x h5
  ·exact Jt h5
 have c2:w.drew.cell? ⟨x,2,none⟩=some (.pointer (some ⟨p.w,0,none⟩)):=hm.row.cell 2
 have c8:w.drew.cell? ⟨x,8,none⟩=some (.pointer (some ⟨r.b,0,none⟩)):=hm.row.cell 8
 have cp:w.drew.cell? ⟨p.w,1,none⟩=some (.pointer (some ⟨p.a,0,none⟩)):=h.row.cell 1
 have Nw:Hid (∀w',Sm w G x p F n r w'→w'.cell? ⟨x,2,none⟩=some (.pointer (some ⟨p.w,0,none⟩))∧w'.cell? ⟨x,8,none⟩=some (.pointer (some ⟨r.b,0,none⟩))∧w'.cell? ⟨p.w,1,none⟩=some (.pointer (some ⟨p.a,0,none⟩))):=fun w' ⟨G',k1,k2,_⟩=>⟨k2.1.cell 2,k2.1.cell 8,k1.row.cell 1⟩
 generalize Sm w G x p F n r=EO at*
 generalize r.b=b at*
 clear hc h hm ho hst hsz OB Jt Sy Qz
 go_enter Tryz.func51,Tryz.ntmps51
 go_wp2_with fail
 refine HC.out.mono ?_;rintro e w1 ⟨rfl,rfl⟩
 go_wp2
 go_region_held3 (fun w'=>w'.cell? ⟨x,2,none⟩=some (.pointer (some ⟨p.w,0,none⟩))∧w'.cell? ⟨x,8,none⟩=some (.pointer (some ⟨b,0,none⟩))∧w'.cell? ⟨p.w,1,none⟩=some (.pointer (some ⟨p.a,0,none⟩))) (first|with_reducible exact⟨c2,c8,cp⟩|with_reducible exact q2)
  (first
   |(go_at_call 80;(with_reducible refine ou.out.mono ?_);rintro e w2 ⟨rfl,h2⟩;have q2:=Nw.out w2 h2))
 have H2:=Lib.hid h2
 clear h2 q2
 go_wp2
 go_end0
 exact⟨rfl,H2.out⟩
theorem Ls{w:World}{p:Wp}{x:Nat}{r:Rt}(hs:Pb w x p r):
  Calls Tryz.prog 51 #[.pointer (some ⟨x,0,none⟩)] w fun e w'=>(e=.returned (.tuple #[])∧w'=w):=by
 have hc:=CD hs.1 hs.2
 rw[decide_eq_false (Nat.lt_irrefl 0)]at hc
 have HC:=Lib.hid hc
 clear hc hs
 go_enter Tryz.func51,Tryz.ntmps51
 go_wp2_with fail
 refine HC.out.mono ?_;rintro e w1 ⟨rfl,rfl⟩
 go_wp2
 go_end0
 exact⟨rfl,rfl⟩
theorem Tk(u:FrameMode){w:World}{G:Nat→Prop}{p:Wp}{F:Fs}{n x:Nat}{r:Rt}{ws:List Nat}(h:Sys w G p F n)(hm:DA w x p r F.D.size ws)(ho:Jo G x r)(hst:wordsAt F.A.st r.b=some F.D.size):
  CallsD Tryz.prog 51 #[.pointer (some ⟨x,0,none⟩)] u w fun e u' w'=>u'=u∧(e=.returned (.tuple #[])∧Sm w G x p F n r w'):=by
 have hsz:=h.size
 have hc:=CD hm.row hm.buf
 rw[decide_eq_true (show 0<F.D.size by omega)]at hc
 have HC:=Lib.hid hc
 have OB:=AH (Below.refl w.heap.size w)
 obtain⟨Jt,Sy,Qz⟩:=hm.apart
 have ou:Hid (Calls Tryz.prog 80 #[.pointer (some ⟨p.a,0,none⟩),.pointer (some ⟨r.b,0,none⟩)] w.drew fun e w'=>e=.returned (.bool true)∧Sm w G x p F n r w'):=by
  refine(IJ (h.below OB) hst).mono ?_
  rintro e w' ⟨he,h2⟩
  obtain⟨G',k1,k2,k3,k4⟩:=h2.behind OB
  refine⟨he,G',k1,⟨k2.row hm.row ?_,k4⟩,k2,k3⟩
  rintro(h5|h5)
  ·exact ho.x h5
  ·exact Jt h5
 have c2:w.drew.cell? ⟨x,2,none⟩=some (.pointer (some ⟨p.w,0,none⟩)):=hm.row.cell 2
 have c8:w.drew.cell? ⟨x,8,none⟩=some (.pointer (some ⟨r.b,0,none⟩)):=hm.row.cell 8
 have cp:w.drew.cell? ⟨p.w,1,none⟩=some (.pointer (some ⟨p.a,0,none⟩)):=h.row.cell 1
 have Nw:Hid (∀w',Sm w G x p F n r w'→w'.cell? ⟨x,2,none⟩=some (.pointer (some ⟨p.w,0,none⟩))∧w'.cell? ⟨x,8,none⟩=some (.pointer (some ⟨r.b,0,none⟩))∧w'.cell? ⟨p.w,1,none⟩=some (.pointer (some ⟨p.a,0,none⟩))):=fun w' ⟨G',k1,k2,_⟩=>⟨k2.1.cell 2,k2.1.cell 8,k1.row.cell 1⟩
 generalize Sm w G x p F n r=EO at*
 generalize r.b=b at*
 clear hc h hm ho hst hsz OB Jt Sy Qz
 go_enter_d Tryz.func51,Tryz.ntmps51
 go_wp2_with fail
 refine HC.out.mono ?_;rintro e w1 ⟨rfl,rfl⟩
 go_wp2
 go_region_held3 (fun w'=>w'.cell? ⟨x,2,none⟩=some (.pointer (some ⟨p.w,0,none⟩))∧w'.cell? ⟨x,8,none⟩=some (.pointer (some ⟨b,0,none⟩))∧w'.cell? ⟨p.w,1,none⟩=some (.pointer (some ⟨p.a,0,none⟩))) (first|with_reducible exact⟨c2,c8,cp⟩|with_reducible exact q2)
  (first
   |(go_at_call 80;(with_reducible refine ou.out.mono ?_);rintro e w2 ⟨rfl,h2⟩;have q2:=Nw.out w2 h2))
 have H2:=Lib.hid h2
 clear h2 q2
 go_wp2
 go_end0
 exact⟨rfl,H2.out⟩
theorem Lr(u:FrameMode){w:World}{p:Wp}{x:Nat}{r:Rt}(hs:Pb w x p r):
  CallsD Tryz.prog 51 #[.pointer (some ⟨x,0,none⟩)] u w fun e u' w'=>u'=u∧(e=.returned (.tuple #[])∧w'=w):=by
 have hc:=CD hs.1 hs.2
 rw[decide_eq_false (Nat.lt_irrefl 0)]at hc
 have HC:=Lib.hid hc
 clear hc hs
 go_enter_d Tryz.func51,Tryz.ntmps51
 go_wp2_with fail
 refine HC.out.mono ?_;rintro e w1 ⟨rfl,rfl⟩
 go_wp2
 go_end0
 exact⟨rfl,rfl⟩
theorem UN{w:World}{G:Nat→Prop}{p:Wp}{F:Fs}{n:Nat}(h:Sys w G p F n)(k hh first nb count:Nat)(JG:hh=AE F.D.size k)(DO:0<hh)(Hz:nb=AA hh count)(FM:count≤100000000)(hroom:F.A.room-F.A.used<F.D.size):Calls Tryz.prog 50 #[.pointer (some ⟨p.w,0,none⟩),.agg #[.int .i64 first,.int .i64 nb,.int .i64 k,.int .i64 count]] w fun e w'=>e=.returned (.tuple #[.pointer none,.int .i64 7])∧Below w.heap.size w w':=by
 have hsz:=h.size
 have Ed:hh≤254:=by rw[JG];exact Nat.le_trans (Dm _ _) (by omega)
 have hb0:=(Below.refl w.heap.size w).alloc (Nat.le_refl _) (.cells #[.int .i64 first,.int .i64 nb,.int .i64 k,.int .i64 count] 39)
 have Cz:Row (w.alloc (.cells #[.int .i64 first,.int .i64 nb,.int .i64 k,.int .i64 count] 39)) w.heap.size 39 [.int .i64 first,.int .i64 nb,.int .i64 k,.int .i64 count]:=heap_alloc_new _ _
 have T2:=E1 (h.below hb0) k
 rw[←JG]at T2
 have HS:=Lib.hid T2
 have MA:Hid (∀W,Calls Tryz.prog 62 #[.agg #[.int .i64 k,.int .i64 hh],.int .i64 count] W fun e w'=>e=.returned (.int .i64 nb)∧Below W.heap.size W w'):=fun W=>by
  rw[Hz];exact FV k hh count W DO Ed FM
 have Qq:Hid (∀W,Below w.heap.size w W→Sys W G p F n):=fun W hb=>h.below hb
 have GO:=Lib.hid hb0
 have Gy:=Lib.hid Cz
 obtain⟨size,Ca⟩:∃size,size=F.D.size:=⟨_,rfl⟩
 have g0:((hh:Int)==0)=false:=by simp;omega
 have g1:decide ((count:Int)<0)=false:=by simp
 have su:Hid (∀W,Sys W G p F n→∀q,Calls Tryz.prog 63 #[.pointer (some ⟨p.a,0,none⟩),.int .i64 size] (W.drewN q) fun e DG=>e=.returned (.tuple #[.pointer none,.int .i64 7])∧∃k,DG=W.drewN k):=fun W hs q=>by
  rw[Ca];exact Calls.quiet_of_same ((J0 (hs.below (AG (Below.refl _ _) q)) F.D.size hroom).mono fun _ _ h=>h)
 have S9:Hid (∀W,Sys W G p F n→∀q,Calls Tryz.prog 44 #[.pointer (some ⟨p.d,0,none⟩)] (W.drewN q) fun e DG=>e=.returned (.int .i64 (size:Int))∧∃k,DG=W.drewN k):=fun W hs q=>by
  rw[Ca];exact Calls.quiet_of_same ((hs.below (AG (Below.refl _ _) q)).Dd.mono fun _ _ h=>h)
 clear Ca hroom h T2 hb0 Cz JG Hz hsz
 go_enter Tryz.func50,Tryz.ntmps50
 go_wp2_with fail
 refine HS.out.mono ?_;rintro e w1 ⟨rfl,Aj⟩
 have AX:=Aj.alloc Aj.size (.cells #[.int .i64 k,.int .i64 hh] 113)
 have iJ:Row (w1.alloc (.cells #[.int .i64 k,.int .i64 hh] 113)) w1.heap.size 113 [.int .i64 k,.int .i64 hh]:=heap_alloc_new _ _
 have NG:=Gy.out.below AX Gy.out.lt
 have Cd:=Lib.hid (GO.out.trans (AX.mono GO.out.size))
 have OG:Hid (w.heap.size≤w1.heap.size):=Nat.le_trans GO.out.size Aj.size
 clear Aj AX GO Gy HS
 have Xr:=Lib.hid iJ
 have Eh:=Lib.hid NG
 clear iJ NG
 have k0:∀d os,(Sort.grow (redrawn (w1.alloc (.cells #[.int .i64 k,.int .i64 hh] 113)) d) os).cell? ⟨w1.heap.size,0,none⟩=some (.int .i64 k):=cell_regrown (Xr.out.cell 0)
 have k1:∀d os,(Sort.grow (redrawn (w1.alloc (.cells #[.int .i64 k,.int .i64 hh] 113)) d) os).cell? ⟨w1.heap.size,1,none⟩=some (.int .i64 hh):=cell_regrown (Xr.out.cell 1)
 have k2:∀d os,(Sort.grow (redrawn (w1.alloc (.cells #[.int .i64 k,.int .i64 hh] 113)) d) os).cell? ⟨w.heap.size,1,none⟩=some (.int .i64 nb):=cell_regrown (Eh.out.cell 1)
 have k3:∀d os,(Sort.grow (redrawn (w1.alloc (.cells #[.int .i64 k,.int .i64 hh] 113)) d) os).cell? ⟨w.heap.size,3,none⟩=some (.int .i64 count):=cell_regrown (Eh.out.cell 3)
 have Q1:Hid (∀d os,Calls Tryz.prog 62 #[.agg #[.int .i64 k,.int .i64 hh],.int .i64 count] (Sort.grow (redrawn (w1.alloc (.cells #[.int .i64 k,.int .i64 hh] 113)) d) os) fun e DG=>e=.returned (.int .i64 nb)∧∃p:Regrown,DG=Sort.grow (redrawn (w1.alloc (.cells #[.int .i64 k,.int .i64 hh] 113)) p.d) p.os):=fun d os=>Calls.regrown_of (MA.out _)
 go_wp2
 refine wp_region_quiet_below (by kernel_rfl) (by kernel_rfl) ?_
 repeat(any_goals(first|go_big_quiet_step (with_reducible exact Q1.out _ _)|quiet_step (with_reducible exact Q1.out _ _)))
 refine wpQuiet_nil ?_
 intro w5 EU
 obtain⟨⟨dq,osq⟩,EU⟩:=EU
 have Bm:=below_regrown (w1.alloc (.cells #[.int .i64 k,.int .i64 hh] 113)) dq osq
 rw[←EU]at Bm
 clear EU
 have BW:=Lib.hid (Cd.out.trans (Bm.mono Cd.out.size))
 have nG:=Lib.hid (Xr.out.below Bm Xr.out.lt)
 have nI:=Lib.hid (Eh.out.below Bm Eh.out.lt)
 have k5:=Qq.out w5 BW.out
 clear Bm Q1 k0 k1 k2 k3 Xr Eh Cd MA
 have Q1:=Lib.hid (su.out w5 k5)
 have Q2:=Lib.hid (S9.out w5 k5)
 have c0:w5.cell? ⟨p.w,0,none⟩=some (.pointer (some ⟨p.d,0,none⟩)):=k5.row.cell 0
 have c1:w5.cell? ⟨p.w,1,none⟩=some (.pointer (some ⟨p.a,0,none⟩)):=k5.row.cell 1
 clear k5 su S9 Qq
 go_wp2
 go_quiet ((with_reducible first|exact Q1.out _|exact Q2.out _))
 go_wp2
 go_ret2
 exact⟨rfl,AG BW.out _⟩
def mz(w:World)(G:Nat→Prop)(p:Wp)(F:Fs)(n:Nat)(r:Rt)(x:Nat)(w':World):Prop:=
 w.heap.size≤x∧w.heap.size≤r.b∧w.heap.size≤r.g∧∃G',Sys w' G' p {F with A:=Bo F.A r.b F.D.size} n∧(∃ws,DA w' x p r F.D.size ws)∧Jo G' x r∧AK G w w'∧∀k,G' k→G k∨w.heap.size≤k
def Ug(w:World)(G:Nat→Prop)(p:Wp)(F:Fs)(n:Nat)(k h first nb count:Nat)(e:Ending)(w':World):Prop:=
 ∃x b g,e=.returned (.tuple #[.pointer (some ⟨x,0,none⟩),.int .i64 0])∧mz w G p F n ⟨k,h,first,nb,count,0,b,g⟩ x w'
theorem af{w:World}{G:Nat→Prop}{p:Wp}{F:Fs}{n:Nat}(h:Sys w G p F n)(k hh first nb count:Nat)(JG:hh=AE F.D.size k)(DO:0<hh)(Hz:nb=AA hh count)(FM:count≤100000000)(hroom:F.D.size≤F.A.room-F.A.used):Calls Tryz.prog 50 #[.pointer (some ⟨p.w,0,none⟩),.agg #[.int .i64 first,.int .i64 nb,.int .i64 k,.int .i64 count]] w (Ug w G p F n k hh first nb count):=by
 have hsz:=h.size
 have Ed:hh≤254:=by rw[JG];exact Nat.le_trans (Dm _ _) (by omega)
 have hb0:=(Below.refl w.heap.size w).alloc (Nat.le_refl _) (.cells #[.int .i64 first,.int .i64 nb,.int .i64 k,.int .i64 count] 39)
 have Cz:Row (w.alloc (.cells #[.int .i64 first,.int .i64 nb,.int .i64 k,.int .i64 count] 39)) w.heap.size 39 [.int .i64 first,.int .i64 nb,.int .i64 k,.int .i64 count]:=heap_alloc_new _ _
 have T2:=E1 (h.below hb0) k
 rw[←JG]at T2
 have HS:=Lib.hid T2
 have MA:Hid (∀W,Calls Tryz.prog 62 #[.agg #[.int .i64 k,.int .i64 hh],.int .i64 count] W fun e w'=>e=.returned (.int .i64 nb)∧Below W.heap.size W w'):=fun W=>by
  rw[Hz];exact FV k hh count W DO Ed FM
 have Qq:Hid (∀W,Below w.heap.size w W→Sys W G p F n):=fun W hb=>h.below hb
 have GO:=Lib.hid hb0
 have Gy:=Lib.hid Cz
 obtain⟨size,Ca⟩:∃size,size=F.D.size:=⟨_,rfl⟩
 have g0:((hh:Int)==0)=false:=by simp;omega
 have g1:decide ((count:Int)<0)=false:=by simp
 have Ul:Hid (∀W,Sys W G p F n→Calls Tryz.prog 63 #[.pointer (some ⟨p.a,0,none⟩),.int .i64 size] W.drew fun e w'=>∃b g,e=.returned (.tuple #[.pointer (some ⟨b,0,none⟩),.int .i64 0])∧
   (∃Cu,Sys w' Cu p {F with A:=Bo F.A b F.D.size} n∧AK G W w'∧(∀k,Cu k→G k∨W.heap.size≤k)∧¬Cu b∧¬Cu g)∧Row w' b 126 [.slice (some ⟨g,0,none⟩) size size]∧Row w' g 127 ((List.replicate size 0).map vw)∧W.heap.size≤b∧W.heap.size≤g):=fun W hs=>by
  refine(Oh (hs.below (AH (Below.refl _ _))) size (by rw[Ca];exact hroom) (by omega)).mono ?_
  rintro e w' ⟨b,g,he,⟨Cu,h1,h2,h3,h4⟩,h5⟩
  rw[Ca]at h1
  exact⟨b,g,he,⟨Cu,h1,⟨h2.os,h2.tape,h2.output,h2.size,h2.block⟩,h3,h4⟩,h5⟩
 have S9:Hid (∀W,Sys W G p F n→Calls Tryz.prog 44 #[.pointer (some ⟨p.d,0,none⟩)] W.drew fun e DG=>e=.returned (.int .i64 (size:Int))∧DG=W.drew):=fun W hs=>by
  rw[Ca];exact(hs.below (AH (Below.refl _ _))).Dd
 have Vs:Hid (∀k,w.heap.size≤k→¬G k):=fun k hk hg=>by have:=h.lt hg;omega
 have bh:Hid (∀w6 w7 b g Cu,Sys w6 Cu p {F with A:=Bo F.A b F.D.size} n→AK G w w6→(∀k,Cu k→G k∨w.heap.size≤k)→¬Cu b→¬Cu g→Row w6 b 126 [.slice (some ⟨g,0,none⟩) size size]→Row w6 g 127 ((List.replicate size 0).map vw)→w.heap.size≤b→w.heap.size≤g→
   w7=w6.alloc (.cells #[.int .i64 k,.int .i64 hh,.pointer (some ⟨p.w,0,none⟩),.int .i64 first,.int .i64 nb,.int .i64 k,.int .i64 count,.int .i64 0,.pointer (some ⟨b,0,none⟩)] 140)→
   mz w G p F n ⟨k,hh,first,nb,count,0,b,g⟩ w6.heap.size w7):=by
  intro w6 w7 b g Cu k1 k2 k3 k4 k5 k6 k7 k8 k9 e7
  subst e7
  have hb:=(Below.refl w6.heap.size w6).alloc (Nat.le_refl _) (.cells #[.int .i64 k,.int .i64 hh,.pointer (some ⟨p.w,0,none⟩),.int .i64 first,.int .i64 nb,.int .i64 k,.int .i64 count,.int .i64 0,.pointer (some ⟨b,0,none⟩)] 140)
  have pq:=k6.below hb k6.lt
  rw[Ca]at pq
  refine⟨k2.size,k8,k9,Cu,k1.below hb,⟨List.replicate size 0,⟨heap_alloc_new _ _,pq,k7.below hb k7.lt,by rw[←Ca];simp,?_⟩⟩,⟨fun hg=>by have:=k1.lt hg;omega,k4,k5⟩,k2.trans (AK.AJ hb fun _=>False) fun _ hf=>hf.elim,k3⟩
  intro y hy
  rw[List.mem_replicate]at hy;omega
 have bX:Hid (∀w7 x b g,mz w G p F n ⟨k,hh,first,nb,count,0,b,g⟩ x w7→Ug w G p F n k hh first nb count (.returned (.tuple #[.pointer (some ⟨x,0,none⟩),.int .i64 0])) w7):=fun w7 x b g h1=>⟨x,b,g,rfl,h1⟩
 have Ct:Hid (∀W Cu F2,Sys W Cu p F2 n→W.cell? ⟨p.w,0,none⟩=some (.pointer (some ⟨p.d,0,none⟩))∧W.cell? ⟨p.w,1,none⟩=some (.pointer (some ⟨p.a,0,none⟩))):=fun W Cu F2 hs=>⟨hs.row.cell 0,hs.row.cell 1⟩
 clear Ca hroom h T2 hb0 Cz JG Hz hsz
 generalize Ug w G p F n k hh first nb count=EO at*
 go_enter Tryz.func50,Tryz.ntmps50
 go_wp2_with fail
 refine HS.out.mono ?_;rintro e w1 ⟨rfl,Aj⟩
 have AX:=Aj.alloc Aj.size (.cells #[.int .i64 k,.int .i64 hh] 113)
 have iJ:Row (w1.alloc (.cells #[.int .i64 k,.int .i64 hh] 113)) w1.heap.size 113 [.int .i64 k,.int .i64 hh]:=heap_alloc_new _ _
 have NG:=Gy.out.below AX Gy.out.lt
 have Cd:=Lib.hid (GO.out.trans (AX.mono GO.out.size))
 have OG:Hid (w.heap.size≤w1.heap.size):=Nat.le_trans GO.out.size Aj.size
 clear Aj AX GO Gy HS
 have Xr:=Lib.hid iJ
 have Eh:=Lib.hid NG
 clear iJ NG
 have k0:∀d os,(Sort.grow (redrawn (w1.alloc (.cells #[.int .i64 k,.int .i64 hh] 113)) d) os).cell? ⟨w1.heap.size,0,none⟩=some (.int .i64 k):=cell_regrown (Xr.out.cell 0)
 have k1:∀d os,(Sort.grow (redrawn (w1.alloc (.cells #[.int .i64 k,.int .i64 hh] 113)) d) os).cell? ⟨w1.heap.size,1,none⟩=some (.int .i64 hh):=cell_regrown (Xr.out.cell 1)
 have k2:∀d os,(Sort.grow (redrawn (w1.alloc (.cells #[.int .i64 k,.int .i64 hh] 113)) d) os).cell? ⟨w.heap.size,1,none⟩=some (.int .i64 nb):=cell_regrown (Eh.out.cell 1)
 have k3:∀d os,(Sort.grow (redrawn (w1.alloc (.cells #[.int .i64 k,.int .i64 hh] 113)) d) os).cell? ⟨w.heap.size,3,none⟩=some (.int .i64 count):=cell_regrown (Eh.out.cell 3)
 have Q1:Hid (∀d os,Calls Tryz.prog 62 #[.agg #[.int .i64 k,.int .i64 hh],.int .i64 count] (Sort.grow (redrawn (w1.alloc (.cells #[.int .i64 k,.int .i64 hh] 113)) d) os) fun e DG=>e=.returned (.int .i64 nb)∧∃p:Regrown,DG=Sort.grow (redrawn (w1.alloc (.cells #[.int .i64 k,.int .i64 hh] 113)) p.d) p.os):=fun d os=>Calls.regrown_of (MA.out _)
 go_wp2
 refine wp_region_quiet_below (by kernel_rfl) (by kernel_rfl) ?_
 repeat(any_goals(first|go_big_quiet_step (with_reducible exact Q1.out _ _)|quiet_step (with_reducible exact Q1.out _ _)))
 refine wpQuiet_nil ?_
 intro w5 EU
 obtain⟨⟨dq,osq⟩,EU⟩:=EU
 have Bm:=below_regrown (w1.alloc (.cells #[.int .i64 k,.int .i64 hh] 113)) dq osq
 rw[←EU]at Bm
 clear EU
 have BW:=Lib.hid (Cd.out.trans (Bm.mono Cd.out.size))
 have nG:=Lib.hid (Xr.out.below Bm Xr.out.lt)
 have nI:=Lib.hid (Eh.out.below Bm Eh.out.lt)
 have k5:=Qq.out w5 BW.out
 clear Bm Q1 k0 k1 k2 k3 Xr Eh Cd MA
 have Q1:=Lib.hid (Ul.out w5 k5)
 have Q2:=Lib.hid (S9.out w5 k5)
 have c0:w5.drew.cell? ⟨p.w,0,none⟩=some (.pointer (some ⟨p.d,0,none⟩)):=k5.row.cell 0
 have c1:w5.drew.cell? ⟨p.w,1,none⟩=some (.pointer (some ⟨p.a,0,none⟩)):=k5.row.cell 1
 clear k5 Ul S9 Qq
 go_wp2
 go_region_held3 (fun w'=>w'.cell? ⟨p.w,0,none⟩=some (.pointer (some ⟨p.d,0,none⟩))∧w'.cell? ⟨p.w,1,none⟩=some (.pointer (some ⟨p.a,0,none⟩))) (first|with_reducible exact⟨c0,c1⟩|with_reducible exact d1)
  (first
   |(go_at_call 44;(with_reducible refine Q2.out.mono ?_);rintro e w8 ⟨rfl,rfl⟩)
   |(go_at_call 63;(with_reducible refine Q1.out.mono ?_);rintro e w6 ⟨b,g,rfl,⟨G6,k1,k2,k3,k4,k5⟩,k6,k7,k8,k9⟩;have d1:=Ct.out _ _ _ k1))
 have Sz:=k2.row nI.out (Vs.out _ (Nat.le_refl _))
 have SD:=k2.row nG.out (Vs.out _ OG.out)
 have e0:w6.cell? ⟨w.heap.size,0,none⟩=some (.int .i64 first):=Sz.cell 0
 have e1:w6.cell? ⟨w.heap.size,1,none⟩=some (.int .i64 nb):=Sz.cell 1
 have e2:w6.cell? ⟨w.heap.size,2,none⟩=some (.int .i64 k):=Sz.cell 2
 have e3:w6.cell? ⟨w.heap.size,3,none⟩=some (.int .i64 count):=Sz.cell 3
 have e4:w6.cell? ⟨w1.heap.size,0,none⟩=some (.int .i64 k):=SD.cell 0
 have e5:w6.cell? ⟨w1.heap.size,1,none⟩=some (.int .i64 hh):=SD.cell 1
 have HN:=Lib.hid (bh.out w6 _ b g G6 k1 ((AK.AJ BW.out G).trans k2 fun b hb=>.inl hb) (fun k hk=>(k3 k hk).imp_right fun h=>Nat.le_trans BW.out.size h) k4 k5 k6 k7 (Nat.le_trans BW.out.size k8) (Nat.le_trans BW.out.size k9) rfl)
 clear k1 k2 k3 k4 k5 k6 k7 k8 k9 Sz SD Q1 Q2 bh BW nI nG Ct d1 c0 c1 Vs
 go_wp2
 exact bX.out _ _ b g HN.out
theorem M3{s:St}{n:Nat}(h:Fits s n)(x:Int):(s.now x).length=s.size:=by
 unfold St.now blk
 split
 ·next l hl=>exact QG (fun l=>l.length=s.size) s.Ah s.fl h.fl (fun e he=>(h.Ah e he).2) x l hl
 ·simp
theorem dO{b:List Nat}(h:∀x∈b,x<18446744073709551616):Kl b<18446744073709551616:=by
 unfold Kl
 rw[List.getD_eq_getElem?_getD]
 rcases hx:b[b.length-2]?with _|x
 ·simp
 ·exact h x (List.mem_of_getElem? hx)
theorem RT{α:Type}(ws l:List α)(h:l.length≤ws.length):(splice ws 0 l).length=ws.length:=by unfold splice;simp;omega
theorem kH{w:World}{g:Nat}{t:TypeId}{a b c d e:Value}(h:Row w g t [a,b,c,d,e])(v0 v1 v2 v3 v4:Value):Row (((((w.setCell ⟨g,0,none⟩ v0).setCell ⟨g,1,none⟩ v1).setCell ⟨g,2,none⟩ v2).setCell ⟨g,3,none⟩ v3).setCell ⟨g,4,none⟩ v4) g t [v0,v1,v2,v3,v4]:=
 ((((h.set 0 v0).set 1 v1).set 2 v2).set 3 v3).set 4 v4
theorem aq(w:World)(g:Nat)(v0 v1 v2 v3 v4:Value):AK (fun k=>k=g) w (((((w.setCell ⟨g,0,none⟩ v0).setCell ⟨g,1,none⟩ v1).setCell ⟨g,2,none⟩ v2).setCell ⟨g,3,none⟩ v3).setCell ⟨g,4,none⟩ v4):=
 (((((AK.refl (fun k=>k=g) w).set (p:=⟨g,0,none⟩) (.inl rfl) v0).set (p:=⟨g,1,none⟩) (.inl rfl) v1).set (p:=⟨g,2,none⟩) (.inl rfl) v2).set (p:=⟨g,3,none⟩) (.inl rfl) v3).set (p:=⟨g,4,none⟩) (.inl rfl) v4
theorem RS{α β:Type}(f:α→β)(ws l:List α)(off:Nat):splice (ws.map f) off (l.map f)=(splice ws off l).map f:=by unfold splice;simp[List.map_take,List.map_drop]
theorem RR{ws l:List Nat}(h:I6 ws)(hl:∀y∈l,y<18446744073709551616):I6 (splice ws 0 l):=by
 intro y hy
 unfold splice at hy
 rcases List.mem_append.1 hy with hy|hy
 ·exact h y (List.mem_of_mem_take hy)
 ·rcases List.mem_append.1 hy with hy|hy
  ·exact hl y hy
  ·exact h y (List.mem_of_mem_drop hy)
theorem RN{w:World}{G:Nat→Prop}{p:Wp}{F:Fs}{n:Nat}(h:Sys w G p F n)(hn:n<1000000)(i:Int)(hi:Ff i):
  Calls Tryz.prog 98 #[.pointer (some ⟨p.d,0,none⟩),.int .i64 i] w fun e w'=>∃v,e=.returned (.tuple #[v,.int .i64 (read F.D i).1])∧((read F.D i).1≠0→v=.slice none 0 0)∧
   ((read F.D i).1=0→∃A c,v=.slice A F.D.size c∧F.D.size≤c∧Reads .u64 w' w'.heap.size A F.D.size (F.D.now i))∧AQ w G p {F with D:=(read F.D i).2} (n+1) w':=by
 obtain⟨Gd,hd,Ef⟩:=h.dev
 have uF:=M3 hd.fits i
 refine(ZG p.d F.D n Gd i w hd hn hi).mono ?_
 rintro e w' ⟨v,he,h1,h2,h3,h4⟩
 refine⟨v,he,h1,fun h0=>?_,Ef _ _ _ ⟨Gd,h3,h4.mono fun k hk=>by rw[hk];exact hd.I3,fun k hk=>.inl hk⟩⟩
 have Ty:=h2 h0
 obtain⟨A,c,e1,_,e2⟩:=Ty.reads
 obtain⟨g',c',cs,e3,_,_,e4,_⟩:=id Ty
 rw[uF]at e1 e2 e4 e3
 rw[e1]at e3
 injection e3 with e3 _ e5
 exact⟨A,c,e1,by omega,e2⟩
def Qs(w:World)(G:Nat→Prop)(p:Wp)(F:Fs)(n x:Nat)(r:Rt)(ws:List Nat)(w':World):Prop:=
 ∃G',Sys w' G' p F n∧DA w' x p r F.D.size ws∧AK (fun k=>G k∨k=r.g) w w'∧∀k,G' k→G k∨w.heap.size≤k
theorem AQ.blk{w w':World}{G:Nat→Prop}{p:Wp}{F F':Fs}{n' x:Nat}{r:Rt}{ws:List Nat}(h:AQ w G p F' n' w')(hs:F'.D.size=F.D.size)(hm:DA w x p r F.D.size ws)(ho:Jo G x r):Qs w G p F' n' x r ws w':=by
 obtain⟨G',h1,h2,h3⟩:=h
 refine⟨G',h1,?_,h2.mono fun k hk=>.inl hk,h3⟩
 rw[hs];exact hm.CU h2 ho.x ho.b ho.g
theorem AQ.Vf{w w1 w':World}{G:Nat→Prop}{p:Wp}{F F':Fs}{n' x:Nat}{r:Rt}{ws Bt:List Nat}(h:AQ w G p F' n' w1)(hs:F'.D.size=F.D.size)(hm:DA w x p r F.D.size ws)(ho:Jo G x r)
  (hf:AK (fun k=>k=r.g) w1 w') (hr:Row w' r.g 127 (Bt.map vw)) (hl:Bt.length=F.D.size) (hu:I6 Bt):Qs w G p F' n' x r Bt w':=by
 obtain⟨hx,hb,hg⟩:=hm.lt
 obtain⟨a1,a2,a3⟩:=hm.apart
 obtain⟨G',h1,h2,h3,h4⟩:=h.apart
 have Qy:=hm.CU h2 ho.x ho.b ho.g
 have wo:¬G' r.g:=h4 _ hg ho.g
 refine⟨G',h1.CU hf (fun k hk e=>wo (e▸hk)) fun q hq e=>?_,?_,(h2.mono fun k hk=>.inl hk).trans hf (fun b hb=>.inl (.inr hb)),h3⟩
 ·have:=(h1.buf hq).1
  obtain⟨v,hv⟩:=this
  exact absurd ((e▸hv:Row w1 r.g 126 _).typed Qy.words) (by decide)
 ·rw[hs]
  exact⟨hf.row Qy.row a2,hf.row Qy.buf a3,hr,hl,hu⟩
theorem ZK{w:World}{G:Nat→Prop}{p:Wp}{F:Fs}{n x:Nat}{r:Rt}{ws:List Nat}(h:Sys w G p F n)(hn:n<1000000)(hok:Fc r F.D.size)(hm:DA w x p r F.D.size ws)(ho:Jo G x r)(Bw:r.pos<r.count)
  (he:(read F.D ((r.first+r.pos/r.h:Nat):Int)).1≠0):
  Calls Tryz.prog 81 #[.pointer (some ⟨x,0,none⟩)] w fun e w'=>e=.returned (.int .i64 (read F.D ((r.first+r.pos/r.h:Nat):Int)).1)∧Qs w G p {F with D:=(read F.D ((r.first+r.pos/r.h:Nat):Int)).2} (n+1) x r ws w':=by
 obtain⟨hx,EX,Hs⟩:=hm.lt
 have hsz:=hok.sz
 have hk:=hok.k
 have hh:=hok.h
 have hct:=hok.count
 have fI:=hok.first
 have uF:=M3 h.fits ((r.first+r.pos/r.h:Nat):Int)
 have wz:=Nat.le_trans (Nat.mul_le_mul_right r.k (Nat.min_le_left r.h (r.count-r.pos/r.h*r.h))) hh.2.1
 have XA:(read F.D ((r.first+r.pos/r.h:Nat):Int)).2.size=F.D.size:=(FH F.D ((r.first+r.pos/r.h:Nat):Int) 0).2.1
 have sZ:Hid (∀W,AQ w G p {F with D:=(read F.D ((r.first+r.pos/r.h:Nat):Int)).2} (n+1) W→Qs w G p {F with D:=(read F.D ((r.first+r.pos/r.h:Nat):Int)).2} (n+1) x r ws W):=fun W h1=>h1.blk XA hm ho
 have bY:Hid (∀W1 W Bt,AQ w G p {F with D:=(read F.D ((r.first+r.pos/r.h:Nat):Int)).2} (n+1) W1→AK (fun k=>k=r.g) W1 W→Row W r.g 127 (Bt.map vw)→Bt.length=F.D.size→I6 Bt→Qs w G p {F with D:=(read F.D ((r.first+r.pos/r.h:Nat):Int)).2} (n+1) x r Bt W):=fun W1 W Bt h1 h2 h3 h4 h5=>h1.Vf XA hm ho h2 h3 h4 h5
 have hjq:r.pos/r.h≤r.pos:=Nat.div_le_self _ _
 have cS:r.pos/r.h*r.h≤r.count:=Nat.le_trans (Nat.div_mul_le_self _ _) (by omega)
 have HW:Hid (∀W,Calls Tryz.prog 87 #[.agg #[.int .i64 r.k,.int .i64 r.h],.int .i64 (r.pos/r.h:Nat),.int .i64 r.count] W fun e w'=>e=.returned (.int .i64 (min r.h (r.count-r.pos/r.h*r.h)*r.k:Nat))∧Below W.heap.size W w'):=fun W=>MX r.k r.h (r.pos/r.h) r.count W hk.2 hh.2.2 hct.1 cS
 have lZ:Ff ((r.first+r.pos/r.h:Nat):Int):=by
  have hb:r.first+r.pos/r.h≤200000000:=by omega
  generalize r.first+r.pos/r.h=z at hb
  exact Ff.of (by omega) (by omega)
 have hq:Int.tdiv (r.pos:Int) (r.h:Int)=((r.pos/r.h:Nat):Int):=rfl
 have mC:r.first+r.pos/r.h≤200000000:=by clear hq;omega
 have had:(r.first:Int)+((r.pos/r.h:Nat):Int)=((r.first+r.pos/r.h:Nat):Int):=by clear hq;omega
 have Nu:Hid (∀W,Below w.heap.size w W→Calls Tryz.prog 98 #[.pointer (some ⟨p.d,0,none⟩),.int .i64 (r.first+r.pos/r.h:Nat)] W fun e w'=>∃v,e=.returned (.tuple #[v,.int .i64 (read F.D ((r.first+r.pos/r.h:Nat):Int)).1])∧((read F.D ((r.first+r.pos/r.h:Nat):Int)).1≠0→v=.slice none 0 0)∧
   ((read F.D ((r.first+r.pos/r.h:Nat):Int)).1=0→∃A c,v=.slice A F.D.size c∧F.D.size≤c∧Reads .u64 w' w'.heap.size A F.D.size (F.D.now ((r.first+r.pos/r.h:Nat):Int)))∧AQ w G p {F with D:=(read F.D ((r.first+r.pos/r.h:Nat):Int)).2} (n+1) w'):=fun W hb=>
  (RN (h.below hb) hn _ lZ).mono fun e w' ⟨v,h1,h2,h3,h4⟩=>⟨v,h1,h2,h3,h4.behind hb⟩
 have uq:Hid (∀W,AQ w G p {F with D:=(read F.D ((r.first+r.pos/r.h:Nat):Int)).2} (n+1) W→Row W x 140 (Sv p r)∧Row W r.b 126 [.slice (some ⟨r.g,0,none⟩) F.D.size F.D.size]∧Row W r.g 127 (ws.map vw)):=fun W h1=>⟨h1.row hm.row ho.x,h1.row hm.buf ho.b,h1.row hm.words ho.g⟩
 have gF:Hid (ws.length=F.D.size∧I6 ws):=⟨hm.len,hm.u64⟩
 have r0:=hm.row.below (AH (Below.refl _ _)) hx
 have r1:=(h.below (AH (Below.refl _ _))).row
 have c3:w.cell? ⟨x,7,none⟩=some (.int .i64 r.pos):=hm.row.cell 7
 have c1:w.cell? ⟨x,1,none⟩=some (.int .i64 r.h):=hm.row.cell 1
 have d2:w.drew.cell? ⟨x,3,none⟩=some (.int .i64 r.first):=r0.cell 3
 have d5:w.drew.cell? ⟨x,2,none⟩=some (.pointer (some ⟨p.w,0,none⟩)):=r0.cell 2
 have d6:w.drew.cell? ⟨p.w,0,none⟩=some (.pointer (some ⟨p.d,0,none⟩)):=r1.cell 0
 have DO:¬((r.h:Int)=0):=by omega
 have Kj:Hid (Below w.heap.size w w.drew):=AH (Below.refl _ _)
 clear r0 r1 hm ho hok h XA hx EX Hs
 generalize({F with D:=(read F.D ((r.first+r.pos/r.h:Nat):Int)).2}:Fs)=F1 at*
 generalize(read F.D ((r.first+r.pos/r.h:Nat):Int)).1=er at*
 generalize min r.h (r.count-r.pos/r.h*r.h)*r.k=m at*
 obtain⟨k,Ee,first,blocks,count,pos,b,g⟩:=r
 unfold Sv at*
 simp only at*
 generalize pos/Ee=j at*
 generalize first+j=ad at*
 generalize F.D.now (ad:Int)=bl at*
 generalize F.D.size=size at*
 generalize Qs w G p F1 (n+1) x ⟨k,Ee,first,blocks,count,pos,b,g⟩=EO at*
 have g9:(er !=0)=true:=by simpa using he
 clear bY uq gF HW
 go_enter Tryz.func81,Tryz.ntmps81
 go_wp2
 go_region
 go_wp2_with fail
 refine(Nu.out _ Kj.out).mono ?_;rintro e w4 ⟨v,rfl,hv,_,h4⟩
 have H4:=Lib.hid (sZ.out w4 h4)
 clear h4 sZ Nu hv
 go_wp2
 go_ret
 exact⟨rfl,H4.out⟩
theorem Wc{w:World}{G:Nat→Prop}{p:Wp}{F:Fs}{n x:Nat}{r:Rt}{ws:List Nat}(h:Sys w G p F n)(hn:n<1000000)(hok:Fc r F.D.size)(hm:DA w x p r F.D.size ws)(ho:Jo G x r)(Bw:r.pos<r.count)
  (he:(read F.D ((r.first+r.pos/r.h:Nat):Int)).1=0) (VO:okW (F.D.now ((r.first+r.pos/r.h:Nat):Int)) (r.first+r.pos/r.h)=true) (htg:Kl (F.D.now ((r.first+r.pos/r.h:Nat):Int))=r.k) (hnm:CW (F.D.now ((r.first+r.pos/r.h:Nat):Int))-1=min r.h (r.count-r.pos/r.h*r.h)*r.k):
  Calls Tryz.prog 81 #[.pointer (some ⟨x,0,none⟩)] w fun e w'=>e=.returned (.int .i64 0)∧Qs w G p {F with D:=(read F.D ((r.first+r.pos/r.h:Nat):Int)).2} (n+1) x r (splice ws 0 ((F.D.now ((r.first+r.pos/r.h:Nat):Int)).take (min r.h (r.count-r.pos/r.h*r.h)*r.k))) w':=by
 obtain⟨hx,EX,Hs⟩:=hm.lt
 have hsz:=hok.sz
 have hk:=hok.k
 have hh:=hok.h
 have hct:=hok.count
 have fI:=hok.first
 have uF:=M3 h.fits ((r.first+r.pos/r.h:Nat):Int)
 have wz:=Nat.le_trans (Nat.mul_le_mul_right r.k (Nat.min_le_left r.h (r.count-r.pos/r.h*r.h))) hh.2.1
 have XA:(read F.D ((r.first+r.pos/r.h:Nat):Int)).2.size=F.D.size:=(FH F.D ((r.first+r.pos/r.h:Nat):Int) 0).2.1
 have sZ:Hid (∀W,AQ w G p {F with D:=(read F.D ((r.first+r.pos/r.h:Nat):Int)).2} (n+1) W→Qs w G p {F with D:=(read F.D ((r.first+r.pos/r.h:Nat):Int)).2} (n+1) x r ws W):=fun W h1=>h1.blk XA hm ho
 have bY:Hid (∀W1 W Bt,AQ w G p {F with D:=(read F.D ((r.first+r.pos/r.h:Nat):Int)).2} (n+1) W1→AK (fun k=>k=r.g) W1 W→Row W r.g 127 (Bt.map vw)→Bt.length=F.D.size→I6 Bt→Qs w G p {F with D:=(read F.D ((r.first+r.pos/r.h:Nat):Int)).2} (n+1) x r Bt W):=fun W1 W Bt h1 h2 h3 h4 h5=>h1.Vf XA hm ho h2 h3 h4 h5
 have hjq:r.pos/r.h≤r.pos:=Nat.div_le_self _ _
 have cS:r.pos/r.h*r.h≤r.count:=Nat.le_trans (Nat.div_mul_le_self _ _) (by omega)
 have HW:Hid (∀W,Calls Tryz.prog 87 #[.agg #[.int .i64 r.k,.int .i64 r.h],.int .i64 (r.pos/r.h:Nat),.int .i64 r.count] W fun e w'=>e=.returned (.int .i64 (min r.h (r.count-r.pos/r.h*r.h)*r.k:Nat))∧Below W.heap.size W w'):=fun W=>MX r.k r.h (r.pos/r.h) r.count W hk.2 hh.2.2 hct.1 cS
 have lZ:Ff ((r.first+r.pos/r.h:Nat):Int):=by
  have hb:r.first+r.pos/r.h≤200000000:=by omega
  generalize r.first+r.pos/r.h=z at hb
  exact Ff.of (by omega) (by omega)
 have hq:Int.tdiv (r.pos:Int) (r.h:Int)=((r.pos/r.h:Nat):Int):=rfl
 have mC:r.first+r.pos/r.h≤200000000:=by clear hq;omega
 have had:(r.first:Int)+((r.pos/r.h:Nat):Int)=((r.first+r.pos/r.h:Nat):Int):=by clear hq;omega
 have Nu:Hid (∀W,Below w.heap.size w W→Calls Tryz.prog 98 #[.pointer (some ⟨p.d,0,none⟩),.int .i64 (r.first+r.pos/r.h:Nat)] W fun e w'=>∃v,e=.returned (.tuple #[v,.int .i64 (read F.D ((r.first+r.pos/r.h:Nat):Int)).1])∧((read F.D ((r.first+r.pos/r.h:Nat):Int)).1≠0→v=.slice none 0 0)∧
   ((read F.D ((r.first+r.pos/r.h:Nat):Int)).1=0→∃A c,v=.slice A F.D.size c∧F.D.size≤c∧Reads .u64 w' w'.heap.size A F.D.size (F.D.now ((r.first+r.pos/r.h:Nat):Int)))∧AQ w G p {F with D:=(read F.D ((r.first+r.pos/r.h:Nat):Int)).2} (n+1) w'):=fun W hb=>
  (RN (h.below hb) hn _ lZ).mono fun e w' ⟨v,h1,h2,h3,h4⟩=>⟨v,h1,h2,h3,h4.behind hb⟩
 have uq:Hid (∀W,AQ w G p {F with D:=(read F.D ((r.first+r.pos/r.h:Nat):Int)).2} (n+1) W→Row W x 140 (Sv p r)∧Row W r.b 126 [.slice (some ⟨r.g,0,none⟩) F.D.size F.D.size]∧Row W r.g 127 (ws.map vw)):=fun W h1=>⟨h1.row hm.row ho.x,h1.row hm.buf ho.b,h1.row hm.words ho.g⟩
 have gF:Hid (ws.length=F.D.size∧I6 ws):=⟨hm.len,hm.u64⟩
 have r0:=hm.row.below (AH (Below.refl _ _)) hx
 have r1:=(h.below (AH (Below.refl _ _))).row
 have c3:w.cell? ⟨x,7,none⟩=some (.int .i64 r.pos):=hm.row.cell 7
 have c1:w.cell? ⟨x,1,none⟩=some (.int .i64 r.h):=hm.row.cell 1
 have d2:w.drew.cell? ⟨x,3,none⟩=some (.int .i64 r.first):=r0.cell 3
 have d5:w.drew.cell? ⟨x,2,none⟩=some (.pointer (some ⟨p.w,0,none⟩)):=r0.cell 2
 have d6:w.drew.cell? ⟨p.w,0,none⟩=some (.pointer (some ⟨p.d,0,none⟩)):=r1.cell 0
 have DO:¬((r.h:Int)=0):=by omega
 have Kj:Hid (Below w.heap.size w w.drew):=AH (Below.refl _ _)
 clear r0 r1 hm ho hok h XA hx EX Hs
 generalize({F with D:=(read F.D ((r.first+r.pos/r.h:Nat):Int)).2}:Fs)=F1 at*
 generalize(read F.D ((r.first+r.pos/r.h:Nat):Int)).1=er at*
 generalize min r.h (r.count-r.pos/r.h*r.h)*r.k=m at*
 obtain⟨k,Ee,first,blocks,count,pos,b,g⟩:=r
 unfold Sv at*
 simp only at*
 generalize pos/Ee=j at*
 generalize first+j=ad at*
 generalize F.D.now (ad:Int)=bl at*
 generalize F.D.size=size at*
 generalize Qs w G p F1 (n+1) x ⟨k,Ee,first,blocks,count,pos,b,g⟩=EO at*
 subst he
 have hwk:IntKind.u64.wrap (k:Int)=(k:Int):=IntWalk.u64_in _ ⟨by omega,by omega⟩
 go_enter Tryz.func81,Tryz.ntmps81
 go_wp2
 go_region
 go_wp2_with fail
 refine(Nu.out _ Kj.out).mono ?_;rintro e w4 ⟨v,rfl,_,hv,h4⟩
 obtain⟨A,c,rfl,hsc,Z7⟩:=hv (by trivial)
 have xZ:∀y∈bl,y<18446744073709551616:=fun y hy=>Md (Z7.2.1 y hy)
 have HBU:=Lib.hid xZ
 have Qp:Hid (Kl bl<18446744073709551616):=dO xZ
 have HG:=Lib.hid (fR A size c ad bl w4 Z7 (Nat.le_refl _) hsc hsz.1 hsz.2 (by omega))
 have H4:=Lib.hid h4
 obtain⟨n0,n1,n2⟩:=uq.out w4 h4
 have N0:=Lib.hid n0
 have N1:=Lib.hid n1
 have N2:=Lib.hid n2
 have HP2:Hid (∀W,Below w4.heap.size w4 W→EO ws W):=fun W hb=>sZ.out W (h4.ahead hb)
 clear h4 sZ Nu hv Z7 n0 n1 n2 uq xZ
 generalize Kl bl=tg at*
 go_wp2_with fail
 refine HG.out.mono ?_
 rintro e w5 (⟨T6,_⟩|⟨_,v5,rfl,BG,hb⟩)
 ·exact absurd (T6.symm.trans VO) (by decide)
 have AE4:=Qp.out
 have BW:=Lib.hid hb
 have M0:=Lib.hid (N0.out.below hb N0.out.lt)
 have M1:=Lib.hid (N1.out.below hb N1.out.lt)
 have M2:=Lib.hid (N2.out.below hb N2.out.lt)
 clear hb N0 N1 N2 HG
 have k0:∀d os,(Sort.grow (redrawn w5 d) os).cell? ⟨x,0,none⟩=some (.int .i64 k):=cell_regrown (M0.out.cell 0)
 have k1:∀d os,(Sort.grow (redrawn w5 d) os).cell? ⟨x,1,none⟩=some (.int .i64 Ee):=cell_regrown (M0.out.cell 1)
 have k6:∀d os,(Sort.grow (redrawn w5 d) os).cell? ⟨x,6,none⟩=some (.int .i64 count):=cell_regrown (M0.out.cell 6)
 have Q1:Hid (∀d os,Calls Tryz.prog 87 #[.agg #[.int .i64 k,.int .i64 Ee],.int .i64 j,.int .i64 count] (Sort.grow (redrawn w5 d) os) fun e DG=>e=.returned (.int .i64 (m:Nat))∧∃p:Regrown,DG=Sort.grow (redrawn w5 p.d) p.os):=fun d os=>Calls.regrown_of (HW.out _)
 obtain rfl:tg=k:=htg
 have hne:((tg:Int) !=(tg:Int))=false:=by simp
 rw[hnm]at BG
 have Kg:Hid ((bl.take m).length=m):=by
  unfold Hid;rw[List.length_take];omega
 obtain⟨A5,c5,rfl,qT,hl5⟩:=Wj (k:=.u64) (l:=bl.take m) BG (fun x hx=>Kk (HBU.out x (List.mem_of_mem_take hx)))
 have g9:((m:Int) !=(m:Int))=false:=by simp
 have sS:=Lib.hid qT
 clear BG hl5 qT
 go_wp2
 refine wp_region_quiet_below (by kernel_rfl) (by kernel_rfl) ?_
 repeat(any_goals(first|go_big_quiet_step (with_reducible exact Q1.out _ _)|quiet_step (with_reducible exact Q1.out _ _)))
 refine wpQuiet_nil ?_
 intro w6 ki
 obtain⟨⟨dq,osq⟩,ki⟩:=ki
 have SO:=below_regrown w5 dq osq
 rw[←ki]at SO
 clear ki Q1 k0 k1 k6
 have Cc:=Lib.hid ((sS.out.CL SO))
 have O0:=Lib.hid (M0.out.below SO M0.out.lt)
 have O1:=Lib.hid (M1.out.below SO M1.out.lt)
 have O2:=Lib.hid (M2.out.below SO M2.out.lt)
 have H6:=Lib.hid (H4.out.ahead (BW.out.trans (SO.mono BW.out.size)))
 clear HP2 SO BW M0 M1 M2 HW H4 sS
 have e8:w6.cell? ⟨x,8,none⟩=some (.pointer (some ⟨b,0,none⟩)):=O0.out.cell 8
 have e0:w6.cell? ⟨b,0,none⟩=some (.slice (some ⟨g,0,none⟩) size size):=O1.out.cell 0
 go_wp2_with (with_reducible refine BX 83 ?_)
 unfold Hid
 refine BU rfl _ _ 123 123 rfl 127 Tryz.underlying123 gu (by decide) (some ⟨g,0,none⟩) A5 size size m c5 rfl rfl g 0 _ 127 O2.out ((bl.take m).map vw) (by rw[List.length_map,Kg.out,Nat.mul_one];exact(Nat.min_eq_left (by omega)).symm) (fun h0=>⟨rfl,Cc.out.source (by have:=Kg.out;rw[List.length_map]at h0;omega)⟩) (by rw[List.length_map,List.length_map,Kg.out,gF.out.1];omega) (fun v hv=>by obtain⟨x,_,rfl⟩:=List.mem_map.1 hv;rfl) ?_
 intro w7 oI S3
 have gL:Hid (Row w7 g 127 ((splice ws 0 (bl.take m)).map vw)):=by
  have h:=oI.out
  rw[RS]at h;exact h
 have H7:=Lib.hid (bY.out w6 w7 _ H6.out S3.out gL.out (by rw[RT _ _ (by rw[Kg.out,gF.out.1];omega)];exact gF.out.1) (RR gF.out.2 fun y hy=>HBU.out y (List.mem_of_mem_take hy)))
 clear bY H6 oI S3 gL Cc O0 O1 O2
 go_wp2
 go_ret
 exact⟨rfl,H7.out⟩
def GM(w:World)(G:Nat→Prop)(p:Wp)(F:Fs)(n x:Nat)(r:Rt)(ws:List Nat)(w':World):Prop:=
 ∃G',Sys w' G' p F n∧DA w' x p r F.D.size ws∧AK (fun k=>G k∨k=r.g∨k=x) w w'∧∀k,G' k→G k∨w.heap.size≤k
def CX(r:Rt)(ws:List Nat):AB:=Fo r.k ((ws.drop (r.pos%r.h*r.k)).take r.k)
def L5(k:Nat)(l:List Nat)(i c:Nat):Value:=.int .i64 (if c<i∧c<k then IntKind.i64.wrap ((l.getD c 0:Nat):Int)else 0)
def Bg(k:Nat)(l:List Nat)(i:Nat):List Value:=[L5 k l i 0,L5 k l i 1,L5 k l i 2,L5 k l i 3,L5 k l i 4]
theorem Jj(k:Nat)(l:List Nat):Bg k l 0=[.int .i64 0,.int .i64 0,.int .i64 0,.int .i64 0,.int .i64 0]:=by simp[Bg,L5]
theorem LD{k:Nat}(hk:k≤5)(l:List Nat){i:Nat}(hi:i<k):(Bg k l i).set i (.int .i64 (IntKind.i64.wrap ((l.getD i 0:Nat):Int)))=Bg k l (i+1):=by
 match i,hi with
 |0,hi=>simp[Bg,L5,hi]
 |1,hi=>simp[Bg,L5,hi]
 |2,hi=>simp[Bg,L5,hi]
 |3,hi=>simp[Bg,L5,hi]
 |4,hi=>simp[Bg,L5,hi]
 |i+5,hi=>omega
theorem LG{k:Nat}(_hk:k≤5)(l:List Nat):Bg k l k=[.int .i64 (Fo k l).a,.int .i64 (Fo k l).b,.int .i64 (Fo k l).c,.int .i64 (Fo k l).d,.int .i64 (Fo k l).e]:=by
 simp[Bg,L5,Fo]
theorem PK{w:World}{G:Nat→Prop}{p:Wp}{F:Fs}{n x:Nat}{r:Rt}{ws:List Nat}(h:Sys w G p F n)(hok:Fc r F.D.size)(hm:DA w x p r F.D.size ws)(ho:Jo G x r)(Bw:r.pos<r.count)
  (Du:r.pos%r.h≠0):
  Calls Tryz.prog 52 #[.pointer (some ⟨x,0,none⟩)] w fun e w'=>e=.returned (.tuple #[.agg #[.int .i64 (CX r ws).a,.int .i64 (CX r ws).b,.int .i64 (CX r ws).c,.int .i64 (CX r ws).d,.int .i64 (CX r ws).e],.bool true,.int .i64 0])∧GM w G p F n x {r with pos:=r.pos+1} ws w':=by
 obtain⟨hx,EX,Hs⟩:=hm.lt
 obtain⟨a1,a2,a3⟩:=hm.apart
 have hsz:=hok.sz
 have hk:=hok.k
 have hh:=hok.h
 have hct:=hok.count
 have hmod:=Nat.mod_lt r.pos hh.1
 have uC:r.pos%r.h*r.k+r.k≤F.D.size-2:=by
  have h1:(r.pos%r.h+1)*r.k≤r.h*r.k:=Nat.mul_le_mul_right _ hmod
  rw[Nat.add_mul,Nat.one_mul]at h1
  exact Nat.le_trans h1 hh.2.1
 obtain⟨w0,DN⟩:∃w0,w0=w.alloc (.cells #[.int .i64 0,.int .i64 0,.int .i64 0,.int .i64 0,.int .i64 0] 63):=⟨_,rfl⟩
 have hb0:Below w.heap.size w w0:=by rw[DN];exact(Below.refl w.heap.size w).alloc (Nat.le_refl _) _
 have Cz:Row w0 w.heap.size 63 [.int .i64 0,.int .i64 0,.int .i64 0,.int .i64 0,.int .i64 0]:=by rw[DN];exact heap_alloc_new _ _
 have hm0:=hm.below hb0
 have Dv:=CD hm0.row hm0.buf
 rw[decide_eq_true (show 0<F.D.size by omega)]at Dv
 have Ct:Hid (Calls Tryz.prog 79 #[.pointer (some ⟨x,0,none⟩)] (w.alloc (.cells #[.int .i64 0,.int .i64 0,.int .i64 0,.int .i64 0,.int .i64 0] 63)) fun e w'=>e=.returned (.bool (!true))∧w'=w.alloc (.cells #[.int .i64 0,.int .i64 0,.int .i64 0,.int .i64 0,.int .i64 0] 63)):=by rw[DN]at Dv;exact Dv
 have nN:=Lib.hid Cz
 have LK:Hid (¬G w.heap.size):=fun hg=>by have:=h.lt hg;omega
 have Aq:Hid (∀W4 W9,Qs w0 G p F n x r ws W4→AK (fun k=>k=x∨k=w.heap.size) W4 W9→Row W9 x 140 (Sv p {r with pos:=r.pos+1})→GM w G p F n x {r with pos:=r.pos+1} ws W9):=by
  intro W4 W9 ⟨G4,k1,k2,k3,k4⟩ hf hr
  have v8:¬G4 x:=fun hg=>(k4 x hg).elim ho.x fun h=>by have:=hb0.size;omega
  have fM:¬G4 w.heap.size:=fun hg=>(k4 _ hg).elim LK.out fun h=>by have:=Cz.lt;omega
  have oW:Row W4 w.heap.size 63 [.int .i64 0,.int .i64 0,.int .i64 0,.int .i64 0,.int .i64 0]:=k3.row Cz (by
   rintro(hg|hg)
   ·exact LK.out hg
   ·omega)
  refine⟨G4,k1.Of hf ?_,⟨hr,hf.row k2.buf ?_,hf.row k2.words ?_,k2.len,k2.u64⟩,?_,fun k hk=>(k4 k hk).imp_right fun h=>Nat.le_trans hb0.size h⟩
  ·rintro k (rfl|rfl)
   ·exact⟨v8,fun v hv=>absurd (hv.typed k2.row) (by decide)⟩
   ·exact⟨fM,fun v hv=>absurd (hv.typed oW) (by decide)⟩
  ·rintro(e|e)
   ·exact a1 e.symm
   ·exact absurd e (Nat.ne_of_lt EX)
  ·rintro(e|e)
   ·exact a2 e.symm
   ·exact absurd e (Nat.ne_of_lt Hs)
  ·refine(((AK.AJ hb0 _).trans k3 fun b hb=>hb.elim (fun h=>.inl (.inl h)) fun h=>.inl (.inr (.inl h)))).trans hf ?_
   rintro b (rfl|rfl)
   ·exact .inl (.inr (.inr rfl))
   ·exact .inr (Nat.le_refl _)
 have H0:Hid (Row (w.alloc (.cells #[.int .i64 0,.int .i64 0,.int .i64 0,.int .i64 0,.int .i64 0] 63)) x 140 (Sv p r)):=by rw[←DN];exact hm0.row
 have uB:Int.tmod (r.pos:Int) (r.h:Int)=((r.pos%r.h:Nat):Int):=rfl
 have DO:¬((r.h:Int)=0):=by omega
 have g3:((r.pos:Int)==(r.count:Int))=false:=by simp;omega
 have hp1:(r.pos:Int)+1=((r.pos+1:Nat):Int):=by omega
 have c7:(w.alloc (.cells #[.int .i64 0,.int .i64 0,.int .i64 0,.int .i64 0,.int .i64 0] 63)).cell? ⟨x,7,none⟩=some (.int .i64 r.pos):=H0.out.cell 7
 have c6:(w.alloc (.cells #[.int .i64 0,.int .i64 0,.int .i64 0,.int .i64 0,.int .i64 0] 63)).cell? ⟨x,6,none⟩=some (.int .i64 r.count):=H0.out.cell 6
 have d7:(w.alloc (.cells #[.int .i64 0,.int .i64 0,.int .i64 0,.int .i64 0,.int .i64 0] 63)).drew.cell? ⟨x,7,none⟩=some (.int .i64 r.pos):=H0.out.cell 7
 have d1:(w.alloc (.cells #[.int .i64 0,.int .i64 0,.int .i64 0,.int .i64 0,.int .i64 0] 63)).drew.cell? ⟨x,1,none⟩=some (.int .i64 r.h):=H0.out.cell 1
 have GO:Hid (Below w.heap.size w (w.alloc (.cells #[.int .i64 0,.int .i64 0,.int .i64 0,.int .i64 0,.int .i64 0] 63)).drew.drew):=by rw[←DN];exact AH (AH hb0)
 have g5:(((r.pos%r.h:Nat):Int)==0)=false:=by simp;omega
 have Uo:Hid (Qs w0 G p F n x r ws (w.alloc (.cells #[.int .i64 0,.int .i64 0,.int .i64 0,.int .i64 0,.int .i64 0] 63)).drew.drew):=(AQ.AJ (h.below hb0) (by rw[←DN];exact AH (AH (Below.refl _ _)))).blk rfl hm0 ⟨ho.x,ho.b,ho.g⟩
 clear Dv h hm hm0 hok ho Cz hb0
 go_enter Tryz.func52,Tryz.ntmps52
 go_wp2_with fail
 refine Ct.out.mono ?_;rintro e w1 ⟨rfl,rfl⟩
 go_wp2
 go_region
 go_wp2
 go_region
 generalize(w.alloc (.cells #[.int .i64 0,.int .i64 0,.int .i64 0,.int .i64 0,.int .i64 0] 63)).drew.drew=W4 at*
 have Sq:Hid (∀W9,AK (fun k=>k=x∨k=w.heap.size) W4 W9→Row W9 x 140 (Sv p {r with pos:=r.pos+1})→GM w G p F n x {r with pos:=r.pos+1} ws W9):=fun W9 h1 h2=>Aq.out W4 W9 Uo.out h1 h2
 obtain⟨G4,k1,k2,k3,k4⟩:=Uo.out
 have X4:=Lib.hid k2.row
 have Y4:=Lib.hid k2.buf
 have Z4:=Lib.hid k2.words
 have zF:Hid (ws.length=F.D.size∧I6 ws):=⟨k2.len.trans rfl,k2.u64⟩
 have R4:Hid (Row W4 w.heap.size 63 [.int .i64 0,.int .i64 0,.int .i64 0,.int .i64 0,.int .i64 0]):=k3.row nN.out (by
  rintro(hg|hg)
  ·exact LK.out hg
  ·omega)
 clear Uo k1 k2 k3 k4 Aq LK G4
 have sW:Hid (∀W,Calls Tryz.prog 68 #[.agg #[.int .i64 r.k,.int .i64 r.h],.slice (some ⟨r.g,0,none⟩) F.D.size F.D.size,.int .i64 r.pos] W fun e w'=>e=.returned (.slice (some ⟨r.g,r.pos%r.h*r.k,none⟩) r.k (F.D.size-r.pos%r.h*r.k))∧Below W.heap.size W w'):=fun W=>QA r.k r.h r.pos r.g F.D.size W hk.1 hk.2 hh.1 hh.2.2 (by omega) (by omega) hsz.2
 have cG:Hid (Bg r.k ((ws.drop (r.pos%r.h*r.k)).take r.k) r.k=[.int .i64 (CX r ws).a,.int .i64 (CX r ws).b,.int .i64 (CX r ws).c,.int .i64 (CX r ws).d,.int .i64 (CX r ws).e]):=LG hk.2 _
 have Lh:Hid (Bg r.k ((ws.drop (r.pos%r.h*r.k)).take r.k) 0=[.int .i64 0,.int .i64 0,.int .i64 0,.int .i64 0,.int .i64 0]):=Jj _ _
 have cE:Hid (∀i j,j<5→∃v,(Bg r.k ((ws.drop (r.pos%r.h*r.k)).take r.k) i)[j]?=some v):=fun i j hj=>⟨_,List.getElem?_eq_getElem (show j<(Bg r.k ((ws.drop (r.pos%r.h*r.k)).take r.k) i).length from hj)⟩
 have sH:Hid (x≠w.heap.size):=by unfold Hid;omega
 have Ns:Hid (∀i,i<r.k→(Bg r.k ((ws.drop (r.pos%r.h*r.k)).take r.k) i).set i (.int .i64 (IntKind.i64.wrap (((ws.getD (r.pos%r.h*r.k+i) 0:Nat):Nat):Int)))=Bg r.k ((ws.drop (r.pos%r.h*r.k)).take r.k) (i+1)):=by
  intro i hi
  rw[←LD hk.2 _ hi]
  congr 4
  rw[List.getD_eq_getElem?_getD,List.getD_eq_getElem?_getD,List.getElem?_take,if_pos hi,List.getElem?_drop]
 generalize L4:GM w G p F n x {r with pos:=r.pos+1} ws=EO at*
 replace L4:=Lib.hid L4
 generalize mE:CX r ws=TU at*
 replace mE:=Lib.hid mE
 generalize Bg r.k ((ws.drop (r.pos%r.h*r.k)).take r.k)=CC at*
 clear hmod DN Ct H0 c7 c6 d7 d1 GO uB DO g3
 obtain⟨TA,TB,TC,TD,TE⟩:=TU
 obtain⟨k,Ee,first,blocks,count,pos,b,g⟩:=r
 unfold Sv at*
 simp only at*
 generalize pos%Ee*k=off at*
 generalize F.D.size=size at*
 generalize mG:pos+1=JW at*
 replace mG:=Lib.hid mG
 have DS:=(Below.refl W4.heap.size W4).alloc (Nat.le_refl _) (.cells #[.int .i64 0,.int .i64 0,.int .i64 0,.int .i64 0,.int .i64 0] 63)
 have GQ:Row (W4.alloc (.cells #[.int .i64 0,.int .i64 0,.int .i64 0,.int .i64 0,.int .i64 0] 63)) W4.heap.size 63 [.int .i64 0,.int .i64 0,.int .i64 0,.int .i64 0,.int .i64 0]:=heap_alloc_new _ _
 have bQ:=Lib.hid (X4.out.below DS X4.out.lt)
 have sG:=Lib.hid (Y4.out.below DS Y4.out.lt)
 have k0:∀d os,(Sort.grow (redrawn (W4.alloc (.cells #[.int .i64 0,.int .i64 0,.int .i64 0,.int .i64 0,.int .i64 0] 63)) d) os).cell? ⟨x,0,none⟩=some (.int .i64 k):=cell_regrown (bQ.out.cell 0)
 have k1:∀d os,(Sort.grow (redrawn (W4.alloc (.cells #[.int .i64 0,.int .i64 0,.int .i64 0,.int .i64 0,.int .i64 0] 63)) d) os).cell? ⟨x,1,none⟩=some (.int .i64 Ee):=cell_regrown (bQ.out.cell 1)
 have k7:∀d os,(Sort.grow (redrawn (W4.alloc (.cells #[.int .i64 0,.int .i64 0,.int .i64 0,.int .i64 0,.int .i64 0] 63)) d) os).cell? ⟨x,7,none⟩=some (.int .i64 pos):=cell_regrown (bQ.out.cell 7)
 have k8:∀d os,(Sort.grow (redrawn (W4.alloc (.cells #[.int .i64 0,.int .i64 0,.int .i64 0,.int .i64 0,.int .i64 0] 63)) d) os).cell? ⟨x,8,none⟩=some (.pointer (some ⟨b,0,none⟩)):=cell_regrown (bQ.out.cell 8)
 have kb:∀d os,(Sort.grow (redrawn (W4.alloc (.cells #[.int .i64 0,.int .i64 0,.int .i64 0,.int .i64 0,.int .i64 0] 63)) d) os).cell? ⟨b,0,none⟩=some (.slice (some ⟨g,0,none⟩) size size):=cell_regrown (sG.out.cell 0)
 have Q4:Hid (∀d os,Calls Tryz.prog 68 #[.agg #[.int .i64 k,.int .i64 Ee],.slice (some ⟨g,0,none⟩) size size,.int .i64 pos] (Sort.grow (redrawn (W4.alloc (.cells #[.int .i64 0,.int .i64 0,.int .i64 0,.int .i64 0,.int .i64 0] 63)) d) os) fun e DG=>e=.returned (.slice (some ⟨g,off,none⟩) k (size-off))∧∃p:Regrown,DG=Sort.grow (redrawn (W4.alloc (.cells #[.int .i64 0,.int .i64 0,.int .i64 0,.int .i64 0,.int .i64 0] 63)) p.d) p.os):=fun d os=>Calls.regrown_of (sW.out _)
 have BW:=Lib.hid DS
 have Cc:=Lib.hid GQ
 clear DS GQ sW bQ sG
 go_wp2
 refine wp_region_quiet_below (by kernel_rfl) (by kernel_rfl) ?_
 repeat(any_goals(first|go_big_quiet_step (with_reducible first|exact Q4.out _ _)|quiet_step (with_reducible first|exact Q4.out _ _)))
 refine wpQuiet_nil ?_
 intro w7 VH
 obtain⟨⟨dq,osq⟩,VH⟩:=VH
 have KN:=below_regrown (W4.alloc (.cells #[.int .i64 0,.int .i64 0,.int .i64 0,.int .i64 0,.int .i64 0] 63)) dq osq
 rw[←VH]at KN
 clear VH
 have Vu:=Lib.hid (BW.out.trans (KN.mono BW.out.size))
 have gL:Hid (Row w7 W4.heap.size 63 (CC 0)):=by unfold Hid;rw[Lh.out];exact Cc.out.below KN Cc.out.lt
 clear KN Q4 k0 k1 k7 k8 kb Cc BW Lh
 have p5:=X4.out.lt
 have hgt:=Z4.out.lt
 have EC:=R4.out.lt
 have Qr:Hid (x<W4.heap.size∧g<W4.heap.size∧w.heap.size<W4.heap.size):=⟨p5,hgt,EC⟩
 clear p5 hgt EC
 generalize hT:W4.heap.size=T at*
 go_wp2
 go_loopw [61] (fun iv wr=>∃i:Nat,i≤k∧iv=.int .i64 (i:Int)∧Hid (Below T W4 wr)∧Hid (Row wr T 63 (CC i))) (fun iv _=>k-(intOf iv).toNat)
 case atStart=>exact⟨0,Nat.zero_le _,rfl,Vu.out,gL.out⟩
 case round=>
  obtain⟨i,hi,rfl,HF,De⟩:=hrel
  by_cases hlt:i<k
  ·have KF:=Ns.out i hlt
   have N7:off+i<ws.length:=by have:=zF.out.1;omega
   have cw:wr.cell? ⟨g,off+i,none⟩=some (.int .u64 (ws.getD (off+i) 0:Nat)):=by
    rw[(Z4.out.below HF.out Qr.out.2.1).cell (off+i)];exact IS N7
   have oP:i<5:=by omega
   have ct:∃v,wr.cell? ⟨T,i,none⟩=some v:=by
    rw[De.out.cell i]
    exact cE.out i i oP
   obtain⟨v0,ct⟩:=ct
   have fg:=De.out.free i
   have Ea:Hid (Row (wr.setCell ⟨T,i,none⟩ (.int .i64 (IntKind.i64.wrap ((ws.getD (off+i) 0:Nat):Int)))) T 63 (CC (i+1))):=by
    have h1:=De.out.set i (.int .i64 (IntKind.i64.wrap ((ws.getD (off+i) 0:Nat):Int)))
    rw[KF]at h1;exact h1
   have Jw:Hid (Below T W4 (wr.setCell ⟨T,i,none⟩ (.int .i64 (IntKind.i64.wrap ((ws.getD (off+i) 0:Nat):Int))))):=HF.out.setCell (Nat.le_refl _) _
   have NK:(0:Int)≤(i:Int):=by omega
   have lX:(i:Int)<(k:Int):=by omega
   have VQ:(i:Int)<5:=by omega
   clear KF N7 hi
   generalize ws.getD (off+i) 0=u at*
   obtain⟨z,hz⟩:∃z,IntKind.i64.wrap (u:Int)=z:=⟨_,rfl⟩
   rw[hz]at Ea Jw
   go_wp2
   go_roundw
   case rel=>exact⟨i+1,by omega,by go_num,Jw.out,Ea.out⟩
   case measure=>simp[intOf];omega
  ·obtain rfl:i=k:=by omega
   have MI:=X4.out.below HF.out Qr.out.1
   have c7:wr.cell? ⟨x,7,none⟩=some (.int .i64 pos):=MI.cell 7
   have f7:=MI.free 7
   have ON:=MI.set 7 (.int .i64 JW)
   have T4:Row (wr.setCell ⟨x,7,none⟩ (.int .i64 JW)) T 63 (CC i):=De.out.CU (p:=⟨x,7,none⟩) (fun e=>by have:=Qr.out.1;simp only at e;omega) _
   rw[cG.out]at T4
   have Z3:Row (wr.setCell ⟨x,7,none⟩ (.int .i64 JW)) w.heap.size 63 [.int .i64 0,.int .i64 0,.int .i64 0,.int .i64 0,.int .i64 0]:=(R4.out.below HF.out Qr.out.2.2).CU (p:=⟨x,7,none⟩) (fun e=>sH.out e.symm) (.int .i64 JW)
   have iq:AK (fun k=>k=x∨k=w.heap.size) W4 (wr.setCell ⟨x,7,none⟩ (.int .i64 JW)):=(AK.AJ (by rw[hT];exact HF.out) (fun k=>k=x∨k=w.heap.size)).set (p:=⟨x,7,none⟩) (.inl (.inl rfl)) _
   have Jq:=Lib.hid T4
   have D9:=Lib.hid Z3
   have Uj:=Lib.hid ON
   have YJ:=Lib.hid iq
   clear MI ON T4 Z3 iq De HF
   generalize wH:wr.setCell ⟨x,7,none⟩ (.int .i64 JW)=w8 at Jq D9 Uj YJ
   have t0:w8.cell? ⟨T,0,none⟩=some (.int .i64 TA):=Jq.out.cell 0
   have t1:w8.cell? ⟨T,1,none⟩=some (.int .i64 TB):=Jq.out.cell 1
   have t2:w8.cell? ⟨T,2,none⟩=some (.int .i64 TC):=Jq.out.cell 2
   have t3:w8.cell? ⟨T,3,none⟩=some (.int .i64 TD):=Jq.out.cell 3
   have t4:w8.cell? ⟨T,4,none⟩=some (.int .i64 TE):=Jq.out.cell 4
   have z0:w8.cell? ⟨w.heap.size,0,none⟩=some (.int .i64 0):=D9.out.cell 0
   have z1:w8.cell? ⟨w.heap.size,1,none⟩=some (.int .i64 0):=D9.out.cell 1
   have z2:w8.cell? ⟨w.heap.size,2,none⟩=some (.int .i64 0):=D9.out.cell 2
   have z3:w8.cell? ⟨w.heap.size,3,none⟩=some (.int .i64 0):=D9.out.cell 3
   have z4:w8.cell? ⟨w.heap.size,4,none⟩=some (.int .i64 0):=D9.out.cell 4
   have f0:=D9.out.free 0
   have f1:=D9.out.free 1
   have f2:=D9.out.free 2
   have f3:=D9.out.free 3
   have f4:=D9.out.free 4
   have Dt:=Lib.hid (kH D9.out (.int .i64 TA) (.int .i64 TB) (.int .i64 TC) (.int .i64 TD) (.int .i64 TE))
   have Ki:=Lib.hid (YJ.out.trans (aq w8 w.heap.size (.int .i64 TA) (.int .i64 TB) (.int .i64 TC) (.int .i64 TD) (.int .i64 TE)) fun b hb=>.inl (.inr hb))
   have sI:=Lib.hid ((aq w8 w.heap.size (.int .i64 TA) (.int .i64 TB) (.int .i64 TC) (.int .i64 TD) (.int .i64 TE)).row Uj.out sH.out)
   clear Jq D9 Uj YJ
   subst wH
   go_wp2
   have H9:=Lib.hid (Sq.out _ Ki.out sI.out)
   clear Sq Ki sI
   have q0:=Dt.out.cell 0
   have q1:=Dt.out.cell 1
   have q2:=Dt.out.cell 2
   have q3:=Dt.out.cell 3
   have q4:=Dt.out.cell 4
   refine bodyPost_ret (v:=.tuple #[.agg #[.int .i64 TA,.int .i64 TB,.int .i64 TC,.int .i64 TD,.int .i64 TE],.bool true,.int .i64 0]) ?_ rfl ⟨by rw[mE.out],by obtain rfl:=mG.out;rw[L4.out];exact H9.out⟩
   generalize(((((((wr.setCell ⟨x,7,none⟩ (.int .i64 JW)).setCell ⟨w.heap.size,0,none⟩ (.int .i64 TA)).setCell ⟨w.heap.size,1,none⟩ (.int .i64 TB)).setCell ⟨w.heap.size,2,none⟩ (.int .i64 TC)).setCell ⟨w.heap.size,3,none⟩ (.int .i64 TD)).setCell ⟨w.heap.size,4,none⟩ (.int .i64 TE)))=w9 at*
   simp only[List.getElem?_cons_zero,List.getElem?_cons_succ]at q0 q1 q2 q3 q4
   simp[results,Tryz.results52,go_sem,q0,q1,q2,q3,q4]
theorem UP{w:World}{G:Nat→Prop}{p:Wp}{F:Fs}{n x:Nat}{r:Rt}{ws:List Nat}(h:Sys w G p F n)(hok:Fc r F.D.size)(hm:DA w x p r F.D.size ws)(ho:Jo G x r)(Bw:r.pos<r.count)
  {F1:Fs} {n1:Nat} {Gw:List Nat} (EP:F1.D.size=F.D.size) (Du:r.pos%r.h=0) (hB:∀W,Below w.heap.size w W→Calls Tryz.prog 81 #[.pointer (some ⟨x,0,none⟩)] W fun e w'=>e=.returned (.int .i64 0)∧Qs W G p F1 n1 x r Gw w'):
  Calls Tryz.prog 52 #[.pointer (some ⟨x,0,none⟩)] w fun e w'=>e=.returned (.tuple #[.agg #[.int .i64 (CX r Gw).a,.int .i64 (CX r Gw).b,.int .i64 (CX r Gw).c,.int .i64 (CX r Gw).d,.int .i64 (CX r Gw).e],.bool true,.int .i64 0])∧GM w G p F1 n1 x {r with pos:=r.pos+1} Gw w':=by
 obtain⟨hx,EX,Hs⟩:=hm.lt
 obtain⟨a1,a2,a3⟩:=hm.apart
 have hsz:=hok.sz
 have hk:=hok.k
 have hh:=hok.h
 have hct:=hok.count
 have hmod:=Nat.mod_lt r.pos hh.1
 have uC:r.pos%r.h*r.k+r.k≤F.D.size-2:=by
  have h1:(r.pos%r.h+1)*r.k≤r.h*r.k:=Nat.mul_le_mul_right _ hmod
  rw[Nat.add_mul,Nat.one_mul]at h1
  exact Nat.le_trans h1 hh.2.1
 obtain⟨w0,DN⟩:∃w0,w0=w.alloc (.cells #[.int .i64 0,.int .i64 0,.int .i64 0,.int .i64 0,.int .i64 0] 63):=⟨_,rfl⟩
 have hb0:Below w.heap.size w w0:=by rw[DN];exact(Below.refl w.heap.size w).alloc (Nat.le_refl _) _
 have Cz:Row w0 w.heap.size 63 [.int .i64 0,.int .i64 0,.int .i64 0,.int .i64 0,.int .i64 0]:=by rw[DN];exact heap_alloc_new _ _
 have hm0:=hm.below hb0
 have Dv:=CD hm0.row hm0.buf
 rw[decide_eq_true (show 0<F.D.size by omega)]at Dv
 have Ct:Hid (Calls Tryz.prog 79 #[.pointer (some ⟨x,0,none⟩)] (w.alloc (.cells #[.int .i64 0,.int .i64 0,.int .i64 0,.int .i64 0,.int .i64 0] 63)) fun e w'=>e=.returned (.bool (!true))∧w'=w.alloc (.cells #[.int .i64 0,.int .i64 0,.int .i64 0,.int .i64 0,.int .i64 0] 63)):=by rw[DN]at Dv;exact Dv
 have nN:=Lib.hid Cz
 have LK:Hid (¬G w.heap.size):=fun hg=>by have:=h.lt hg;omega
 have Aq:Hid (∀W4 W9,Qs w0 G p F1 n1 x r Gw W4→AK (fun k=>k=x∨k=w.heap.size) W4 W9→Row W9 x 140 (Sv p {r with pos:=r.pos+1})→GM w G p F1 n1 x {r with pos:=r.pos+1} Gw W9):=by
  intro W4 W9 ⟨G4,k1,k2,k3,k4⟩ hf hr
  have v8:¬G4 x:=fun hg=>(k4 x hg).elim ho.x fun h=>by have:=hb0.size;omega
  have fM:¬G4 w.heap.size:=fun hg=>(k4 _ hg).elim LK.out fun h=>by have:=Cz.lt;omega
  have oW:Row W4 w.heap.size 63 [.int .i64 0,.int .i64 0,.int .i64 0,.int .i64 0,.int .i64 0]:=k3.row Cz (by
   rintro(hg|hg)
   ·exact LK.out hg
   ·omega)
  refine⟨G4,k1.Of hf ?_,⟨hr,hf.row k2.buf ?_,hf.row k2.words ?_,k2.len,k2.u64⟩,?_,fun k hk=>(k4 k hk).imp_right fun h=>Nat.le_trans hb0.size h⟩
  ·rintro k (rfl|rfl)
   ·exact⟨v8,fun v hv=>absurd (hv.typed k2.row) (by decide)⟩
   ·exact⟨fM,fun v hv=>absurd (hv.typed oW) (by decide)⟩
  ·rintro(e|e)
   ·exact a1 e.symm
   ·exact absurd e (Nat.ne_of_lt EX)
  ·rintro(e|e)
   ·exact a2 e.symm
   ·exact absurd e (Nat.ne_of_lt Hs)
  ·refine(((AK.AJ hb0 _).trans k3 fun b hb=>hb.elim (fun h=>.inl (.inl h)) fun h=>.inl (.inr (.inl h)))).trans hf ?_
   rintro b (rfl|rfl)
   ·exact .inl (.inr (.inr rfl))
   ·exact .inr (Nat.le_refl _)
 have H0:Hid (Row (w.alloc (.cells #[.int .i64 0,.int .i64 0,.int .i64 0,.int .i64 0,.int .i64 0] 63)) x 140 (Sv p r)):=by rw[←DN];exact hm0.row
 have uB:Int.tmod (r.pos:Int) (r.h:Int)=((r.pos%r.h:Nat):Int):=rfl
 have DO:¬((r.h:Int)=0):=by omega
 have g3:((r.pos:Int)==(r.count:Int))=false:=by simp;omega
 have hp1:(r.pos:Int)+1=((r.pos+1:Nat):Int):=by omega
 have c7:(w.alloc (.cells #[.int .i64 0,.int .i64 0,.int .i64 0,.int .i64 0,.int .i64 0] 63)).cell? ⟨x,7,none⟩=some (.int .i64 r.pos):=H0.out.cell 7
 have c6:(w.alloc (.cells #[.int .i64 0,.int .i64 0,.int .i64 0,.int .i64 0,.int .i64 0] 63)).cell? ⟨x,6,none⟩=some (.int .i64 r.count):=H0.out.cell 6
 have d7:(w.alloc (.cells #[.int .i64 0,.int .i64 0,.int .i64 0,.int .i64 0,.int .i64 0] 63)).drew.cell? ⟨x,7,none⟩=some (.int .i64 r.pos):=H0.out.cell 7
 have d1:(w.alloc (.cells #[.int .i64 0,.int .i64 0,.int .i64 0,.int .i64 0,.int .i64 0] 63)).drew.cell? ⟨x,1,none⟩=some (.int .i64 r.h):=H0.out.cell 1
 have GO:Hid (Below w.heap.size w (w.alloc (.cells #[.int .i64 0,.int .i64 0,.int .i64 0,.int .i64 0,.int .i64 0] 63)).drew.drew):=by rw[←DN];exact AH (AH hb0)
 have g5:(((r.pos%r.h:Nat):Int)==0)=true:=by simp;omega
 have tH:Hid (Calls Tryz.prog 81 #[.pointer (some ⟨x,0,none⟩)] (w.alloc (.cells #[.int .i64 0,.int .i64 0,.int .i64 0,.int .i64 0,.int .i64 0] 63)).drew.drew fun e w'=>e=.returned (.int .i64 0)∧Qs w0 G p F1 n1 x r Gw w'):=(hB _ GO.out).mono fun e w' ⟨h1,G',k1,k2,k3,k4⟩=>
  have L2:Below w0.heap.size w0 (w.alloc (.cells #[.int .i64 0,.int .i64 0,.int .i64 0,.int .i64 0,.int .i64 0] 63)).drew.drew:=by rw[←DN];exact AH (AH (Below.refl _ _))
  ⟨h1,G',k1,k2,(AK.AJ L2 _).trans k3 fun b hb=>.inl hb,fun k hk=>(k4 k hk).imp_right fun h=>Nat.le_trans L2.size h⟩
 clear Dv h hm hm0 hok ho Cz hb0 hB
 go_enter Tryz.func52,Tryz.ntmps52
 go_wp2_with fail
 refine Ct.out.mono ?_;rintro e w1 ⟨rfl,rfl⟩
 go_wp2
 go_region
 go_wp2
 go_region
 go_wp2_with fail
 refine tH.out.mono ?_;rintro e W4 ⟨rfl,aU⟩
 have Uo:=Lib.hid aU
 clear aU tH
 have Sq:Hid (∀W9,AK (fun k=>k=x∨k=w.heap.size) W4 W9→Row W9 x 140 (Sv p {r with pos:=r.pos+1})→GM w G p F1 n1 x {r with pos:=r.pos+1} Gw W9):=fun W9 h1 h2=>Aq.out W4 W9 Uo.out h1 h2
 obtain⟨G4,k1,k2,k3,k4⟩:=Uo.out
 have X4:=Lib.hid k2.row
 have Y4:=Lib.hid k2.buf
 have Z4:=Lib.hid k2.words
 have zF:Hid (Gw.length=F.D.size∧I6 Gw):=⟨k2.len.trans EP,k2.u64⟩
 have R4:Hid (Row W4 w.heap.size 63 [.int .i64 0,.int .i64 0,.int .i64 0,.int .i64 0,.int .i64 0]):=k3.row nN.out (by
  rintro(hg|hg)
  ·exact LK.out hg
  ·omega)
 clear Uo k1 k2 k3 k4 Aq LK G4
 have sW:Hid (∀W,Calls Tryz.prog 68 #[.agg #[.int .i64 r.k,.int .i64 r.h],.slice (some ⟨r.g,0,none⟩) F.D.size F.D.size,.int .i64 r.pos] W fun e w'=>e=.returned (.slice (some ⟨r.g,r.pos%r.h*r.k,none⟩) r.k (F.D.size-r.pos%r.h*r.k))∧Below W.heap.size W w'):=fun W=>QA r.k r.h r.pos r.g F.D.size W hk.1 hk.2 hh.1 hh.2.2 (by omega) (by omega) hsz.2
 have cG:Hid (Bg r.k ((Gw.drop (r.pos%r.h*r.k)).take r.k) r.k=[.int .i64 (CX r Gw).a,.int .i64 (CX r Gw).b,.int .i64 (CX r Gw).c,.int .i64 (CX r Gw).d,.int .i64 (CX r Gw).e]):=LG hk.2 _
 have Lh:Hid (Bg r.k ((Gw.drop (r.pos%r.h*r.k)).take r.k) 0=[.int .i64 0,.int .i64 0,.int .i64 0,.int .i64 0,.int .i64 0]):=Jj _ _
 have cE:Hid (∀i j,j<5→∃v,(Bg r.k ((Gw.drop (r.pos%r.h*r.k)).take r.k) i)[j]?=some v):=fun i j hj=>⟨_,List.getElem?_eq_getElem (show j<(Bg r.k ((Gw.drop (r.pos%r.h*r.k)).take r.k) i).length from hj)⟩
 have sH:Hid (x≠w.heap.size):=by unfold Hid;omega
 have Ns:Hid (∀i,i<r.k→(Bg r.k ((Gw.drop (r.pos%r.h*r.k)).take r.k) i).set i (.int .i64 (IntKind.i64.wrap (((Gw.getD (r.pos%r.h*r.k+i) 0:Nat):Nat):Int)))=Bg r.k ((Gw.drop (r.pos%r.h*r.k)).take r.k) (i+1)):=by
  intro i hi
  rw[←LD hk.2 _ hi]
  congr 4
  rw[List.getD_eq_getElem?_getD,List.getD_eq_getElem?_getD,List.getElem?_take,if_pos hi,List.getElem?_drop]
 generalize L4:GM w G p F1 n1 x {r with pos:=r.pos+1} Gw=EO at*
 replace L4:=Lib.hid L4
 generalize mE:CX r Gw=TU at*
 replace mE:=Lib.hid mE
 generalize Bg r.k ((Gw.drop (r.pos%r.h*r.k)).take r.k)=CC at*
 clear hmod DN Ct H0 c7 c6 d7 d1 GO uB DO g3
 obtain⟨TA,TB,TC,TD,TE⟩:=TU
 obtain⟨k,Ee,first,blocks,count,pos,b,g⟩:=r
 unfold Sv at*
 simp only at*
 generalize pos%Ee*k=off at*
 rw[EP]at*
 generalize F.D.size=size at*
 generalize mG:pos+1=JW at*
 replace mG:=Lib.hid mG
 have DS:=(Below.refl W4.heap.size W4).alloc (Nat.le_refl _) (.cells #[.int .i64 0,.int .i64 0,.int .i64 0,.int .i64 0,.int .i64 0] 63)
 have GQ:Row (W4.alloc (.cells #[.int .i64 0,.int .i64 0,.int .i64 0,.int .i64 0,.int .i64 0] 63)) W4.heap.size 63 [.int .i64 0,.int .i64 0,.int .i64 0,.int .i64 0,.int .i64 0]:=heap_alloc_new _ _
 have bQ:=Lib.hid (X4.out.below DS X4.out.lt)
 have sG:=Lib.hid (Y4.out.below DS Y4.out.lt)
 have k0:∀d os,(Sort.grow (redrawn (W4.alloc (.cells #[.int .i64 0,.int .i64 0,.int .i64 0,.int .i64 0,.int .i64 0] 63)) d) os).cell? ⟨x,0,none⟩=some (.int .i64 k):=cell_regrown (bQ.out.cell 0)
 have k1:∀d os,(Sort.grow (redrawn (W4.alloc (.cells #[.int .i64 0,.int .i64 0,.int .i64 0,.int .i64 0,.int .i64 0] 63)) d) os).cell? ⟨x,1,none⟩=some (.int .i64 Ee):=cell_regrown (bQ.out.cell 1)
 have k7:∀d os,(Sort.grow (redrawn (W4.alloc (.cells #[.int .i64 0,.int .i64 0,.int .i64 0,.int .i64 0,.int .i64 0] 63)) d) os).cell? ⟨x,7,none⟩=some (.int .i64 pos):=cell_regrown (bQ.out.cell 7)
 have k8:∀d os,(Sort.grow (redrawn (W4.alloc (.cells #[.int .i64 0,.int .i64 0,.int .i64 0,.int .i64 0,.int .i64 0] 63)) d) os).cell? ⟨x,8,none⟩=some (.pointer (some ⟨b,0,none⟩)):=cell_regrown (bQ.out.cell 8)
 have kb:∀d os,(Sort.grow (redrawn (W4.alloc (.cells #[.int .i64 0,.int .i64 0,.int .i64 0,.int .i64 0,.int .i64 0] 63)) d) os).cell? ⟨b,0,none⟩=some (.slice (some ⟨g,0,none⟩) size size):=cell_regrown (sG.out.cell 0)
 have Q4:Hid (∀d os,Calls Tryz.prog 68 #[.agg #[.int .i64 k,.int .i64 Ee],.slice (some ⟨g,0,none⟩) size size,.int .i64 pos] (Sort.grow (redrawn (W4.alloc (.cells #[.int .i64 0,.int .i64 0,.int .i64 0,.int .i64 0,.int .i64 0] 63)) d) os) fun e DG=>e=.returned (.slice (some ⟨g,off,none⟩) k (size-off))∧∃p:Regrown,DG=Sort.grow (redrawn (W4.alloc (.cells #[.int .i64 0,.int .i64 0,.int .i64 0,.int .i64 0,.int .i64 0] 63)) p.d) p.os):=fun d os=>Calls.regrown_of (sW.out _)
 have BW:=Lib.hid DS
 have Cc:=Lib.hid GQ
 clear DS GQ sW bQ sG
 go_wp2
 refine wp_region_quiet_below (by kernel_rfl) (by kernel_rfl) ?_
 repeat(any_goals(first|go_big_quiet_step (with_reducible first|exact Q4.out _ _)|quiet_step (with_reducible first|exact Q4.out _ _)))
 refine wpQuiet_nil ?_
 intro w7 VH
 obtain⟨⟨dq,osq⟩,VH⟩:=VH
 have KN:=below_regrown (W4.alloc (.cells #[.int .i64 0,.int .i64 0,.int .i64 0,.int .i64 0,.int .i64 0] 63)) dq osq
 rw[←VH]at KN
 clear VH
 have Vu:=Lib.hid (BW.out.trans (KN.mono BW.out.size))
 have gL:Hid (Row w7 W4.heap.size 63 (CC 0)):=by unfold Hid;rw[Lh.out];exact Cc.out.below KN Cc.out.lt
 clear KN Q4 k0 k1 k7 k8 kb Cc BW Lh
 have p5:=X4.out.lt
 have hgt:=Z4.out.lt
 have EC:=R4.out.lt
 have Qr:Hid (x<W4.heap.size∧g<W4.heap.size∧w.heap.size<W4.heap.size):=⟨p5,hgt,EC⟩
 clear p5 hgt EC
 generalize hT:W4.heap.size=T at*
 go_wp2
 go_loopw [61] (fun iv wr=>∃i:Nat,i≤k∧iv=.int .i64 (i:Int)∧Hid (Below T W4 wr)∧Hid (Row wr T 63 (CC i))) (fun iv _=>k-(intOf iv).toNat)
 case atStart=>exact⟨0,Nat.zero_le _,rfl,Vu.out,gL.out⟩
 case round=>
  obtain⟨i,hi,rfl,HF,De⟩:=hrel
  by_cases hlt:i<k
  ·have KF:=Ns.out i hlt
   have N7:off+i<Gw.length:=by have:=zF.out.1;omega
   have cw:wr.cell? ⟨g,off+i,none⟩=some (.int .u64 (Gw.getD (off+i) 0:Nat)):=by
    rw[(Z4.out.below HF.out Qr.out.2.1).cell (off+i)];exact IS N7
   have oP:i<5:=by omega
   have ct:∃v,wr.cell? ⟨T,i,none⟩=some v:=by
    rw[De.out.cell i]
    exact cE.out i i oP
   obtain⟨v0,ct⟩:=ct
   have fg:=De.out.free i
   have Ea:Hid (Row (wr.setCell ⟨T,i,none⟩ (.int .i64 (IntKind.i64.wrap ((Gw.getD (off+i) 0:Nat):Int)))) T 63 (CC (i+1))):=by
    have h1:=De.out.set i (.int .i64 (IntKind.i64.wrap ((Gw.getD (off+i) 0:Nat):Int)))
    rw[KF]at h1;exact h1
   have Jw:Hid (Below T W4 (wr.setCell ⟨T,i,none⟩ (.int .i64 (IntKind.i64.wrap ((Gw.getD (off+i) 0:Nat):Int))))):=HF.out.setCell (Nat.le_refl _) _
   have NK:(0:Int)≤(i:Int):=by omega
   have lX:(i:Int)<(k:Int):=by omega
   have VQ:(i:Int)<5:=by omega
   clear KF N7 hi
   generalize Gw.getD (off+i) 0=u at*
   obtain⟨z,hz⟩:∃z,IntKind.i64.wrap (u:Int)=z:=⟨_,rfl⟩
   rw[hz]at Ea Jw
   go_wp2
   go_roundw
   case rel=>exact⟨i+1,by omega,by go_num,Jw.out,Ea.out⟩
   case measure=>simp[intOf];omega
  ·obtain rfl:i=k:=by omega
   have MI:=X4.out.below HF.out Qr.out.1
   have c7:wr.cell? ⟨x,7,none⟩=some (.int .i64 pos):=MI.cell 7
   have f7:=MI.free 7
   have ON:=MI.set 7 (.int .i64 JW)
   have T4:Row (wr.setCell ⟨x,7,none⟩ (.int .i64 JW)) T 63 (CC i):=De.out.CU (p:=⟨x,7,none⟩) (fun e=>by have:=Qr.out.1;simp only at e;omega) _
   rw[cG.out]at T4
   have Z3:Row (wr.setCell ⟨x,7,none⟩ (.int .i64 JW)) w.heap.size 63 [.int .i64 0,.int .i64 0,.int .i64 0,.int .i64 0,.int .i64 0]:=(R4.out.below HF.out Qr.out.2.2).CU (p:=⟨x,7,none⟩) (fun e=>sH.out e.symm) (.int .i64 JW)
   have iq:AK (fun k=>k=x∨k=w.heap.size) W4 (wr.setCell ⟨x,7,none⟩ (.int .i64 JW)):=(AK.AJ (by rw[hT];exact HF.out) (fun k=>k=x∨k=w.heap.size)).set (p:=⟨x,7,none⟩) (.inl (.inl rfl)) _
   have Jq:=Lib.hid T4
   have D9:=Lib.hid Z3
   have Uj:=Lib.hid ON
   have YJ:=Lib.hid iq
   clear MI ON T4 Z3 iq De HF
   generalize wH:wr.setCell ⟨x,7,none⟩ (.int .i64 JW)=w8 at Jq D9 Uj YJ
   have t0:w8.cell? ⟨T,0,none⟩=some (.int .i64 TA):=Jq.out.cell 0
   have t1:w8.cell? ⟨T,1,none⟩=some (.int .i64 TB):=Jq.out.cell 1
   have t2:w8.cell? ⟨T,2,none⟩=some (.int .i64 TC):=Jq.out.cell 2
   have t3:w8.cell? ⟨T,3,none⟩=some (.int .i64 TD):=Jq.out.cell 3
   have t4:w8.cell? ⟨T,4,none⟩=some (.int .i64 TE):=Jq.out.cell 4
   have z0:w8.cell? ⟨w.heap.size,0,none⟩=some (.int .i64 0):=D9.out.cell 0
   have z1:w8.cell? ⟨w.heap.size,1,none⟩=some (.int .i64 0):=D9.out.cell 1
   have z2:w8.cell? ⟨w.heap.size,2,none⟩=some (.int .i64 0):=D9.out.cell 2
   have z3:w8.cell? ⟨w.heap.size,3,none⟩=some (.int .i64 0):=D9.out.cell 3
   have z4:w8.cell? ⟨w.heap.size,4,none⟩=some (.int .i64 0):=D9.out.cell 4
   have f0:=D9.out.free 0
   have f1:=D9.out.free 1
   have f2:=D9.out.free 2
   have f3:=D9.out.free 3
   have f4:=D9.out.free 4
   have Dt:=Lib.hid (kH D9.out (.int .i64 TA) (.int .i64 TB) (.int .i64 TC) (.int .i64 TD) (.int .i64 TE))
   have Ki:=Lib.hid (YJ.out.trans (aq w8 w.heap.size (.int .i64 TA) (.int .i64 TB) (.int .i64 TC) (.int .i64 TD) (.int .i64 TE)) fun b hb=>.inl (.inr hb))
   have sI:=Lib.hid ((aq w8 w.heap.size (.int .i64 TA) (.int .i64 TB) (.int .i64 TC) (.int .i64 TD) (.int .i64 TE)).row Uj.out sH.out)
   clear Jq D9 Uj YJ
   subst wH
   go_wp2
   have H9:=Lib.hid (Sq.out _ Ki.out sI.out)
   clear Sq Ki sI
   have q0:=Dt.out.cell 0
   have q1:=Dt.out.cell 1
   have q2:=Dt.out.cell 2
   have q3:=Dt.out.cell 3
   have q4:=Dt.out.cell 4
   refine bodyPost_ret (v:=.tuple #[.agg #[.int .i64 TA,.int .i64 TB,.int .i64 TC,.int .i64 TD,.int .i64 TE],.bool true,.int .i64 0]) ?_ rfl ⟨by rw[mE.out],by obtain rfl:=mG.out;rw[L4.out];exact H9.out⟩
   generalize(((((((wr.setCell ⟨x,7,none⟩ (.int .i64 JW)).setCell ⟨w.heap.size,0,none⟩ (.int .i64 TA)).setCell ⟨w.heap.size,1,none⟩ (.int .i64 TB)).setCell ⟨w.heap.size,2,none⟩ (.int .i64 TC)).setCell ⟨w.heap.size,3,none⟩ (.int .i64 TD)).setCell ⟨w.heap.size,4,none⟩ (.int .i64 TE)))=w9 at*
   simp only[List.getElem?_cons_zero,List.getElem?_cons_succ]at q0 q1 q2 q3 q4
   simp[results,Tryz.results52,go_sem,q0,q1,q2,q3,q4]
def gD(w:World)(G:Nat→Prop)(x:Nat)(p:Wp)(F:Fs)(n:Nat)(r:Rt)(w':World):Prop:=
 ∃G',Sys w' G' p {F with A:=release F.A r.b F.D.size} n∧Pb w' x p r∧AK (fun k=>G k∨k=r.b∨k=r.g) w w'∧∀k,G' k→G k∨w.heap.size≤k
theorem XX{w:World}{G:Nat→Prop}{p:Wp}{F:Fs}{n x:Nat}{r:Rt}{ws:List Nat}(h:Sys w G p F n)(hok:Fc r F.D.size)(hm:DA w x p r F.D.size ws)(ho:Jo G x r)(hst:wordsAt F.A.st r.b=some F.D.size)(Bw:r.pos<r.count)
  {F1:Fs} {n1:Nat} {Gw:List Nat} {er:Int} (he:er≠0) (EP:F1.D.size=F.D.size) (VV:F1.A=F.A) (Du:r.pos%r.h=0) (hB:∀W,Below w.heap.size w W→Calls Tryz.prog 81 #[.pointer (some ⟨x,0,none⟩)] W fun e w'=>e=.returned (.int .i64 er)∧Qs W G p F1 n1 x r Gw w'):
  Calls Tryz.prog 52 #[.pointer (some ⟨x,0,none⟩)] w fun e w'=>e=.returned (.tuple #[.agg #[.int .i64 0,.int .i64 0,.int .i64 0,.int .i64 0,.int .i64 0],.bool false,.int .i64 er])∧gD w G x p F1 n1 r w':=by
 obtain⟨hx,EX,Hs⟩:=hm.lt
 obtain⟨a1,a2,a3⟩:=hm.apart
 have hsz:=hok.sz
 have hk:=hok.k
 have hh:=hok.h
 have hct:=hok.count
 obtain⟨w0,DN⟩:∃w0,w0=w.alloc (.cells #[.int .i64 0,.int .i64 0,.int .i64 0,.int .i64 0,.int .i64 0] 63):=⟨_,rfl⟩
 have hb0:Below w.heap.size w w0:=by rw[DN];exact(Below.refl w.heap.size w).alloc (Nat.le_refl _) _
 have Cz:Row w0 w.heap.size 63 [.int .i64 0,.int .i64 0,.int .i64 0,.int .i64 0,.int .i64 0]:=by rw[DN];exact heap_alloc_new _ _
 have hm0:=hm.below hb0
 have Dv:=CD hm0.row hm0.buf
 rw[decide_eq_true (show 0<F.D.size by omega)]at Dv
 have Ct:Hid (Calls Tryz.prog 79 #[.pointer (some ⟨x,0,none⟩)] (w.alloc (.cells #[.int .i64 0,.int .i64 0,.int .i64 0,.int .i64 0,.int .i64 0] 63)) fun e w'=>e=.returned (.bool (!true))∧w'=w.alloc (.cells #[.int .i64 0,.int .i64 0,.int .i64 0,.int .i64 0,.int .i64 0] 63)):=by rw[DN]at Dv;exact Dv
 have LK:Hid (¬G w.heap.size):=fun hg=>by have:=h.lt hg;omega
 have Xv:Hid (∀W4,Qs w0 G p F1 n1 x r Gw W4→Calls Tryz.prog 51 #[.pointer (some ⟨x,0,none⟩)] W4 fun e w5=>e=.returned (.tuple #[])∧(Row w5 w.heap.size 63 [.int .i64 0,.int .i64 0,.int .i64 0,.int .i64 0,.int .i64 0]∧∀w6,AK (fun k=>k=w.heap.size) w5 w6→gD w G x p F1 n1 r w6)):=by
  intro W4 ⟨G4,k1,k2,k3,k4⟩
  have VK:∀k,k<w.heap.size→¬G k→¬G4 k:=fun k hk hn hg=>(k4 k hg).elim hn fun h=>by have:=hb0.size;omega
  have fM:¬G4 w.heap.size:=fun hg=>(k4 _ hg).elim LK.out fun h=>by have:=Cz.lt;omega
  have oW:Row W4 w.heap.size 63 [.int .i64 0,.int .i64 0,.int .i64 0,.int .i64 0,.int .i64 0]:=k3.row Cz (by
   rintro(hg|hg)
   ·exact LK.out hg
   ·omega)
  refine(Ms k1 k2 ⟨VK x hx ho.x,VK _ EX ho.b,VK _ Hs ho.g⟩ (by rw[VV,EP];exact hst)).mono ?_
  rintro e w5 ⟨rfl,G5,q1,q2,q3,q4⟩
  have hR5:Row w5 w.heap.size 63 [.int .i64 0,.int .i64 0,.int .i64 0,.int .i64 0,.int .i64 0]:=q3.row oW (by
   rintro(hg|hg)
   ·exact fM hg
   ·omega)
  have xq:¬G5 w.heap.size:=fun hg=>(q4 _ hg).elim fM fun h=>by have:=oW.lt;omega
  refine⟨rfl,hR5,fun w6 hf=>⟨G5,q1.Of hf ?_,⟨hf.row q2.1 (by omega),hf.row q2.2 (by omega)⟩,?_,?_⟩⟩
  ·rintro k rfl
   exact⟨xq,fun v hv=>absurd (hv.typed hR5) (by decide)⟩
  ·have f1:AK (fun k=>G k∨k=r.b∨k=r.g) w W4:=(AK.AJ hb0 _).trans k3 fun b hb=>hb.elim (fun h=>.inl (.inl h)) fun h=>.inl (.inr (.inr h))
   have f2:=f1.trans q3 (fun b hb=>by
    rcases hb with hb|hb
    ·exact(k4 b hb).imp (fun h=>.inl h) fun h=>Nat.le_trans hb0.size h
    ·exact .inl (.inr (.inl hb)))
   exact f2.trans hf fun b hb=>.inr (by omega)
  ·intro k hk
   rcases q4 k hk with hg|hg
   ·exact(k4 k hg).imp_right fun h=>Nat.le_trans hb0.size h
   ·exact .inr (by have:=hb0.size;have:=k3.size;omega)
 have H0:Hid (Row (w.alloc (.cells #[.int .i64 0,.int .i64 0,.int .i64 0,.int .i64 0,.int .i64 0] 63)) x 140 (Sv p r)):=by rw[←DN];exact hm0.row
 have uB:Int.tmod (r.pos:Int) (r.h:Int)=((r.pos%r.h:Nat):Int):=rfl
 have DO:¬((r.h:Int)=0):=by omega
 have g3:((r.pos:Int)==(r.count:Int))=false:=by simp;omega
 have c7:(w.alloc (.cells #[.int .i64 0,.int .i64 0,.int .i64 0,.int .i64 0,.int .i64 0] 63)).cell? ⟨x,7,none⟩=some (.int .i64 r.pos):=H0.out.cell 7
 have c6:(w.alloc (.cells #[.int .i64 0,.int .i64 0,.int .i64 0,.int .i64 0,.int .i64 0] 63)).cell? ⟨x,6,none⟩=some (.int .i64 r.count):=H0.out.cell 6
 have d7:(w.alloc (.cells #[.int .i64 0,.int .i64 0,.int .i64 0,.int .i64 0,.int .i64 0] 63)).drew.cell? ⟨x,7,none⟩=some (.int .i64 r.pos):=H0.out.cell 7
 have d1:(w.alloc (.cells #[.int .i64 0,.int .i64 0,.int .i64 0,.int .i64 0,.int .i64 0] 63)).drew.cell? ⟨x,1,none⟩=some (.int .i64 r.h):=H0.out.cell 1
 have GO:Hid (Below w.heap.size w (w.alloc (.cells #[.int .i64 0,.int .i64 0,.int .i64 0,.int .i64 0,.int .i64 0] 63)).drew.drew):=by rw[←DN];exact AH (AH hb0)
 have g5:(((r.pos%r.h:Nat):Int)==0)=true:=by simp;omega
 have ge:(er !=0)=true:=by simpa using he
 have tH:Hid (Calls Tryz.prog 81 #[.pointer (some ⟨x,0,none⟩)] (w.alloc (.cells #[.int .i64 0,.int .i64 0,.int .i64 0,.int .i64 0,.int .i64 0] 63)).drew.drew fun e w'=>e=.returned (.int .i64 er)∧Qs w0 G p F1 n1 x r Gw w'):=(hB _ GO.out).mono fun e w' ⟨h1,G',k1,k2,k3,k4⟩=>
  have L2:Below w0.heap.size w0 (w.alloc (.cells #[.int .i64 0,.int .i64 0,.int .i64 0,.int .i64 0,.int .i64 0] 63)).drew.drew:=by rw[←DN];exact AH (AH (Below.refl _ _))
  ⟨h1,G',k1,k2,(AK.AJ L2 _).trans k3 fun b hb=>.inl hb,fun k hk=>(k4 k hk).imp_right fun h=>Nat.le_trans L2.size h⟩
 generalize gD w G x p F1 n1 r=EO at*
 generalize Qs w0 G p F1 n1 x r Gw=BK at*
 clear Dv h hm hm0 hok ho Cz hb0 hB DN
 go_enter Tryz.func52,Tryz.ntmps52
 go_wp2_with fail
 refine Ct.out.mono ?_;rintro e w1 ⟨rfl,rfl⟩
 go_wp2
 go_region
 go_wp2
 go_region
 go_wp2_with fail
 refine tH.out.mono ?_;rintro e W4 ⟨rfl,aU⟩
 have Uo:=Lib.hid aU
 clear aU tH H0 GO c7 c6 d7 d1 LK
 go_wp2_with fail
 refine(Xv.out W4 Uo.out).mono ?_;rintro e w5 ⟨rfl,GQ,h6⟩
 have Cc:=Lib.hid GQ
 have H6:=Lib.hid h6
 clear GQ h6 Xv Uo
 have z0:=Cc.out.cell 0
 have z1:=Cc.out.cell 1
 have z2:=Cc.out.cell 2
 have z3:=Cc.out.cell 3
 have z4:=Cc.out.cell 4
 have f0:=Cc.out.free 0
 have f1:=Cc.out.free 1
 have f2:=Cc.out.free 2
 have f3:=Cc.out.free 3
 have f4:=Cc.out.free 4
 simp only[List.getElem?_cons_zero,List.getElem?_cons_succ]at z0 z1 z2 z3 z4
 have Dt:=Lib.hid (kH Cc.out (.int .i64 0) (.int .i64 0) (.int .i64 0) (.int .i64 0) (.int .i64 0))
 have Ki:=Lib.hid (aq w5 w.heap.size (.int .i64 0) (.int .i64 0) (.int .i64 0) (.int .i64 0) (.int .i64 0))
 go_wp2
 have H9:=Lib.hid (H6.out _ Ki.out)
 have q0:=Dt.out.cell 0
 have q1:=Dt.out.cell 1
 have q2:=Dt.out.cell 2
 have q3:=Dt.out.cell 3
 have q4:=Dt.out.cell 4
 refine bodyPost_ret (v:=.tuple #[.agg #[.int .i64 0,.int .i64 0,.int .i64 0,.int .i64 0,.int .i64 0],.bool false,.int .i64 er]) ?_ rfl ⟨rfl,H9.out⟩
 simp only[List.getElem?_cons_zero,List.getElem?_cons_succ]at q0 q1 q2 q3 q4
 simp[results,Tryz.results52,go_sem,q0,q1,q2,q3,q4]
theorem XW{w:World}{p:Wp}{sz x:Nat}{r:Rt}{ws:List Nat}(hok:Fc r sz)(hm:DA w x p r sz ws)(Bw:r.pos=r.count):Calls Tryz.prog 52 #[.pointer (some ⟨x,0,none⟩)] w fun e w'=>e=.returned (.tuple #[.agg #[.int .i64 0,.int .i64 0,.int .i64 0,.int .i64 0,.int .i64 0],.bool false,.int .i64 0])∧Below w.heap.size w w':=by
 have hsz:=hok.sz
 have HB:Hid (Below w.heap.size w (w.alloc (.cells #[.int .i64 0,.int .i64 0,.int .i64 0,.int .i64 0,.int .i64 0] 63))):=(Below.refl w.heap.size w).alloc (Nat.le_refl _) _
 have hm0:=hm.below HB.out
 have hc:=CD hm0.row hm0.buf
 rw[decide_eq_true (show 0<sz by omega)]at hc
 have HC:=Lib.hid hc
 have Cz:Row (w.alloc (.cells #[.int .i64 0,.int .i64 0,.int .i64 0,.int .i64 0,.int .i64 0] 63)) w.heap.size 63 [.int .i64 0,.int .i64 0,.int .i64 0,.int .i64 0,.int .i64 0]:=heap_alloc_new _ _
 have HR:=Lib.hid Cz
 have c7:(w.alloc (.cells #[.int .i64 0,.int .i64 0,.int .i64 0,.int .i64 0,.int .i64 0] 63)).cell? ⟨x,7,none⟩=some (.int .i64 r.pos):=hm0.row.cell 7
 have c6:(w.alloc (.cells #[.int .i64 0,.int .i64 0,.int .i64 0,.int .i64 0,.int .i64 0] 63)).cell? ⟨x,6,none⟩=some (.int .i64 r.count):=hm0.row.cell 6
 have g3:((r.pos:Int)==(r.count:Int))=true:=by simp;omega
 clear Cz hc hm hm0 hok Bw
 go_enter Tryz.func52,Tryz.ntmps52
 go_wp2_with fail
 refine HC.out.mono ?_;rintro e w1 ⟨rfl,rfl⟩
 go_wp2
 go_region
 go_wp2
 have q0:=HR.out.cell 0
 have q1:=HR.out.cell 1
 have q2:=HR.out.cell 2
 have q3:=HR.out.cell 3
 have q4:=HR.out.cell 4
 refine bodyPost_ret (v:=.tuple #[.agg #[.int .i64 0,.int .i64 0,.int .i64 0,.int .i64 0,.int .i64 0],.bool false,.int .i64 0]) ?_ rfl ⟨rfl,AH HB.out⟩
 simp only[List.getElem?_cons_zero,List.getElem?_cons_succ]at q0 q1 q2 q3 q4
 simp[results,Tryz.results52,go_sem,q0,q1,q2,q3,q4]
section
variable {w : World} {G : Nat → Prop} {p : Wp} {F : Fs} {n x : Nat} {r : Rt} {ws : List Nat}
theorem XV(h:Sys w G p F n)(hn:n<1000000)(hok:Fc r F.D.size)(hm:DA w x p r F.D.size ws)(ho:Jo G x r)(hst:wordsAt F.A.st r.b=some F.D.size)(Bw:r.pos<r.count)(Du:r.pos%r.h=0)(he:(read F.D ((r.first+r.pos/r.h:Nat):Int)).1≠0):
  Calls Tryz.prog 52 #[.pointer (some ⟨x,0,none⟩)] w fun e w'=>e=.returned (.tuple #[.agg #[.int .i64 0,.int .i64 0,.int .i64 0,.int .i64 0,.int .i64 0],.bool false,.int .i64 (read F.D ((r.first+r.pos/r.h:Nat):Int)).1])∧gD w G x p {F with D:=(read F.D ((r.first+r.pos/r.h:Nat):Int)).2} (n+1) r w':=
 XX h hok hm ho hst Bw (Gw:=ws) he (FH F.D _ 0).2.1 rfl Du fun _ hb=>ZK (h.below hb) hn hok (hm.below hb) ho Bw he
end
structure sB (D:St) (r:Rt) (l:List AB) (ws:List Nat):Prop where
 stands:Az D r.first r.k r.h l (AA r.h r.count)
 cnt:l.length=r.count
 ok:∀t∈l,CQ t∧Ac r.k t=true
 buf:r.pos%r.h≠0→ws.take (min r.h (r.count-r.pos/r.h*r.h)*r.k)=Em r.h r.k l (r.pos/r.h)
section
variable {r : Rt} {l : List AB} {ws : List Nat} {sz : Nat}
theorem Qg(hk:r.k≤5)(hh:0<r.h)(Bw:r.pos<r.count)(hc:l.length=r.count)(hb:ws.take (min r.h (r.count-r.pos/r.h*r.h)*r.k)=Em r.h r.k l (r.pos/r.h)){t:AB}(ht:l[r.pos]?=some t)(hok:CQ t)(hf:Ac r.k t=true):CX r ws=t:=by
 have hm:=Nat.mod_lt r.pos hh
 have lq:=Nat.div_add_mod r.pos r.h
 rw[Nat.mul_comm]at lq
 obtain⟨j,hj⟩:∃j,j=r.pos/r.h:=⟨_,rfl⟩
 rw[←hj]at hb lq
 have hq:r.pos%r.h<min r.h (r.count-j*r.h):=by omega
 have uC:r.pos%r.h*r.k+r.k≤min r.h (r.count-j*r.h)*r.k:=by
  have:=Nat.mul_le_mul_right r.k (show r.pos%r.h+1≤min r.h (r.count-j*r.h)by omega)
  rw[Nat.add_mul,Nat.one_mul]at this;exact this
 have e1:(ws.drop (r.pos%r.h*r.k)).take r.k=((ws.take (min r.h (r.count-j*r.h)*r.k)).drop (r.pos%r.h*r.k)).take r.k:=by
  rw[List.drop_take,List.take_take,Nat.min_eq_left (by omega)]
 unfold CX
 rw[e1,hb]
 unfold Em
 have h2:((l.drop (j*r.h)).take r.h)[r.pos%r.h]?=some t:=by
  rw[List.getElem?_take,if_pos hm,List.getElem?_drop,show j*r.h+r.pos%r.h=r.pos by omega];exact ht
 rw[SX hk h2]
 exact Me hk hok hf
end
def U9(D:St)(r:Rt):St:=if r.pos%r.h=0 then (read D ((r.first+r.pos/r.h:Nat):Int)).2 else D
structure DD (D D':St) (m:Nat):Prop where
 size:D'.size=D.size
 blocks:D'.blocks=D.blocks
 Ab:D'.Ab=D.Ab+m
 calm:Calm D→Calm D'
 alive:D.down=false∧D.fb=false→D'.down=false∧D'.fb=false
theorem DD.refl(D:St):DD D D 0:=⟨rfl,rfl,by simp,id,id⟩
theorem DD.trans{D D1 D2:St}{m n:Nat}(h:DD D D1 m)(k:DD D1 D2 n):DD D D2 (m+n):=
 ⟨k.size.trans h.size,k.blocks.trans h.blocks,by rw[k.Ab,h.Ab];omega,fun hc=>k.calm (h.calm hc),fun ha=>k.alive (h.alive ha)⟩
theorem LO{s:St}{r:Bool}(h:(begin s r).1=0):DD s (begin s r).2 1:=by
 unfold begin at h⊢
 split at h
 ·exact absurd h (by omega)
 ·rename_i h1
  split at h
  ·exact absurd h (by omega)
  ·rename_i h2
   split at h
   ·exact absurd h (by omega)
   ·rename_i h3
    dsimp only at h
    split at h
    ·exact absurd h (by omega)
    ·rename_i h4
     rw[if_neg h1,if_neg h2,if_neg h3]
     dsimp only
     rw[if_neg h4]
     exact⟨rfl,rfl,rfl,fun hc=>⟨hc.1,hc.2.1,hc.2.2⟩,fun ha=>ha⟩
theorem Fj{s:St}{i:Int}{l:List Nat}(h:(write s i l).1=0):DD s (write s i l).2 1:=by
 unfold write at h⊢
 dsimp only at h⊢
 by_cases hb:(begin s (right s i&&decide (l.length=s.size))).1=0
 ·rw[if_pos hb]
  have k:=LO hb
  exact⟨k.size,k.blocks,k.Ab,fun hc=>k.calm hc,fun ha=>k.alive ha⟩
 ·rw[if_neg hb]at h;exact absurd h hb
theorem TH{s:St}{i:Int}(h:(read s i).1=0):DD s (read s i).2 1:=LO h
def Dq(D:St)(t:Wt):Prop:=Az D t.first t.k t.h t.l (t.l.length/t.h)
section
variable {D : St} {t : Wt} {tu : AB}
theorem MV(h:t.l=[]):Dq D t:=by
 intro j hj
 rw[h]at hj;simp at hj
theorem Gb(t:Wt)(tu:AB):(t.snoc tu).l.length=t.l.length+1:=by show (t.l++[tu]).length= _;simp
theorem Fz{c h:Nat}(hh:0<h)(h0:(c+1)%h≠0):(c+1)/h=c/h:=by
 have h1:=Nat.div_add_mod (c+1) h
 have h2:=Nat.div_add_mod c h
 have h3:=Nat.mod_lt (c+1) hh
 have h4:=Nat.mod_lt c hh
 have a1:¬(c+1)/h<c/h:=fun hlt=>by
  have:=Nat.mul_le_mul_left h (show (c+1)/h+1≤c/h from hlt)
  rw[Nat.mul_add,Nat.mul_one]at this;omega
 have a2:¬c/h<(c+1)/h:=fun hlt=>by
  have:=Nat.mul_le_mul_left h (show c/h+1≤(c+1)/h from hlt)
  rw[Nat.mul_add,Nat.mul_one]at this;omega
 omega
theorem Ij{c h:Nat}(_hh:0<h)(h0:(c+1)%h=0):(c+1)/h=c/h+1:=by
 have:=Nat.succ_div_of_mod_eq_zero (a:=c) (b:=h) h0
 exact this
theorem LR{D:St}{first k h m:Nat}{l l':List AB}(hs:Az D first k h l m)(hm:m*h≤l.length):Az D first k h (l++l') m:=by
 intro j hj
 rw[hs j hj,ZO (Nat.le_trans (Nat.mul_le_mul_right h (show j+1≤m from hj)) hm)]
theorem MW(hok:0<t.h)(h:Dq D t)(h0:(t.l.length+1)%t.h≠0):Dq D (t.snoc tu):=by
 unfold Dq
 rw[Gb]
 show Az D t.first t.k t.h (t.l++[tu]) ((t.l.length+1)/t.h)
 rw[Fz hok h0]
 exact LR h (Nat.div_mul_le_self _ _)
theorem LS(hk:0<t.h)(hl:0<t.l.length)(h0:(write D (AV t:Nat) (AT D.size t)).1=0)(hs:Az D t.first t.k t.h t.l (AA t.h t.l.length-1)):Az (write D (AV t:Nat) (AT D.size t)).2 t.first t.k t.h t.l (AA t.h t.l.length):=by
 obtain⟨h1,h2,h3,_⟩:=Ku h0
 have cU:=Bd hk hl
 intro j hj
 by_cases hj2:j=AA t.h t.l.length-1
 ·subst hj2
  show (write D (AV t:Nat) (AT D.size t)).2.now ((AV t:Nat):Int)= _
  rw[h1,h3]
  unfold AT
  rw[ZP hk hl];rfl
 ·rw[h2 _ (by unfold AV;omega),h3];exact hs j (by omega)
theorem MU(hk:0<t.h)(h:Dq D t)(h0:(t.l.length+1)%t.h=0)(hw:(write D (AV (t.snoc tu):Nat) (AT D.size (t.snoc tu))).1=0):Dq (write D (AV (t.snoc tu):Nat) (AT D.size (t.snoc tu))).2 (t.snoc tu):=by
 have hb:AA t.h (t.snoc tu).l.length=(t.snoc tu).l.length/t.h:=by
  rw[Gb];exact EN h0
 unfold Dq
 have:=LS (t:=t.snoc tu) (D:=D) hk (by rw[Gb];omega) hw (by
  show Az D t.first t.k t.h (t.l++[tu]) (AA t.h (t.snoc tu).l.length-1)
  rw[hb,Gb,Ij hk h0,Nat.add_sub_cancel]
  exact LR h (Nat.div_mul_le_self _ _))
 show Az _ t.first t.k t.h (t.snoc tu).l ((t.snoc tu).l.length/t.h)
 rw[←hb];exact this
theorem LL(h:Dq D t)(h0:t.l.length%t.h=0):Az D t.first t.k t.h t.l (AA t.h t.l.length):=by rw[EN h0];exact h
theorem Jx(hk:0<t.h)(h:Dq D t)(h0:t.l.length%t.h≠0)(hw:(write D (AV t:Nat) (AT D.size t)).1=0):Az (write D (AV t:Nat) (AT D.size t)).2 t.first t.k t.h t.l (AA t.h t.l.length):=by
 have hl:0<t.l.length:=by
  rcases Nat.eq_zero_or_pos t.l.length with h1|h1
  ·rw[h1]at h0;simp at h0
  ·exact h1
 refine LS hk hl hw ?_
 have:AA t.h t.l.length-1=t.l.length/t.h:=by unfold AA;rw[if_pos (by omega),Nat.add_sub_cancel]
 rw[this];exact h
theorem QI(hok:B8 t D.size)(hl:0<t.l.length):t.first≤AV t∧AV t<t.first+t.blocks:=by
 have h1:=Bd hok.h.1 hl
 have h2:=Am (h:=t.h) hok.h.1 hok.bound.2
 have h3:=hok.blocks.1
 unfold AV;omega
theorem JZ(hok:B8 t D.size)(hl:0<t.l.length)(OR:((t.first+t.blocks:Nat):Int)≤D.blocks):right D (AV t:Nat)=true:=by
 have:=QI hok hl
 unfold right;simp;omega
theorem M7(hok:B8 t D.size)(hl:0<t.l.length):(AT D.size t).length=D.size:=by
 have hsz:=hok.sz
 have h1:=(Ix (l:=t.l) hok.h.1 hl).1
 unfold AT
 refine IM ?_ (by omega)
 rw[Gj hok.k.2]
 exact Nat.le_trans (Nat.mul_le_mul_right _ h1) hok.h.2.1
end
theorem DV:∀(l:List (Nat×Nat)) (x n:Nat),(∀q∈l,q.1≠x)→wordsAt (l++[(x,n)]) x=some n
 |[],x,n,_=>by simp[wordsAt]
 |q::l,x,n,h=>by
  have h1:=h q List.mem_cons_self
  have h2:=DV l x n fun q hq=>h q (List.mem_cons_of_mem _ hq)
  simp[wordsAt,h1,h2]
theorem TQ{S S1:Sp}{a m:Nat}(h:S.ok)(ht:Gq S S1 a m):At S1 a m=S:=by
 rcases ht with⟨rfl,rfl,rfl⟩|⟨hm,ht,_⟩
 ·rfl
 ·unfold At;rw[if_neg (by omega)];exact PG hm h ht
theorem UK(S:Sp)(a:Nat):At S a 0=S:=rfl
theorem Yb{S S1:Sp}{a m:Nat}(h:S.ok)(ht:Gq S S1 a m):a+m≤S.first+S.blocks∨(m=0∧a=0):=by
 rcases ht with⟨rfl,rfl,rfl⟩|⟨hm,ht,_⟩
 ·exact .inr ⟨rfl,rfl⟩
 ·exact .inl (Ux hm h ht).1
def IE(F:Fs)(S1:Sp)(b:Nat)(D':St):Fs:=⟨D',Bo F.A b F.D.size,S1⟩
def LI(F:Fs)(S':Sp)(b:Nat)(D':St):Fs:=⟨D',release (Bo F.A b F.D.size) b F.D.size,S'⟩
theorem QH{F:Fs}{S':Sp}{b:Nat}{D':St}:∀q∈(LI F S' b D').A.st,q∈F.A.st∨q.1=b:=by
 intro q hq
 have h1:q∈F.A.st++[(b,F.D.size)]:=DW _ _ _ hq
 rcases List.mem_append.1 h1 with h2|h2
 ·exact .inl h2
 ·simp only[List.mem_singleton]at h2;subst h2;exact .inr rfl
def tk(t:Wt)(l:List AB)(i:Nat):Wt:={t with l:=l.take i}
theorem G7{t:Wt}{l:List AB}{i:Nat}{tu:AB}(h:l[i]?=some tu):(tk t l i).snoc tu=tk t l (i+1):=by
 unfold tk Wt.snoc
 simp only
 rw[List.take_add_one,h];rfl
theorem GD{t:Wt}{l:List AB}{i:Nat}(h:i≤l.length):(tk t l i).l.length=i:=by unfold tk;simp;omega
def Np(w:World)(G:Nat→Prop)(p:Wp)(F:Fs)(n x:Nat)(t:Wt)(S1:Sp)(l:List AB)(i:Nat)(wr:World):Prop:=
 ∃G' D',Sys wr G' p (IE F S1 t.b D') (n+i)∧JJ wr x p (tk t l i) F.D.size∧OV G' x (tk t l i)∧AK G w wr∧(∀k,G' k→G k∨w.heap.size≤k)∧DD F.D D' (i/t.h)∧Dq D' (tk t l i)∧∀u∈l.take i,Ac t.k u=true
def KZ(w:World)(G:Nat→Prop)(p:Wp)(F:Fs)(n:Nat)(t:Wt)(l:List AB)(er:Int)(wr:World):Prop:=
 er≠0∧∃D1 m i ws,DD F.D D1 m∧er=(write D1 i ws).1∧(((t.first+t.blocks:Nat):Int)≤F.D.blocks→right D1 i=true)∧ws.length=D1.size∧AQ w G p (LI F F.S t.b (write D1 i ws).2) (n+l.length+1) wr
def bO(w:World)(G:Nat→Prop)(p:Wp)(F:Fs)(n:Nat)(t:Wt)(l:List AB)(er:Int)(wr:World):Prop:=
 er=1∧(∃u∈l,Ac t.k u=false)∧∃D' m,DD F.D D' m∧AQ w G p (LI F F.S t.b D') (n+l.length+1) wr
def MS(w:World)(G:Nat→Prop)(p:Wp)(F:Fs)(n:Nat)(t:Wt)(S1:Sp)(l:List AB)(wr:World):Prop:=
 (∀u∈l,Ac t.k u=true)∧∃D',DD F.D D' t.blocks∧Az D' t.first t.k t.h l t.blocks∧AQ w G p (LI F S1 t.b D') (n+l.length+1) wr
structure Gr (w:World) (F:Fs) (n x:Nat) (t:Wt) (S1:Sp) (l:List AB):Prop where
 n:n+l.length+1≤1000000
 U1:F.S.ok
 taken:Gq F.S S1 t.first t.blocks
 blocks:t.blocks=AA t.h l.length
 ok:B8 t F.D.size
 bound:t.bound=l.length
 x:w.heap.size≤x
 b:w.heap.size≤t.b
 g:w.heap.size≤t.g
 st:∀q∈F.A.st,q.1<w.heap.size
section
variable {w wr : World} {G : Nat → Prop} {p : Wp} {F : Fs} {n x : Nat} {t : Wt} {S1 : Sp} {l : List AB} {i : Nat}
theorem Gr.tk(hk:Gr w F n x t S1 l){i:Nat}(hi:i≤l.length):B8 (tk t l i) F.D.size:=⟨hk.ok.k,hk.ok.h,hk.ok.sz,⟨hk.ok.bound.1,by rw[GD hi];show i≤t.bound;rw[hk.bound];exact hi⟩,hk.ok.blocks,hk.ok.first⟩
theorem Gr.words(hk:Gr w F n x t S1 l)(D':St):wordsAt (IE F S1 t.b D').A.st t.b=some F.D.size:=
 DV _ _ _ fun q hq e=>by have:=hk.st q hq;have:=hk.b;omega
theorem Gr.mV(hk:Gr w F n x t S1 l){D':St}(hs:D'.size=F.D.size)(i:Nat):Dx (IE F S1 t.b D') (Go.Proofs.YteldegofbbfaeaaGreat.tk t l i) 0=LI F F.S t.b D':=by
 have h:=TQ hk.U1 hk.taken
 unfold Dx IE LI Go.Proofs.YteldegofbbfaeaaGreat.tk
 simp only[hs,Nat.add_zero,Nat.sub_zero,h]
theorem Gr.ay(hk:Gr w F n x t S1 l){D':St}(hs:D'.size=F.D.size)(i:Nat):Dx (IE F S1 t.b D') (Go.Proofs.YteldegofbbfaeaaGreat.tk t l i) (AA t.h l.length)=LI F S1 t.b D':=by
 unfold Dx IE LI Go.Proofs.YteldegofbbfaeaaGreat.tk
 simp only[hs,hk.blocks,Nat.sub_self,UK]
theorem R6(hk:Gr w F n x t S1 l){D1:St}{m j:Nat}(hD:DD F.D D1 m)(hj:j≤l.length)(NK:0<j)(he:(write D1 (AV (Go.Proofs.YteldegofbbfaeaaGreat.tk t l j):Nat) (AT D1.size (Go.Proofs.YteldegofbbfaeaaGreat.tk t l j))).1≠0)
  (hs:AQ w G p (LI F F.S t.b (write D1 (AV (Go.Proofs.YteldegofbbfaeaaGreat.tk t l j):Nat) (AT D1.size (Go.Proofs.YteldegofbbfaeaaGreat.tk t l j))).2) (n+l.length+1) wr):
  KZ w G p F n t l (write D1 (AV (Go.Proofs.YteldegofbbfaeaaGreat.tk t l j):Nat) (AT D1.size (Go.Proofs.YteldegofbbfaeaaGreat.tk t l j))).1 wr:=by
 have hok:=hk.tk hj
 rw[←hD.size]at hok
 exact⟨he,D1,m,_,_,hD,rfl,fun OR=>JZ hok (by rw[GD hj];exact NK) (by rw[hD.blocks];exact OR),M7 hok (by rw[GD hj];exact NK),hs⟩
theorem eO(hk:Gr w F n x t S1 l)(h:Np w G p F n x t S1 l i wr)(hi:i<l.length){tu:AB}(htu:l[i]?=some tu){W:World}(hb:Below wr.heap.size wr W):
  Calls Tryz.prog 39 #[.pointer (some ⟨x,0,none⟩),.agg #[.int .i64 tu.a,.int .i64 tu.b,.int .i64 tu.c,.int .i64 tu.d,.int .i64 tu.e]] W fun e w'=>∃er:Int,e=.returned (.int .i64 er)∧
   ((er=1∧(∃u∈l,Ac t.k u=false)∧Np w G p F n x t S1 l i w')∨(er=0∧Np w G p F n x t S1 l (i+1) w')∨(KZ w G p F n t l er w'∧∃l',Hv w' x p {t with l:=l'})):=by
 obtain⟨G',D',h1,⟨ws,h2,yB⟩,h3,h4,h5,h6,h7,h8⟩:=h
 have hok:=hk.tk (show i≤l.length by omega)
 have hlen:=GD (t:=t) (show i≤l.length by omega)
 have s1:=h1.below hb
 have m1:=h2.below hb
 have UD:(IE F S1 t.b D').D.size=F.D.size:=h6.size
 have hn:=hk.n
 rw[←UD]at hok m1
 have hmem:tu∈l:=List.mem_of_getElem? htu
 rcases hf:Ac t.k tu with _| _
 ·refine(TK s1 hok m1 tu hf).mono ?_
  rintro e w' ⟨rfl,hb'⟩
  have m2:=m1.below hb'
  rw[UD]at m2
  refine⟨1,rfl,.inl ⟨rfl,⟨tu,hmem,hf⟩,G',D',s1.below hb',⟨ws,m2,yB⟩,h3,?_,h5,h6,h7,h8⟩⟩
  exact(h4.trans (AK.AJ hb fun _=>False) fun _ hf=>hf.elim).trans (AK.AJ hb' fun _=>False) fun _ hf=>hf.elim
 ·refine(Ur s1 hok m1 (by omega) ⟨h3.x,h3.b,h3.g⟩ (by rw[UD];exact hk.words D') yB tu hf (by rw[hlen];show i<t.bound;rw[hk.bound];exact hi)).mono ?_
  intro e w' wg
  have hW:AK G w W:=h4.trans (AK.AJ hb fun _=>False) fun _ hf=>hf.elim
  have KK:∀w',AK (fun k=>G' k∨k=x∨k=t.g∨k=t.b) W w'→AK G w w':=fun w' hf=>hW.trans hf fun k Ep=>by
   rcases Ep with Ep|rfl|rfl|rfl
   ·exact h5 k Ep
   ·exact .inr hk.x
   ·exact .inr hk.g
   ·exact .inr hk.b
  have L3:∀u∈l.take (i+1),Ac t.k u=true:=by
   intro u hu
   rw[List.take_add_one,htu]at hu
   rcases List.mem_append.1 hu with hu|hu
   ·exact h8 u hu
   ·simp at hu;subst hu;exact hf
  have hlt:x<W.heap.size∧t.b<W.heap.size∧t.g<W.heap.size:=m1.lt
  have aG:∀Cu:Nat→Prop,(∀k,Cu k→G' k∨W.heap.size≤k)→OV Cu x (Go.Proofs.YteldegofbbfaeaaGreat.tk t l (i+1)):=fun Cu hs=>
   ⟨fun hg=>(hs _ hg).elim h3.x (Nat.not_le_of_lt hlt.1),fun hg=>(hs _ hg).elim h3.b (Nat.not_le_of_lt hlt.2.1),fun hg=>(hs _ hg).elim h3.g (Nat.not_le_of_lt hlt.2.2)⟩
  have GL:∀Cu:Nat→Prop,(∀k,Cu k→G' k∨W.heap.size≤k)→∀k,Cu k→G k∨w.heap.size≤k:=fun Cu hs k hg=>(hs k hg).elim (fun h=>h5 k h) fun h=>.inr (Nat.le_trans hW.size h)
  rcases wg with⟨hno,_⟩|⟨_,aM,_⟩|⟨_,Fw,⟨hm,rfl,Cu,k1,k2,k3,k4⟩|⟨hm,DN,rfl,Cu,k1,k2,k3,k4⟩|⟨hm,DN,rfl,Cu,k1,k2,k3,k4⟩⟩
  ·rw[show Ac (Go.Proofs.YteldegofbbfaeaaGreat.tk t l i).k tu=Ac t.k tu from rfl,hf]at hno;cases hno
  ·rw[hlen]at aM;have:i=t.bound:=aM;rw[hk.bound]at this;omega
  ·rw[hlen]at hm
   rw[G7 htu]at k2
   rw[UD]at k2
   have iG:=MW (tu:=tu) hok.h.1 h7 (by rw[hlen];exact hm)
   rw[G7 htu]at iG
   refine⟨0,rfl,.inr (.inl ⟨rfl,Cu,D',k1.mono (by omega) (by omega),k2,aG _ k4,KK w' (k3.mono fun k hk=>?_),GL _ k4,?_,iG,L3⟩)⟩
   ·rcases hk with h|h|h
    ·exact .inl h
    ·exact .inr (.inl h)
    ·exact .inr (.inr (.inl h))
   ·rw[Fz (show 0<t.h from hok.h.1) (show (i+1)%t.h≠0 from hm)];exact h6
  ·rw[hlen]at hm
   rw[G7 htu]at k2 DN k1
   rw[UD]at k2 DN k1
   have e1:D'.size=F.D.size:=h6.size
   have iG:=MU (tu:=tu) (D:=D') hok.h.1 h7 (by rw[hlen];exact hm) (by rw[G7 htu,e1];exact DN)
   rw[G7 htu,e1]at iG
   have Ja:DD D' (write D' (AV (Go.Proofs.YteldegofbbfaeaaGreat.tk t l (i+1)):Nat) (AT F.D.size (Go.Proofs.YteldegofbbfaeaaGreat.tk t l (i+1)))).2 1:=Fj DN
   refine⟨0,rfl,.inr (.inl ⟨rfl,Cu,(write D' (AV (Go.Proofs.YteldegofbbfaeaaGreat.tk t l (i+1)):Nat) (AT F.D.size (Go.Proofs.YteldegofbbfaeaaGreat.tk t l (i+1)))).2,k1,?_,aG _ k4,KK w' (k3.mono fun k hk=>?_),GL _ k4,?_,iG,L3⟩)⟩
   ·have e2:(write D' (AV (Go.Proofs.YteldegofbbfaeaaGreat.tk t l (i+1)):Nat) (AT F.D.size (Go.Proofs.YteldegofbbfaeaaGreat.tk t l (i+1)))).2.size=F.D.size:=Ja.size.trans e1
    rw[←e2];exact k2
   ·rcases hk with h|h|h
    ·exact .inl h
    ·exact .inr (.inl h)
    ·exact .inr (.inr (.inl h))
   ·rw[Ij (show 0<t.h from hok.h.1) (show (i+1)%t.h=0 from hm)];exact h6.trans Ja
  ·rw[hlen]at hm
   rw[G7 htu]at k2 DN k1⊢
   have e1:D'.size=F.D.size:=h6.size
   have iS:Sys w' Cu p (LI F F.S t.b (write D' (AV (Go.Proofs.YteldegofbbfaeaaGreat.tk t l (i+1)):Nat) (AT D'.size (Go.Proofs.YteldegofbbfaeaaGreat.tk t l (i+1)))).2) (n+i+1):=by
    have e3:=hk.mV (D':=(write D' (AV (Go.Proofs.YteldegofbbfaeaaGreat.tk t l (i+1)):Nat) (AT D'.size (Go.Proofs.YteldegofbbfaeaaGreat.tk t l (i+1)))).2) ((EG _ _ _).1.trans e1) (i+1)
    rw[←e3];exact k1
   refine⟨_,rfl,.inr (.inr ⟨R6 hk h6 (show i+1≤l.length by omega) (by omega) DN ⟨Cu,iS.mono (by omega) (by omega),KK w' (k3.mono fun k hk=>?_),GL _ k4⟩,l.take (i+1),k2⟩)⟩
   exact hk
theorem Ze(u:FrameMode){w1:World}(hk:Gr w F n x t S1 l)(h:Np w G p F n x t S1 l i wr)(hi:i≤l.length)(hb0:Below w1.heap.size w1 w)(hG:∀k,G k→k<w1.heap.size){R:Nat}(hR1:w1.heap.size≤R)(hR2:R<w.heap.size){cs:List Value}(hRr:Row wr R 39 cs){W:World}(hf:AK (fun k=>k=R) wr W){fj:List Value}(hRW:Row W R 39 fj):
  CallsD Tryz.prog 38 #[.pointer (some ⟨x,0,none⟩)] u W fun e u' w'=>u'=u∧(e=.returned (.tuple #[])∧Row w' R 39 fj∧∃D' m,DD F.D D' m∧AQ w1 G p (LI F F.S t.b D') (n+l.length+1) w'):=by
 obtain⟨G',D',h1,⟨ws,h2,yB⟩,h3,h4,h5,h6,h7,h8⟩:=h
 have hxR:x≠R:=by have:=hk.x;omega
 have hbR:t.b≠R:=by have:=hk.b;omega
 have hgR:t.g≠R:=by have:=hk.g;omega
 have fM:¬G' R:=fun hg=>(h5 R hg).elim (fun h=>by have:=hG R h;omega) fun h=>by omega
 have s1:Sys W G' p (IE F S1 t.b D') (n+i):=h1.Of hf fun k Ep=>by
  subst Ep
  exact⟨fM,fun v hv=>absurd (hv.typed hRr) (by decide)⟩
 have m1:Gp W x p (Go.Proofs.YteldegofbbfaeaaGreat.tk t l i) F.D.size ws:=h2.CU hf hxR hbR hgR
 have UD:(IE F S1 t.b D').D.size=F.D.size:=h6.size
 have hn:=hk.n
 have hok:=hk.tk hi
 have hsz:=hok.sz
 have hst:wordsAt (IE F S1 t.b D').A.st (Go.Proofs.YteldegofbbfaeaaGreat.tk t l i).b=some (IE F S1 t.b D').D.size:=by rw[UD];exact hk.words D'
 refine(Ob u s1 m1.row m1.buf (by omega) h3.x hst m1.apart.1 hok.first hok.blocks.2).mono ?_
 rintro e u' w' ⟨rfl,rfl,Cu,k1,k2,k3,k4⟩
 refine⟨rfl,rfl,k2.row hRW (by rintro(hg|hg);exact fM hg;exact hbR hg.symm),D',_,h6,Cu,?_,?_,?_⟩
 ·rw[hk.mV (D':=D') UD]at k1
  exact k1.mono (by omega) (by omega)
 ·refine((((AK.AJ hb0 G).trans h4 fun b hb=>.inl hb).trans hf fun b hb=>.inr (by omega))).trans k2 ?_
  rintro k (Ep|rfl)
  ·exact(h5 k Ep).imp_right fun h=>Nat.le_trans hb0.size h
  ·exact .inr (Nat.le_trans hb0.size hk.b)
 ·intro k Ep
  rcases k3 k Ep with h|h
  ·exact(h5 k h).imp_right fun h=>Nat.le_trans hb0.size h
  ·exact .inr (Nat.le_trans (Nat.le_trans (Nat.le_trans hb0.size h4.size) hf.size) h)
theorem Wv(hk:Gr w F n x t S1 l)(h:Np w G p F n x t S1 l l.length wr):
  Calls Tryz.prog 40 #[.pointer (some ⟨x,0,none⟩)] wr fun e w'=>∃(er:Int) (f1 f2 f3 f4:Nat),e=.returned (.tuple #[Cq f1 f2 f3 f4,.int .i64 er])∧(∃l',Hv w' x p {t with l:=l'})∧
   ((er=0∧(f1=t.first∧f2=t.blocks∧f3=t.k∧f4=l.length)∧MS w G p F n t S1 l w')∨((f1=0∧f2=0∧f3=0∧f4=0)∧KZ w G p F n t l er w')):=by
 obtain⟨G',D',h1,h2,h3,h4,h5,h6,h7,h8⟩:=h
 have hok:=hk.tk (Nat.le_refl l.length)
 have hlen:=GD (t:=t) (Nat.le_refl l.length)
 have MJ:(Go.Proofs.YteldegofbbfaeaaGreat.tk t l l.length).l=l:=List.take_length
 have UD:(IE F S1 t.b D').D.size=F.D.size:=h6.size
 have hn:=hk.n
 have hst:wordsAt (IE F S1 t.b D').A.st (Go.Proofs.YteldegofbbfaeaaGreat.tk t l l.length).b=some (IE F S1 t.b D').D.size:=by rw[UD];exact hk.words D'
 have KJ:Af (Go.Proofs.YteldegofbbfaeaaGreat.tk t l l.length)=t.first:=by
  unfold Af
  rw[hlen]
  by_cases h0:l.length=0
  ·rw[if_pos h0]
   rcases hk.taken with⟨_,ha,_⟩|⟨hm,_⟩
   ·exact ha.symm
   ·rw[hk.blocks,h0,Aw]at hm;omega
  ·rw[if_neg h0];rfl
 have L3:∀u∈l,Ac t.k u=true:=fun u hu=>h8 u (by rw[List.take_length];exact hu)
 have KK:∀w',AK (fun k=>G' k∨k=x∨k=t.g∨k=t.b) wr w'→AK G w w':=fun w' hf=>h4.trans hf fun k Ep=>by
  rcases Ep with Ep|rfl|rfl|rfl
  ·exact h5 k Ep
  ·exact .inr hk.x
  ·exact .inr hk.g
  ·exact .inr hk.b
 have GL:∀Cu:Nat→Prop,(∀k,Cu k→G' k∨wr.heap.size≤k)→∀k,Cu k→G k∨w.heap.size≤k:=fun Cu hs k hg=>(hs k hg).elim (fun h=>h5 k h) fun h=>.inr (Nat.le_trans h4.size h)
 rw[←UD]at hok h2
 refine(Mc h1 (by omega) hok h2 ⟨h3.x,h3.b,h3.g⟩ hst).mono ?_
 intro e w' Dv
 have e1:D'.size=F.D.size:=h6.size
 rcases Dv with⟨hm,rfl,Cu,k1,k2,k3,k4⟩|⟨hm,DN,rfl,Cu,k1,k2,k3,k4⟩|⟨hm,DN,rfl,Cu,k1,k2,k3,k4⟩
 ·refine⟨0,_,_,_,_,rfl,⟨_,k2⟩,.inl ⟨rfl,⟨KJ,?_,rfl,hlen⟩,L3,D',?_,?_,Cu,?_,KK w' k3,GL _ k4⟩⟩
  ·rw[hlen,hk.blocks];rfl
  ·rw[hlen]at hm
   have:t.blocks=l.length/t.h:=by rw[hk.blocks];exact EN hm
   rw[this];exact h6
  ·have:=LL h7 hm
   rw[hlen]at this
   rw[hk.blocks]
   rw[MJ]at this
   exact this
  ·have e3:=hk.ay (D':=D') UD l.length
   rw[←e3]
   have e4:AA (Go.Proofs.YteldegofbbfaeaaGreat.tk t l l.length).h (Go.Proofs.YteldegofbbfaeaaGreat.tk t l l.length).l.length=AA t.h l.length:=by rw[hlen];rfl
   rw[←e4]
   exact k1.mono (by omega) (by omega)
 ·have Ja:=Fj DN
  have e2:(IE F S1 t.b D').D=D':=rfl
  rw[e2]at DN Ja k1
  refine⟨0,_,_,_,_,rfl,⟨_,k2⟩,.inl ⟨rfl,⟨KJ,?_,rfl,hlen⟩,L3,(write D' (AV (Go.Proofs.YteldegofbbfaeaaGreat.tk t l l.length):Nat) (AT D'.size (Go.Proofs.YteldegofbbfaeaaGreat.tk t l l.length))).2,?_,?_,Cu,?_,KK w' k3,GL _ k4⟩⟩
  ·rw[hlen,hk.blocks];rfl
  ·rw[hlen]at hm
   have hm':l.length%t.h≠0:=hm
   have:t.blocks=l.length/t.h+1:=by rw[hk.blocks];unfold AA;rw[if_pos (by omega)]
   rw[this];exact h6.trans Ja
  ·have:=Jx hok.h.1 h7 hm DN
   rw[hlen,MJ]at this
   rw[hk.blocks]
   exact this
  ·have e3:=hk.ay (D':=(write D' (AV (Go.Proofs.YteldegofbbfaeaaGreat.tk t l l.length):Nat) (AT D'.size (Go.Proofs.YteldegofbbfaeaaGreat.tk t l l.length))).2) (Ja.size.trans e1) l.length
   rw[←e3]
   have e4:AA (Go.Proofs.YteldegofbbfaeaaGreat.tk t l l.length).h (Go.Proofs.YteldegofbbfaeaaGreat.tk t l l.length).l.length=AA t.h l.length:=by rw[hlen];rfl
   rw[←e4]
   exact k1.mono (by omega) (by omega)
 ·have e2:(IE F S1 t.b D').D=D':=rfl
  rw[e2]at DN k1⊢
  have Jc:0<l.length:=by
   rcases Nat.eq_zero_or_pos l.length with h0|h0
   ·rw[hlen,h0]at hm;simp at hm
   ·exact h0
  refine⟨_,0,0,0,0,rfl,⟨_,k2⟩,.inr ⟨⟨rfl,rfl,rfl,rfl⟩,R6 hk h6 (Nat.le_refl _) Jc DN ⟨Cu,?_,KK w' k3,GL _ k4⟩⟩⟩
  have e3:=hk.mV (D':=(write D' (AV (Go.Proofs.YteldegofbbfaeaaGreat.tk t l l.length):Nat) (AT D'.size (Go.Proofs.YteldegofbbfaeaaGreat.tk t l l.length))).2) ((EG _ _ _).1.trans e1) l.length
  rw[←e3]
  exact k1.mono (by omega) (by omega)
end
def bP(w:World)(G:Nat→Prop)(p:Wp)(F:Fs)(n:Nat)(width:Int)(l:List AB)(e:Ending)(w':World):Prop:=
  (∃ er,e=.returned (.tuple #[Cq 0 0 0 0,.int .i64 er])∧mo F width (l.length:Int) er∧AQ w G p F n w')∨
  (∃ t S1,(FX F width (l.length:Int)∧F.D.size≤F.A.room-F.A.used∧(t.k:Int)=width∧t.h=AE F.D.size width∧t.blocks=AA t.h l.length∧Gq F.S S1 t.first t.blocks∧t.first≤2000000∧∀q∈F.A.st,q.1≠t.b)∧
    ((∃ er,e=.returned (.tuple #[Cq 0 0 0 0,.int .i64 er])∧bO w G p F n t l er w')∨(∃er,e=.returned (.tuple #[Cq 0 0 0 0,.int .i64 er])∧KZ w G p F n t l er w')∨
     (e=.returned (.tuple #[Cq t.first t.blocks t.k l.length,.int .i64 0])∧MS w G p F n t S1 l w')))
section
variable {w w0 wr : World} {G : Nat → Prop} {p : Wp} {F : Fs} {n x : Nat} {t : Wt} {S1 : Sp} {l : List AB}
theorem VC{F':Fs}{n' R:Nat}{w3:World}(h:AQ w0 G p F' n' wr)(hb0:Below w.heap.size w w0)(hG:∀k,G k→k<w.heap.size)(hR1:w.heap.size≤R)(hR2:R<w0.heap.size)(hst:∀q∈F'.A.st,q.1≠R)(hf:AK (fun k=>k=R) wr w3):AQ w G p F' n' w3:=h.own hb0 hR1 hR2 hG hst hf
end
theorem ah{w:World}{G:Nat→Prop}{p:Wp}{F:Fs}{n:Nat}(h:Sys w G p F n)(width:Int){A:Option Addr}{m c:Nat}{l:List AB}(hl:BH w w.heap.size A m l)(uH:0<m→∀b off,A=some ⟨b,off,none⟩→¬G b)(hn:n+l.length+1≤1000000):
  Calls Tryz.prog 15 #[.pointer (some ⟨p.w,0,none⟩),.int .i64 width,.slice A m c] w (bP w G p F n width l):=by
 obtain⟨w0,DN⟩:∃w0,w0=w.alloc (.cells #[.int .i64 0,.int .i64 0,.int .i64 0,.int .i64 0] 39):=⟨_,rfl⟩
 have hb0:Below w.heap.size w w0:=by rw[DN];exact(Below.refl w.heap.size w).alloc (Nat.le_refl _) _
 have Cz:Row w0 w.heap.size 39 [.int .i64 0,.int .i64 0,.int .i64 0,.int .i64 0]:=by rw[DN];exact heap_alloc_new _ _
 have hlen:=hl.1
 have HG:Hid (∀k,G k→k<w.heap.size):=fun k hk=>h.lt hk
 have p7:Calls Tryz.prog 37 #[.pointer (some ⟨p.w,0,none⟩),.int .i64 width,.int .i64 m] (w.alloc (.cells #[.int .i64 0,.int .i64 0,.int .i64 0,.int .i64 0] 39)) (Vk w0 G p F n width (m:Int)):=by rw[←DN];exact NU (h.below hb0) width (m:Int)
 have m8:=Lib.hid p7
 have GO:Hid (Below w.heap.size w w0):=hb0
 have Gy:Hid (Row w0 w.heap.size 39 [.int .i64 0,.int .i64 0,.int .i64 0,.int .i64 0]):=Cz
 have Ea:Hid (∀q∈F.A.st,q.1<w.heap.size):=fun q hq=>(h.buf hq).1.lt
 have yg:=Lib.hid h.U1
 have uv:Hid (BH w0 w.heap.size A m l):=hl.CL hb0
 have HLG:=Lib.hid uH
 have bg:Hid (¬G w.heap.size):=fun hg=>by have:=HG.out _ hg;omega
 have HN:=Lib.hid hn
 have Ew:=Lib.hid hlen
 clear p7 hl uH hn hb0 Cz h DN
 subst hlen
 generalize L4:bP w G p F n width l=EO at*
 replace L4:=Lib.hid L4
 go_enter_defers Tryz.func15,Tryz.ntmps15
 go_wp2_with fail
 refine m8.out.mono ?_
 rintro e w1 (⟨er,rfl,wD,EP⟩|⟨x,t,S1,rfl,X9,JE,QN,ep,oG,Zw,eo,YA,hok,hN⟩)
 ·have Dr:Hid (Row w1 w.heap.size 39 [.int .i64 0,.int .i64 0,.int .i64 0,.int .i64 0]):=EP.row Gy.out bg.out
  have bS:=Lib.hid EP
  have HWE:=Lib.hid wD
  clear EP wD m8
  have XL:(er !=0)=true:=by
   rcases HWE.out with⟨rfl,_⟩|⟨rfl,_⟩|⟨rfl,_⟩<;>rfl
  have z0:w1.cell? ⟨w.heap.size,0,none⟩=some (.int .i64 0):=Dr.out.cell 0
  have z1:w1.cell? ⟨w.heap.size,1,none⟩=some (.int .i64 0):=Dr.out.cell 1
  have z2:w1.cell? ⟨w.heap.size,2,none⟩=some (.int .i64 0):=Dr.out.cell 2
  have z3:w1.cell? ⟨w.heap.size,3,none⟩=some (.int .i64 0):=Dr.out.cell 3
  have f0:=Dr.out.free 0
  have f1:=Dr.out.free 1
  have f2:=Dr.out.free 2
  have f3:=Dr.out.free 3
  go_wp2
  have Dt:Hid (Row ((((w1.setCell ⟨w.heap.size,0,none⟩ (.int .i64 0)).setCell ⟨w.heap.size,1,none⟩ (.int .i64 0)).setCell ⟨w.heap.size,2,none⟩ (.int .i64 0)).setCell ⟨w.heap.size,3,none⟩ (.int .i64 0)) w.heap.size 39 [.int .i64 0,.int .i64 0,.int .i64 0,.int .i64 0]):=(((Dr.out.set 0 (.int .i64 0)).set 1 (.int .i64 0)).set 2 (.int .i64 0)).set 3 (.int .i64 0)
  have Ki:=Lib.hid (AK.four w1 w.heap.size (.int .i64 0) (.int .i64 0) (.int .i64 0) (.int .i64 0))
  have r0:=Dt.out.cell 0
  have r1:=Dt.out.cell 1
  have r2:=Dt.out.cell 2
  have r3:=Dt.out.cell 3
  simp only[List.getElem?_cons_zero,List.getElem?_cons_succ]at r0 r1 r2 r3
  exact⟨.tuple #[.agg #[.int .i64 0,.int .i64 0,.int .i64 0,.int .i64 0],.int .i64 er],by simp[results,Tryz.results15,go_sem,r0,r1,r2,r3],by rw[←L4.out];exact .inl ⟨er,rfl,HWE.out,VC bS.out GO.out HG.out (Nat.le_refl _) Gy.out.lt (fun q hq=>Nat.ne_of_lt (Ea.out q hq)) Ki.out⟩⟩
 ·obtain⟨k1,k2,k3,G1,k4,k5,k6,k7,k8⟩:=hN
  have hwp:=hok.h.1
  have hlb:l.length≤1000000:=by have:=HN.out;omega
  have KR:t.bound=l.length:=by omega
  have FY:Hid (Gr w0 F n x t S1 l):=⟨HN.out,yg.out,YA,by rw[eo,KR],hok,KR,k1,k2,k3,fun q hq=>Nat.lt_of_lt_of_le (Ea.out q hq) GO.out.size⟩
  have gH:Hid (FX F width (l.length:Int)∧F.D.size≤F.A.room-F.A.used∧(t.k:Int)=width∧t.h=AE F.D.size width∧t.blocks=AA t.h l.length∧Gq F.S S1 t.first t.blocks∧t.first≤2000000∧∀q∈F.A.st,q.1≠t.b):=⟨X9,JE,QN,oG,by rw[eo,KR],YA,hok.first,fun q hq e=>by have:=Ea.out q hq;have:=GO.out.size;omega⟩
  have zS:Hid (Np w0 G p F n x t S1 l 0 w1):=by
   refine⟨G1,F.D,k4,?_,⟨k6.x,k6.b,k6.g⟩,k7,k8,?_,MV (by unfold tk;simp),by simp⟩
   ·have e:tk t l 0=t:=by unfold tk;rw[List.take_zero,←Zw]
    rw[e];exact k5
   ·rw[Nat.zero_div];exact DD.refl _
  have Aq:Hid (∀(F':Fs) (n':Nat) w8 w9,(∀q∈F'.A.st,q∈F.A.st∨q.1=t.b)→AQ w0 G p F' n' w8→AK (fun k=>k=w.heap.size) w8 w9→AQ w G p F' n' w9):=fun F' n' w8 w9 hst hs hf=>VC hs GO.out HG.out (Nat.le_refl _) Gy.out.lt (fun q hq e=>by
   rcases hst q hq with h|h
   ·have:=Ea.out q h;omega
   ·have:=Gy.out.lt;omega) hf
  clear X9 JE QN oG hwp eo YA hok k1 k2 k3 k4 k5 k6 k7 k8 m8 KR Zw ep
  go_wp2_with fail
  go_loopw [28] (fun iv wr=>∃i:Nat,i≤l.length∧iv=.int .i64 (i:Int)∧Hid (Np w0 G p F n x t S1 l i wr)) (fun iv _=>l.length-(intOf iv).toNat)
  case atStart=>exact⟨0,Nat.zero_le _,rfl,zS.out⟩
  case round=>
   obtain⟨i,hi,rfl,JO⟩:=hrel
   by_cases hlt:i<l.length
   ·have iX:AK G w0 wr:=by obtain⟨_,_,_,_,_,h,_⟩:=JO.out;exact h
    obtain⟨bb,off,tu,rfl,IB,q0,q1,q2,q3,q4,_,htu⟩:=(uv.out.CU GO.out.size iX fun hm b off e=>HLG.out hm b off e).at_ hlt
    have CA:(0:Int)≤(i:Int):=by omega
    have XK:(i:Int)<(l.length:Int):=by omega
    have g0:decide ((i:Int)<(l.length:Int))=true:=by simpa using hlt
    have OY:=Lib.hid (eO FY.out JO.out hlt htu.out ((Below.refl wr.heap.size wr).alloc (Nat.le_refl _) (.cells #[.int .i64 tu.a,.int .i64 tu.b,.int .i64 tu.c,.int .i64 tu.d,.int .i64 tu.e] 63)))
    clear iX
    obtain⟨ta,tb,tc,td,te⟩:=tu
    simp only at q0 q1 q2 q3 q4 OY
    go_wp2_with fail
    refine OY.out.mono ?_
    rintro e w5 ⟨er,rfl,⟨rfl,hno,Bp⟩|⟨rfl,Bp⟩|⟨rC,l',Z1,Z0⟩⟩
    ·have iX:AK G w0 w5:=by obtain⟨_,_,_,_,_,h,_⟩:=Bp;exact h
     have Cc:Hid (Row w5 w.heap.size 39 [.int .i64 0,.int .i64 0,.int .i64 0,.int .i64 0]):=iX.row Gy.out bg.out
     have Su:=Lib.hid Bp
     have Kh:=Lib.hid hno
     clear iX Bp hno OY q0 q1 q2 q3 q4 JO
     have z0:w5.cell? ⟨w.heap.size,0,none⟩=some (.int .i64 0):=Cc.out.cell 0
     have z1:w5.cell? ⟨w.heap.size,1,none⟩=some (.int .i64 0):=Cc.out.cell 1
     have z2:w5.cell? ⟨w.heap.size,2,none⟩=some (.int .i64 0):=Cc.out.cell 2
     have z3:w5.cell? ⟨w.heap.size,3,none⟩=some (.int .i64 0):=Cc.out.cell 3
     have f0:=Cc.out.free 0
     have f1:=Cc.out.free 1
     have f2:=Cc.out.free 2
     have f3:=Cc.out.free 3
     have Dt:Hid (Row ((((w5.setCell ⟨w.heap.size,0,none⟩ (.int .i64 0)).setCell ⟨w.heap.size,1,none⟩ (.int .i64 0)).setCell ⟨w.heap.size,2,none⟩ (.int .i64 0)).setCell ⟨w.heap.size,3,none⟩ (.int .i64 0)) w.heap.size 39 [.int .i64 0,.int .i64 0,.int .i64 0,.int .i64 0]):=(((Cc.out.set 0 (.int .i64 0)).set 1 (.int .i64 0)).set 2 (.int .i64 0)).set 3 (.int .i64 0)
     have Ki:=Lib.hid (AK.four w5 w.heap.size (.int .i64 0) (.int .i64 0) (.int .i64 0) (.int .i64 0))
     have jg:=fun u=>Ze u FY.out Su.out (Nat.le_of_lt hlt) GO.out HG.out (Nat.le_refl _) Gy.out.lt Cc.out Ki.out Dt.out
     replace jg:=Lib.hid jg
     clear Su Dt Ki
     go_wp2
     refine leaves_cons (f:=38) (args:=#[.pointer (some ⟨x,0,none⟩)]) (by simp) (by simp[go_sem]) ?_
     refine(jg.out _).mono ?_
     rintro e u' DG ⟨rfl,rfl,N5,D',m,hw9,hs9⟩
     have gM:=Lib.hid N5
     have cC:Hid (EO (.returned (.tuple #[.agg #[.int .i64 0,.int .i64 0,.int .i64 0,.int .i64 0],.int .i64 1])) DG):=by rw[←L4.out];exact .inr ⟨t,S1,gH.out,.inl ⟨1,rfl,rfl,Kh.out,D',m,hw9,hs9⟩⟩
     have r0:=gM.out.cell 0
     have r1:=gM.out.cell 1
     have r2:=gM.out.cell 2
     have r3:=gM.out.cell 3
     simp only[List.getElem?_cons_zero,List.getElem?_cons_succ]at r0 r1 r2 r3
     exact⟨.tuple #[.agg #[.int .i64 0,.int .i64 0,.int .i64 0,.int .i64 0],.int .i64 1],by simp[results,Tryz.results15,go_sem,r0,r1,r2,r3],cC.out⟩
    ·have Su:=Lib.hid Bp
     clear Bp OY q0 q1 q2 q3 q4 JO
     go_wp2
     go_roundw
     case rel=>exact⟨i+1,by omega,by go_num,Su.out⟩
     case measure=>simp[intOf];omega
    ·obtain⟨hne,D1,m,j,ws,e1,e2,e3,e4,Qw⟩:=rC
     have Cc:Hid (Row w5 w.heap.size 39 [.int .i64 0,.int .i64 0,.int .i64 0,.int .i64 0]):=Qw.row Gy.out bg.out
     have XL:(er !=0)=true:=by simpa using hne
     have z0:w5.cell? ⟨w.heap.size,0,none⟩=some (.int .i64 0):=Cc.out.cell 0
     have z1:w5.cell? ⟨w.heap.size,1,none⟩=some (.int .i64 0):=Cc.out.cell 1
     have z2:w5.cell? ⟨w.heap.size,2,none⟩=some (.int .i64 0):=Cc.out.cell 2
     have z3:w5.cell? ⟨w.heap.size,3,none⟩=some (.int .i64 0):=Cc.out.cell 3
     have f0:=Cc.out.free 0
     have f1:=Cc.out.free 1
     have f2:=Cc.out.free 2
     have f3:=Cc.out.free 3
     have Dt:Hid (Row ((((w5.setCell ⟨w.heap.size,0,none⟩ (.int .i64 0)).setCell ⟨w.heap.size,1,none⟩ (.int .i64 0)).setCell ⟨w.heap.size,2,none⟩ (.int .i64 0)).setCell ⟨w.heap.size,3,none⟩ (.int .i64 0)) w.heap.size 39 [.int .i64 0,.int .i64 0,.int .i64 0,.int .i64 0]):=(((Cc.out.set 0 (.int .i64 0)).set 1 (.int .i64 0)).set 2 (.int .i64 0)).set 3 (.int .i64 0)
     have Ki:=Lib.hid (AK.four w5 w.heap.size (.int .i64 0) (.int .i64 0) (.int .i64 0) (.int .i64 0))
     have uj:=Lib.hid (Aq.out _ _ _ _ QH Qw Ki.out)
     have cC:Hid (EO (.returned (.tuple #[.agg #[.int .i64 0,.int .i64 0,.int .i64 0,.int .i64 0],.int .i64 er])) ((((w5.setCell ⟨w.heap.size,0,none⟩ (.int .i64 0)).setCell ⟨w.heap.size,1,none⟩ (.int .i64 0)).setCell ⟨w.heap.size,2,none⟩ (.int .i64 0)).setCell ⟨w.heap.size,3,none⟩ (.int .i64 0))):=by rw[←L4.out];exact .inr ⟨t,S1,gH.out,.inr (.inl ⟨er,rfl,hne,D1,m,j,ws,e1,e2,e3,e4,uj.out⟩)⟩
     have iI:Hid (Row ((((w5.setCell ⟨w.heap.size,0,none⟩ (.int .i64 0)).setCell ⟨w.heap.size,1,none⟩ (.int .i64 0)).setCell ⟨w.heap.size,2,none⟩ (.int .i64 0)).setCell ⟨w.heap.size,3,none⟩ (.int .i64 0)) x 122 (RB p {t with l:=l'}))∧Hid (Row ((((w5.setCell ⟨w.heap.size,0,none⟩ (.int .i64 0)).setCell ⟨w.heap.size,1,none⟩ (.int .i64 0)).setCell ⟨w.heap.size,2,none⟩ (.int .i64 0)).setCell ⟨w.heap.size,3,none⟩ (.int .i64 0)) t.b 126 [.slice none 0 0]):=⟨Ki.out.row Z1 (fun e=>by have:=FY.out.x;have:=Gy.out.lt;omega),Ki.out.row Z0 (fun e=>by have:=FY.out.b;have:=Gy.out.lt;omega)⟩
     clear hne e1 e2 e3 e4 Qw uj Ki Z1 Z0 OY q0 q1 q2 q3 q4 JO
     go_wp2
     refine leaves_cons (f:=38) (args:=#[.pointer (some ⟨x,0,none⟩)]) (by simp) (by simp[go_sem]) ?_
     refine(E9 _ (iI.1.out) (iI.2.out)).mono ?_
     rintro e u' DG ⟨rfl,rfl,rfl⟩
     have r0:=Dt.out.cell 0
     have r1:=Dt.out.cell 1
     have r2:=Dt.out.cell 2
     have r3:=Dt.out.cell 3
     simp only[List.getElem?_cons_zero,List.getElem?_cons_succ]at r0 r1 r2 r3
     exact⟨.tuple #[.agg #[.int .i64 0,.int .i64 0,.int .i64 0,.int .i64 0],.int .i64 er],by simp[results,Tryz.results15,go_sem,r0,r1,r2,r3],cC.out⟩
   ·obtain rfl:i=l.length:=by omega
    have g0:decide ((l.length:Int)<(l.length:Int))=false:=by simp
    have Ct:=Lib.hid (Wv FY.out JO.out)
    unfold Cq at Ct
    clear JO
    go_wp2_with fail
    refine Ct.out.mono ?_
    rintro e w5 ⟨er,x1,x2,x3,x4,rfl,⟨l',Z1,Z0⟩,aT⟩
    have Qw:Row w5 w.heap.size 39 [.int .i64 0,.int .i64 0,.int .i64 0,.int .i64 0]:=by
     rcases aT with⟨_,_,_,_,_,_,h⟩|⟨_,_,_,_,_,_,_,_,_,_,h⟩
     ·exact h.row Gy.out bg.out
     ·exact h.row Gy.out bg.out
    have Cc:=Lib.hid Qw
    have z0:w5.cell? ⟨w.heap.size,0,none⟩=some (.int .i64 0):=Cc.out.cell 0
    have z1:w5.cell? ⟨w.heap.size,1,none⟩=some (.int .i64 0):=Cc.out.cell 1
    have z2:w5.cell? ⟨w.heap.size,2,none⟩=some (.int .i64 0):=Cc.out.cell 2
    have z3:w5.cell? ⟨w.heap.size,3,none⟩=some (.int .i64 0):=Cc.out.cell 3
    have f0:=Cc.out.free 0
    have f1:=Cc.out.free 1
    have f2:=Cc.out.free 2
    have f3:=Cc.out.free 3
    have Dt:Hid (Row ((((w5.setCell ⟨w.heap.size,0,none⟩ (.int .i64 x1)).setCell ⟨w.heap.size,1,none⟩ (.int .i64 x2)).setCell ⟨w.heap.size,2,none⟩ (.int .i64 x3)).setCell ⟨w.heap.size,3,none⟩ (.int .i64 x4)) w.heap.size 39 [.int .i64 x1,.int .i64 x2,.int .i64 x3,.int .i64 x4]):=(((Cc.out.set 0 (.int .i64 x1)).set 1 (.int .i64 x2)).set 2 (.int .i64 x3)).set 3 (.int .i64 x4)
    have Ki:=Lib.hid (AK.four w5 w.heap.size (.int .i64 x1) (.int .i64 x2) (.int .i64 x3) (.int .i64 x4))
    have cC:Hid (EO (.returned (.tuple #[.agg #[.int .i64 x1,.int .i64 x2,.int .i64 x3,.int .i64 x4],.int .i64 er])) ((((w5.setCell ⟨w.heap.size,0,none⟩ (.int .i64 x1)).setCell ⟨w.heap.size,1,none⟩ (.int .i64 x2)).setCell ⟨w.heap.size,2,none⟩ (.int .i64 x3)).setCell ⟨w.heap.size,3,none⟩ (.int .i64 x4))):=by
     rw[←L4.out]
     rcases aT with⟨rfl,⟨rfl,rfl,rfl,rfl⟩,e1,D',e2,e3,e4⟩|⟨⟨rfl,rfl,rfl,rfl⟩,hne,D1,m,j,ws,e1,e2,e3,e4,e5⟩
     ·exact .inr ⟨t,S1,gH.out,.inr (.inr ⟨rfl,e1,D',e2,e3,Aq.out _ _ _ _ QH e4 Ki.out⟩)⟩
     ·exact .inr ⟨t,S1,gH.out,.inr (.inl ⟨er,rfl,hne,D1,m,j,ws,e1,e2,e3,e4,Aq.out _ _ _ _ QH e5 Ki.out⟩)⟩
    have iI:Hid (Row ((((w5.setCell ⟨w.heap.size,0,none⟩ (.int .i64 x1)).setCell ⟨w.heap.size,1,none⟩ (.int .i64 x2)).setCell ⟨w.heap.size,2,none⟩ (.int .i64 x3)).setCell ⟨w.heap.size,3,none⟩ (.int .i64 x4)) x 122 (RB p {t with l:=l'}))∧Hid (Row ((((w5.setCell ⟨w.heap.size,0,none⟩ (.int .i64 x1)).setCell ⟨w.heap.size,1,none⟩ (.int .i64 x2)).setCell ⟨w.heap.size,2,none⟩ (.int .i64 x3)).setCell ⟨w.heap.size,3,none⟩ (.int .i64 x4)) t.b 126 [.slice none 0 0]):=⟨Ki.out.row Z1 (fun e=>by have:=FY.out.x;have:=Gy.out.lt;omega),Ki.out.row Z0 (fun e=>by have:=FY.out.b;have:=Gy.out.lt;omega)⟩
    clear aT Qw Ki Z1 Z0 Ct
    go_wp2
    refine leaves_cons (f:=38) (args:=#[.pointer (some ⟨x,0,none⟩)]) (by simp) (by simp[go_sem]) ?_
    refine(E9 _ (iI.1.out) (iI.2.out)).mono ?_
    rintro e u' DG ⟨rfl,rfl,rfl⟩
    have r0:=Dt.out.cell 0
    have r1:=Dt.out.cell 1
    have r2:=Dt.out.cell 2
    have r3:=Dt.out.cell 3
    simp only[List.getElem?_cons_zero,List.getElem?_cons_succ]at r0 r1 r2 r3
    exact⟨.tuple #[.agg #[.int .i64 x1,.int .i64 x2,.int .i64 x3,.int .i64 x4],.int .i64 er],by simp[results,Tryz.results15,go_sem,r0,r1,r2,r3],cC.out⟩
def tr(r:Rt)(i:Nat):Rt:={r with pos:=i}
def bN(w:World)(G:Nat→Prop)(p:Wp)(F:Fs)(n x:Nat)(r:Rt)(l:List AB)(base pos cnt:Nat)(v:Value)(wr:World):Prop:=
 ∃G' D' ws,Sys wr G' p (IE F F.S r.b D') (n+pos)∧DA wr x p (tr r pos) F.D.size ws∧Jo G' x (tr r pos)∧AK G w wr∧(∀k,G' k→G k∨w.heap.size≤k)∧DD F.D D' (AA r.h pos)∧(∀i,D'.now i=F.D.now i)∧sB D' (tr r pos) l ws∧
  wr.ownsRow base 63 5 v cnt (Bj (l.take cnt))∧(∀k,v.ownBlock=some k→¬G' k)∧base≤wr.heap.size
structure Vm (w:World) (F:Fs) (n x:Nat) (r:Rt) (l:List AB) (base:Nat):Prop where
 n:n+r.count+1≤1000000
 ok:Fc {r with pos:=0} F.D.size
 blocks:r.blocks=AA r.h r.count
 hx:w.heap.size≤x
 hb:w.heap.size≤r.b
 hg:w.heap.size≤r.g
 st:∀q∈F.A.st,q.1<w.heap.size
 Hu:x<base∧r.b<base∧r.g<base
section
variable {w wr : World} {G : Nat → Prop} {p : Wp} {F : Fs} {n x : Nat} {r : Rt} {l : List AB} {base pos cnt : Nat} {v : Value}
theorem Vm.at_(hk:Vm w F n x r l base)(hp:pos≤r.count):Fc (tr r pos) F.D.size:=⟨hk.ok.k,hk.ok.h,hk.ok.sz,⟨hk.ok.count.1,hp⟩,hk.ok.first⟩
theorem Vm.words(hk:Vm w F n x r l base)(D':St):wordsAt (IE F F.S r.b D').A.st r.b=some F.D.size:=
 DV _ _ _ fun q hq e=>by have:=hk.st q hq;have:=hk.hb;omega
theorem bN.below(h:bN w G p F n x r l base pos cnt v wr){W:World}(hb:Below wr.heap.size wr W):bN w G p F n x r l base pos cnt v W:=by
 obtain⟨G',D',ws,h1,h2,h3,h4,h5,h6,h7,h8,h9,ID,OT⟩:=h
 exact⟨G',D',ws,h1.below hb,h2.below hb,h3,h4.trans (AK.AJ hb fun _=>False) fun _ hf=>hf.elim,h5,h6,h7,h8,Ks h9 hb,ID,Nat.le_trans OT hb.size⟩
theorem Lf{h i:Nat}(hh:0<h):AA h (i+1)=if i%h=0 then AA h i+1 else AA h i:=by
 have h1:=(Le (c:=i) hh).2.2
 have h2:=Bd (c:=i+1) hh (by omega)
 by_cases h0:i%h=0
 ·rw[if_pos h0,EN h0];omega
 ·rw[if_neg h0]
  unfold AA at h1 h2⊢
  rw[if_pos (show 0<i%h by omega)]
  omega
end
def sliceLen:Value→Nat
 |.slice _ n _=>n
 | _=>0
theorem ZS{w:World}{base n:Nat}{v:Value}{l:List AB}(h:w.ownsRow base 63 5 v n (Bj l)):sliceLen v=n:=by
 obtain⟨_,h2⟩:=h
 rcases h2 with⟨rfl,rfl⟩|⟨g,cap,cur,rfl,_⟩<;>rfl
theorem Xm(b j:Nat):(⟨b,0,none⟩:Addr).add j=⟨b,j,none⟩:=by unfold Addr.add;split<;>simp_all
theorem ju{wd wa ws:World}{d a s n:Nat}{D:St}{A:Ar}{S:Sp}{Gd Ga Gs:Nat→Prop}(hd:Gu wd Gd d D n)(Aj:Below wd.heap.size wd wa)(ha:Ez wa Ga a A)(hga:∀k,Ga k→wd.heap.size≤k)(hst:A.st=[])(AX:Below wa.heap.size wa ws)(hs:EZ ws Gs s S)(iV:∀k,Gs k→wa.heap.size≤k):
  Sys (ws.alloc (.cells #[ptr d,ptr a,ptr s] 70)) (fun k=>k=ws.heap.size∨Gd k∨Ga k∨Gs k) ⟨ws.heap.size,d,a,s⟩ ⟨D,A,S⟩ n:=by
 have A9:Below ws.heap.size ws (ws.alloc (.cells #[ptr d,ptr a,ptr s] 70)):=(Below.refl _ _).alloc (Nat.le_refl _) _
 have z1:=Aj.size
 have z2:=AX.size
 refine⟨Gd,Ga,Gs,heap_alloc_new _ _,((hd.below Aj).below (AX.mono (Nat.le_refl _))).below A9,?_,?_,fun k=>Iff.rfl,fun k hk=>⟨fun h=>?_,fun h=>?_,fun h=>?_⟩,fun k hk=>⟨fun h=>?_,fun h=>?_⟩,fun k hk h=>?_,fun q hq=>?_⟩
 ·exact(ha.CU (AK.AJ AX fun _=>False) (fun _ _ h=>h) (fun _ _ h=>h)).CU (AK.AJ A9 fun _=>False) (fun _ _ h=>h) (fun _ _ h=>h)
 ·exact hs.below A9
 ·have:=hd.lt hk;have:=hga k h;omega
 ·have:=hd.lt hk;have:=iV k h;omega
 ·have:=hd.lt hk;simp only at h;omega
 ·have:=ha.lt hk;have:=iV k h;omega
 ·have:=ha.lt hk;simp only at h;omega
 ·have:=hs.lt hk;simp only at h;omega
 ·rw[show (⟨D,A,S⟩:Fs).A.st=[]from hst]at hq;cases hq
theorem Yd{w:World}{G:Nat→Prop}{p:Wp}{F:Fs}{n:Nat}(h:Sys w G p F n)(f m:Nat)(hf:f≤100000000)(hm:m≤100000000):
  Calls Tryz.prog 78 #[.pointer (some ⟨p.s,0,none⟩),.int .i64 f,.int .i64 m] w fun e w'=>e=.returned (.int .i64 ((CO F.S f m).2:Nat))∧AQ w G p {F with S:=(CO F.S f m).1} n w':=by
 obtain⟨Gs,hs,Ef⟩:=h.pR
 exact(SR p.s F.S Gs f m w hs (Ff.of (by omega) (by omega)) (Ff.of (by omega) (by omega))).mono fun e w' ⟨he,h1⟩=>⟨he,Ef _ _ h1⟩
theorem PO{w:World}{G:Nat→Prop}{p:Wp}{F:Fs}{n:Nat}(h:Sys w G p F n)(f m k c:Nat)(hf:f≤100000000)(hm:m≤100000000):
  Calls Tryz.prog 49 #[.pointer (some ⟨p.w,0,none⟩),.agg #[.int .i64 f,.int .i64 m,.int .i64 k,.int .i64 c]] w fun e w'=>e=.returned (.int .i64 (if m=0 then 0 else (CO F.S f m).2:Nat))∧AQ w G p {F with S:=At F.S f m} n w':=by
 have hb:=(Below.refl w.heap.size w).alloc (Nat.le_refl _) (.cells #[.int .i64 f,.int .i64 m,.int .i64 k,.int .i64 c] 39)
 have Cz:Row (w.alloc (.cells #[.int .i64 f,.int .i64 m,.int .i64 k,.int .i64 c] 39)) w.heap.size 39 [.int .i64 f,.int .i64 m,.int .i64 k,.int .i64 c]:=heap_alloc_new _ _
 by_cases hm0:m=0
 ·subst hm0
  have c1:(w.alloc (.cells #[.int .i64 f,.int .i64 (0:Nat),.int .i64 k,.int .i64 c] 39)).cell? ⟨w.heap.size,1,none⟩=some (.int .i64 (0:Nat)):=Cz.cell 1
  have HP:Hid (AQ w G p {F with S:=At F.S f 0} n (w.alloc (.cells #[.int .i64 f,.int .i64 (0:Nat),.int .i64 k,.int .i64 c] 39))):=AQ.AJ h hb
  clear Cz hb h
  generalize AQ w G p {F with S:=At F.S f 0} n=EO at*
  go_enter Tryz.func49,Tryz.ntmps49
  go_wp2
  go_ret
  exact⟨rfl,HP.out⟩
 ·have HB:=Lib.hid hb
  have nY:Hid (Calls Tryz.prog 78 #[.pointer (some ⟨p.s,0,none⟩),.int .i64 f,.int .i64 m] (w.alloc (.cells #[.int .i64 f,.int .i64 m,.int .i64 k,.int .i64 c] 39)).drew fun e w'=>e=.returned (.int .i64 ((CO F.S f m).2:Nat))∧AQ w G p {F with S:=At F.S f m} n w'∧(w'.cell? ⟨w.heap.size,0,none⟩=some (.int .i64 f)∧w'.cell? ⟨w.heap.size,1,none⟩=some (.int .i64 m)∧w'.cell? ⟨p.w,2,none⟩=some (.pointer (some ⟨p.s,0,none⟩)))):=by
   have e:At F.S f m=(CO F.S f m).1:=by unfold At;rw[if_neg hm0]
   rw[e]
   exact(Yd (h.below (AH hb)) f m hf hm).mono fun e w' ⟨h1,h2⟩=>by
    have hr:=h2.row (Cz.drewN 1) (fun hg=>by have:=h.lt hg;omega)
    exact⟨h1,h2.behind (AH hb),hr.cell 0,hr.cell 1,h2.cell.2.2⟩
  have c0:(w.alloc (.cells #[.int .i64 f,.int .i64 m,.int .i64 k,.int .i64 c] 39)).drew.cell? ⟨w.heap.size,0,none⟩=some (.int .i64 f):=Cz.cell 0
  have c1:(w.alloc (.cells #[.int .i64 f,.int .i64 m,.int .i64 k,.int .i64 c] 39)).cell? ⟨w.heap.size,1,none⟩=some (.int .i64 m):=Cz.cell 1
  have d1:(w.alloc (.cells #[.int .i64 f,.int .i64 m,.int .i64 k,.int .i64 c] 39)).drew.cell? ⟨w.heap.size,1,none⟩=some (.int .i64 m):=Cz.cell 1
  have c2:(w.alloc (.cells #[.int .i64 f,.int .i64 m,.int .i64 k,.int .i64 c] 39)).drew.cell? ⟨p.w,2,none⟩=some (.pointer (some ⟨p.s,0,none⟩)):=(h.below hb).row.cell 2
  have g1:((m:Int)==0)=false:=by simp;omega
  rw[if_neg hm0]
  clear Cz hb h
  generalize AQ w G p {F with S:=At F.S f m} n=EO at*
  generalize(CO F.S f m).2=er at*
  go_enter Tryz.func49,Tryz.ntmps49
  go_wp2
  go_region_held3 (fun w'=>w'.cell? ⟨w.heap.size,0,none⟩=some (.int .i64 f)∧w'.cell? ⟨w.heap.size,1,none⟩=some (.int .i64 m)∧w'.cell? ⟨p.w,2,none⟩=some (.pointer (some ⟨p.s,0,none⟩))) (first|with_reducible exact⟨c0,d1,c2⟩|with_reducible exact q2)
   (first
    |(go_at_call 78;(with_reducible refine nY.out.mono ?_);rintro e w2 ⟨rfl,h2,q2⟩))
  have H2:=Lib.hid h2
  clear h2 q2
  go_wp2
  go_ret
  exact⟨rfl,H2.out⟩
theorem RM{S S1:Sp}{a m:Nat}(h:S.ok)(ht:Gq S S1 a m){b:Int}(hb:((S.first+S.blocks:Nat):Int)≤b):((a+m:Nat):Int)≤b:=by
 rcases Yb h ht with h1|⟨rfl,rfl⟩<;>omega
theorem Xe{w w':World}{G:Nat→Prop}{p:Wp}{F:Fs}{n:Nat}{t:Wt}{l:List AB}{er:Int}(h:KZ w G p F n t l er w')(hc:Calm F.D)(OR:((t.first+t.blocks:Nat):Int)≤F.D.blocks):False:=by
 obtain⟨hne,D1,m,i,ws,h1,h2,h3,h4,_⟩:=h
 rw[h2,YM (h1.calm hc) (h3 OR) h4]at hne
 exact hne rfl
theorem Yt{t:AB}(h:∀x∈t.Bf,0≤x∧x≤1000):CQ t:=fun x hx=>Ff.of (by have:=h x hx;omega) (by have:=h x hx;omega)
theorem Hf{m n:Nat}(h:m≤n):JC (BP 0 n) 0 m:=by
 intro b _ hb
 unfold BP
 simp only
 rw[if_neg (by omega)]
 exact⟨(0,n),by simp,by simp,by simp;omega⟩
theorem Tq{m n k:Nat}(hm:0<m)(h:n<m):¬JC (BP 0 n) k m:=by
 intro hr
 obtain⟨x,hx,h1,h2⟩:=hr (k+m-1) (by omega) (by omega)
 unfold BP at hx
 simp only at hx
 split at hx
 ·cases hx
 ·simp only[List.mem_singleton]at hx;subst hx
  simp only at h1 h2
  omega
theorem Zd{w w':World}{G:Nat→Prop}{p:Wp}{F:Fs}{n:Nat}{width:Int}{l:List AB}{e:Ending}(h:bP w G p F n width l e w')(qK:F.S.ok)(hc:Calm F.D)(OR:((F.S.first+F.S.blocks:Nat):Int)≤F.D.blocks)(ha:FX F width (l.length:Int))(hroom:F.D.size≤F.A.room-F.A.used)
  (hsp:∃k,JC F.S k (AA (AE F.D.size width) l.length)) (hfit:∀k:Nat,(k:Int)=width→∀u∈l,Ac k u=true):
  ∃t S1,e=.returned (.tuple #[Cq t.first t.blocks t.k l.length,.int .i64 0])∧MS w G p F n t S1 l w'∧(t.k:Int)=width∧t.h=AE F.D.size width∧t.blocks=AA t.h l.length∧Gq F.S S1 t.first t.blocks∧t.first≤2000000∧∀q∈F.A.st,q.1≠t.b:=by
 rcases h with⟨er,_,(⟨_,h1⟩|⟨_,_,h1⟩|⟨_,_,_,_,h1⟩),_⟩|⟨t,S1,⟨_,_,h3,h4,h5,h6,h7,h8⟩,⟨er,_,_,⟨u,hu,hf⟩,_⟩|⟨er,_,hd⟩|⟨he,hd⟩⟩
 ·exact absurd ha h1
 ·omega
 ·obtain⟨k,hk⟩:=hsp
  exact absurd hk (h1 k)
 ·rw[hfit t.k h3 u hu]at hf;cases hf
 ·exact(Xe hd hc (RM qK h6 OR)).elim
 ·exact⟨t,S1,he,hd,h3,h4,h5,h6,h7,h8⟩
def Fh(w0:World)(p:Wp)(F:Fs)(n:Nat)(rs:List (Nat×TypeId×List Value))(W:World):Prop:=
 ∃G,Sys W G p F n∧(∀k,G k→w0.heap.size≤k)∧Below w0.heap.size w0 W∧∀r∈rs,Row W r.1 r.2.1 r.2.2∧¬G r.1∧r.2.1≠126
section
variable {w0 W : World} {p : Wp} {F : Fs} {n : Nat} {rs : List (Nat × TypeId × List Value)}
theorem Fh.size(h:Fh w0 p F n rs W):w0.heap.size≤W.heap.size:=by obtain⟨G,_,_,h,_⟩:=h;exact h.size
theorem Fh.Lg(h:Fh w0 p F n rs W):Below w0.heap.size w0 W:=by obtain⟨G,_,_,h,_⟩:=h;exact h
theorem Fh.U1(h:Fh w0 p F n rs W):F.S.ok:=by obtain⟨G,h,_⟩:=h;exact h.U1
theorem Fh.below(h:Fh w0 p F n rs W){W':World}(hb:Below W.heap.size W W'):Fh w0 p F n rs W':=by
 obtain⟨G,h1,h2,h3,h4⟩:=h
 exact⟨G,h1.below hb,h2,h3.trans (hb.mono h3.size),fun r hr=>⟨(h4 r hr).1.below hb (h4 r hr).1.lt,(h4 r hr).2⟩⟩
theorem Fh.row(h:Fh w0 p F n rs W){r:Nat×TypeId×List Value}(hr:r∈rs):Row W r.1 r.2.1 r.2.2:=by obtain⟨G,_,_,_,h4⟩:=h;exact(h4 r hr).1
theorem Fh.to(h:Fh w0 p F n rs W){W':World}{F':Fs}{n':Nat}(hs:∀G,Sys W G p F n→(∀k,G k→w0.heap.size≤k)→AQ W G p F' n' W'):Fh w0 p F' n' rs W':=by
 obtain⟨G,h1,h2,h3,h4⟩:=h
 obtain⟨G',k1,k2,k3,k4⟩:=(hs G h1 h2).apart
 have z:=h3.size
 exact⟨G',k1,fun k hk=>(k3 k hk).elim (h2 k) fun h=>by omega,h3.trans (k2.below z fun k hk=>h2 k hk),fun r hr=>⟨k2.row (h4 r hr).1 (h4 r hr).2.1,k4 _ (h4 r hr).1.lt (h4 r hr).2.1,(h4 r hr).2.2⟩⟩
theorem Fh.call(h:Fh w0 p F n rs W){f:FuncId}{args:Array Value}{A:Ending→Prop}{F':Fs}{n':Nat}(hc:∀G,Sys W G p F n→(∀k,G k→w0.heap.size≤k)→Calls Tryz.prog f args W fun e w'=>A e∧AQ W G p F' n' w'):
  Calls Tryz.prog f args W fun e w'=>A e∧Fh w0 p F' n' rs w':=by
 obtain⟨G,h1,h2,h3,h4⟩:=id h
 refine(hc G h1 h2).mono ?_
 rintro e w' ⟨ha,k⟩
 refine⟨ha,?_⟩
 obtain⟨G',k1,k2,k3,k4⟩:=k.apart
 have z:=h3.size
 exact⟨G',k1,fun k hk=>(k3 k hk).elim (h2 k) fun h=>by omega,h3.trans (k2.below z fun k hk=>h2 k hk),fun r hr=>⟨k2.row (h4 r hr).1 (h4 r hr).2.1,k4 _ (h4 r hr).1.lt (h4 r hr).2.1,(h4 r hr).2.2⟩⟩
theorem Fh.alloc(h:Fh w0 p F n rs W)(t:TypeId)(ht:t≠126)(cs:Array Value):Fh w0 p F n ((W.heap.size,t,cs.toList)::rs) (W.alloc (.cells cs t)):=by
 have hb:Below W.heap.size W (W.alloc (.cells cs t)):=(Below.refl _ _).alloc (Nat.le_refl _) _
 obtain⟨G,h1,h2,h3,h4⟩:=h
 refine⟨G,h1.below hb,h2,h3.trans (hb.mono h3.size),fun r hr=>?_⟩
 rcases List.mem_cons.1 hr with rfl|hr
 ·exact⟨heap_alloc_new _ _,fun hg=>Nat.lt_irrefl _ (h1.lt hg),ht⟩
 ·exact⟨(h4 r hr).1.below hb (h4 r hr).1.lt,(h4 r hr).2⟩
end
theorem Og{S S1:Sp}{a m:Nat}(ht:Gq S S1 a m):Ax S1.fr+m=Ax S.fr:=by
 rcases ht with⟨rfl,_,rfl⟩|⟨hm,ht,_⟩
 ·rfl
 ·exact ht.sum
theorem Wk(n:Nat):Ax (BP 0 n).fr=n:=by
 unfold BP Ax
 simp only
 split<;>simp_all
theorem Rv{n a m:Nat}{S1:Sp}(ht:Gq (BP 0 n) S1 a m):a=0∧m≤n:=by
 rcases ht with⟨rfl,rfl,rfl⟩|⟨hm,ht,hl⟩
 ·exact⟨rfl,Nat.zero_le _⟩
 ·have h1:m≤n:=by
   rcases Nat.lt_or_ge n m with h|h
   ·exact absurd ht.room (Tq hm h)
   ·exact h
  exact⟨Nat.le_zero.1 (hl 0 (Hf h1)),h1⟩
theorem Ww(F:Fs)(S':Sp)(b:Nat)(D':St):(LI F S' b D').A.used=F.A.used:=by
 show F.A.used+F.D.size-F.D.size=F.A.used
 omega
theorem Wx(F:Fs)(S':Sp)(b:Nat)(D':St):(LI F S' b D').A.room=F.A.room:=rfl
theorem UO{w:World}{G:Nat→Prop}{p:Wp}{F:Fs}{n x:Nat}{r:Rt}{ws:List Nat}{l:List AB}(h:Sys w G p F n)(hn:n<1000000)(hok:Fc r F.D.size)(hm:DA w x p r F.D.size ws)(ho:Jo G x r)(hc:l.length=r.count)(Bw:r.pos<r.count)
  (xg:r.pos%r.h=0→(read F.D ((r.first+r.pos/r.h:Nat):Int)).1=0∧F.D.now ((r.first+r.pos/r.h:Nat):Int)=DB F.D.size (r.first+r.pos/r.h) r.k (Em r.h r.k l (r.pos/r.h)))
  (NM:r.pos%r.h≠0→ws.take (min r.h (r.count-r.pos/r.h*r.h)*r.k)=Em r.h r.k l (r.pos/r.h)) {t:AB} (ht:l[r.pos]?=some t) (hto:CQ t) (qB:Ac r.k t=true):
  Calls Tryz.prog 52 #[.pointer (some ⟨x,0,none⟩)] w fun e w'=>e=.returned (.tuple #[.agg #[.int .i64 t.a,.int .i64 t.b,.int .i64 t.c,.int .i64 t.d,.int .i64 t.e],.bool true,.int .i64 0])∧
   ∃Bt,GM w G p {F with D:=U9 F.D r} (n+1) x {r with pos:=r.pos+1} Bt w'∧Bt.take (min r.h (r.count-r.pos/r.h*r.h)*r.k)=Em r.h r.k l (r.pos/r.h):=by
 unfold U9
 have hsz:=hok.sz
 by_cases Du:r.pos%r.h=0
 ·rw[if_pos Du]
  obtain⟨he,hs⟩:=xg Du
  have Dy:(Em r.h r.k l (r.pos/r.h)).length=min r.h (r.count-r.pos/r.h*r.h)*r.k:=by rw[Wf hok.k.2,hc]
  have hle:(Em r.h r.k l (r.pos/r.h)).length≤F.D.size-2:=Nat.le_trans (eC hok.k.2 l _) hok.h.2.1
  have g1:okW (F.D.now ((r.first+r.pos/r.h:Nat):Int)) (r.first+r.pos/r.h)=true:=by rw[hs];exact di hle (by omega)
  have g2:Kl (F.D.now ((r.first+r.pos/r.h:Nat):Int))=r.k:=by rw[hs];exact RW hle (by omega)
  have g3:CW (F.D.now ((r.first+r.pos/r.h:Nat):Int))-1=min r.h (r.count-r.pos/r.h*r.h)*r.k:=by rw[hs,RX hle (by omega),Dy,Nat.add_sub_cancel]
  have g4:(F.D.now ((r.first+r.pos/r.h:Nat):Int)).take (min r.h (r.count-r.pos/r.h*r.h)*r.k)=Em r.h r.k l (r.pos/r.h):=by rw[hs,←Dy];exact Oq
  have hsp:(splice ws 0 ((F.D.now ((r.first+r.pos/r.h:Nat):Int)).take (min r.h (r.count-r.pos/r.h*r.h)*r.k))).take (min r.h (r.count-r.pos/r.h*r.h)*r.k)=Em r.h r.k l (r.pos/r.h):=by
   rw[g4];unfold splice
   rw[List.take_zero,List.nil_append,List.take_left' Dy]
  have Dv:=UP h hok hm ho Bw (FH F.D ((r.first+r.pos/r.h:Nat):Int) 0).2.1 Du fun W hb=>Wc (h.below hb) hn hok (hm.below hb) ho Bw he g1 g2 g3
  rw[Qg hok.k.2 hok.h.1 Bw hc hsp ht hto qB]at Dv
  exact Dv.mono fun e w' ⟨h1,h2⟩=>⟨h1,_,h2,hsp⟩
 ·rw[if_neg Du]
  have hb:=NM Du
  have Dv:=PK h hok hm ho Bw Du
  rw[Qg hok.k.2 hok.h.1 Bw hc hb ht hto qB]at Dv
  exact Dv.mono fun e w' ⟨h1,G',k1,k2⟩=>⟨h1,_,⟨G',k1.mono (by omega) (by omega),k2⟩,hb⟩
def JM(w0:World)(p:Wp)(F:Fs)(n:Nat)(rs:List (Nat×TypeId×List Value))(x:Nat)(r:Rt)(ws:List Nat)(W:World):Prop:=
 ∃G,Sys W G p F n∧(∀k,G k→w0.heap.size≤k)∧Below w0.heap.size w0 W∧(∀q∈rs,Row W q.1 q.2.1 q.2.2∧¬G q.1∧q.2.1≠126∧q.2.1≠127∧q.2.1≠140)∧DA W x p r F.D.size ws∧Jo G x r∧w0.heap.size≤x∧w0.heap.size≤r.b∧w0.heap.size≤r.g
section
variable {w0 W : World} {p : Wp} {F : Fs} {n x : Nat} {rs : List (Nat × TypeId × List Value)} {r : Rt} {ws : List Nat}
theorem JM.below(h:JM w0 p F n rs x r ws W){W':World}(hb:Below W.heap.size W W'):JM w0 p F n rs x r ws W':=by
 obtain⟨G,h1,h2,h3,h4,h5,h6⟩:=h
 exact⟨G,h1.below hb,h2,h3.trans (hb.mono h3.size),fun q hq=>⟨(h4 q hq).1.below hb (h4 q hq).1.lt,(h4 q hq).2⟩,h5.below hb,h6⟩
theorem JM.base(h:JM w0 p F n rs x r ws W):Fh w0 p F n rs W:=by
 obtain⟨G,h1,h2,h3,h4,_⟩:=h
 exact⟨G,h1,h2,h3,fun q hq=>⟨(h4 q hq).1,(h4 q hq).2.1,(h4 q hq).2.2.1⟩⟩
theorem JM.CU{W':World}{G:Nat→Prop}(h3:Below w0.heap.size w0 W)(h2:∀k,G k→w0.heap.size≤k)(h4:∀q∈rs,Row W q.1 q.2.1 q.2.2∧¬G q.1∧q.2.1≠126∧q.2.1≠127∧q.2.1≠140)(h5:DA W x p r F.D.size ws)(h7:w0.heap.size≤x∧w0.heap.size≤r.b∧w0.heap.size≤r.g){R:Nat→Prop}
  (hf:AK R W W') (hR:∀k,R k→G k∨k=x∨k=r.b∨k=r.g):Below w0.heap.size w0 W'∧∀q∈rs,Row W' q.1 q.2.1 q.2.2:=by
 refine⟨h3.trans (hf.below h3.size fun k hk=>?_),fun q hq=>hf.row (h4 q hq).1 fun hk=>?_⟩
 ·rcases hR k hk with h|rfl|rfl|rfl
  ·exact h2 k h
  ·exact h7.1
  ·exact h7.2.1
  ·exact h7.2.2
 ·obtain⟨hr,hg,t1,t2,t3⟩:=h4 q hq
  rcases hR _ hk with h|h|h|h
  ·exact hg h
  ·exact t3 (hr.typed (h▸h5.row))
  ·exact t1 (hr.typed (h▸h5.buf))
  ·exact t2 (hr.typed (h▸h5.words))
theorem JM.row(h:JM w0 p F n rs x r ws W){q:Nat×TypeId×List Value}(hq:q∈rs):Row W q.1 q.2.1 q.2.2:=by obtain⟨G,_,_,_,h4,_⟩:=h;exact(h4 q hq).1
theorem JM.Lg(h:JM w0 p F n rs x r ws W):Below w0.heap.size w0 W:=by obtain⟨G,_,_,h3,_⟩:=h;exact h3
end
theorem E8(l:List (Nat×Nat))(x y n m:Nat)(h:wordsAt l x=some n):wordsAt (l++[(y,m)]) x=some n:=by
 induction l with
 |nil=>simp[wordsAt]at h
 |cons q l ih=>
  simp only[List.cons_append,wordsAt]at h⊢
  split
  ·rename_i h1;rw[if_pos h1]at h;exact h
  ·rename_i h1;rw[if_neg h1]at h;exact ih h
theorem Br:∀(l:List (Nat×Nat)) (x y n:Nat),wordsAt l x=some n→x≠y→wordsAt (CH l y) x=some n
 |[],x,y,n,h,_=>by simp[wordsAt]at h
 |q::l,x,y,n,h,hne=>by
  simp only[wordsAt]at h
  simp only[CH]
  by_cases h1:q.1=y
  ·rw[if_pos h1]
   rw[if_neg (by rw[h1];exact fun e=>hne e.symm)]at h;exact h
  ·rw[if_neg h1]
   simp only[wordsAt]
   by_cases h2:q.1=x
   ·rw[if_pos h2]at h⊢;exact h
   ·rw[if_neg h2]at h⊢;exact Br l x y n h hne
structure om (w0 W:World) (G:Nat→Prop) (p:Wp) (F:Fs) (x:Nat) (t:Wt):Prop where
 ok:B8 t F.D.size
 mem:JJ W x p t F.D.size
 out:OV G x t
 st:wordsAt F.A.st t.b=some F.D.size
 stand:Dq F.D t
 new:w0.heap.size≤x∧w0.heap.size≤t.b∧w0.heap.size≤t.g
 fit:∀u∈t.l,CQ u∧Ac t.k u=true
structure yT (x:Nat) (t:Wt) (x':Nat) (t':Wt):Prop where
 x:x≠x'
 b:t.b≠t'.b
 g:t.g≠t'.g
 ext:∀i,t.first≤i→i<t.first+t.blocks→¬(t'.first≤i∧i<t'.first+t'.blocks)
theorem yT.symm{x x':Nat}{t t':Wt}(h:yT x t x' t'):yT x' t' x t:=⟨h.x.symm,h.b.symm,h.g.symm,fun i h1 h2 h3=>h.ext i h3.1 h3.2 ⟨h1,h2⟩⟩
section
variable {w0 W W' : World} {G G' : Nat → Prop} {p : Wp} {F F' : Fs} {n x : Nat} {t : Wt}
theorem om.lt(h:om w0 W G p F x t):x<W.heap.size∧t.b<W.heap.size∧t.g<W.heap.size:=by obtain⟨ws,hm,_⟩:=h.mem;exact hm.lt
theorem om.CL(h:om w0 W G p F x t){R:Nat→Prop}(hf:AK R W W')(hx:¬R x)(hb:¬R t.b)(hg:¬R t.g)(hG:∀k,G' k→G k∨W.heap.size≤k)(hs:F'.D.size=F.D.size)(hn:∀i:Nat,t.first≤i→i<t.first+t.blocks→F'.D.now i=F.D.now i)(hst:wordsAt F'.A.st t.b=some F.D.size):om w0 W' G' p F' x t:=by
 obtain⟨l1,l2,l3⟩:=h.lt
 obtain⟨ws,hm,hh⟩:=h.mem
 refine⟨by rw[hs];exact h.ok,⟨ws,by rw[hs];exact hm.CU hf hx hb hg,hh⟩,⟨fun k=>(hG _ k).elim h.out.x (Nat.not_le_of_lt l1),fun k=>(hG _ k).elim h.out.b (Nat.not_le_of_lt l2),fun k=>(hG _ k).elim h.out.g (Nat.not_le_of_lt l3)⟩,by rw[hs];exact hst,fun j hj=>?_,h.new,h.fit⟩
 have lW:j<t.blocks:=by
  have h1:=Am (h:=t.h) h.ok.h.1 h.ok.bound.2
  rw[←h.ok.blocks.1]at h1
  have h2:t.l.length/t.h≤AA t.h t.l.length:=by unfold AA;split<;>omega
  omega
 rw[hn _ (by omega) (by omega),hs]
 exact h.stand j hj
theorem V3(h:Sys W G p F n)(width bound:Int)(hb0:Below w0.heap.size w0 W):Calls Tryz.prog 37 #[.pointer (some ⟨p.w,0,none⟩),.int .i64 width,.int .i64 bound] W fun e w'=>
  (∃er,e=.returned (.tuple #[.pointer none,.int .i64 er])∧mo F width bound er∧AQ W G p F n w')∨
  (∃x t S' G',e=.returned (.tuple #[.pointer (some ⟨x,0,none⟩),.int .i64 0])∧FX F width bound∧F.D.size≤F.A.room-F.A.used∧(t.k:Int)=width∧(t.bound:Int)=bound∧t.h=AE F.D.size width∧t.l=[]∧Gq F.S S' t.first t.blocks∧(∀q∈F.A.st,q.1≠t.b)∧
   Sys w' G' p {F with S:=S',A:=Bo F.A t.b F.D.size} n∧om w0 w' G' p {F with S:=S',A:=Bo F.A t.b F.D.size} x t∧AK G W w'∧(∀k,G' k→G k∨W.heap.size≤k)∧W.heap.size≤x∧W.heap.size≤t.b∧W.heap.size≤t.g):=by
 refine(NU h width bound).mono ?_
 rintro e w' (⟨er,he,hw,hs⟩|⟨x,t,S1,he,X9,JE,QN,ep,oG,Zw,eo,YA,hok,k1,k2,k3,G1,k4,k5,k6,k7,k8⟩)
 ·exact .inl ⟨er,he,hw,hs⟩
 ·have z:=hb0.size
  have hq:∀q∈F.A.st,q.1≠t.b:=fun q hq e=>by have:=(h.buf hq).1.lt;omega
  exact .inr ⟨x,t,S1,G1,he,X9,JE,QN,ep,oG,Zw,YA,hq,k4,⟨hok,k5,k6,DV _ _ _ hq,MV Zw,⟨by omega,by omega,by omega⟩,fun u hu=>by rw[Zw]at hu;cases hu⟩,k7,k8,k1,k2,k3⟩
end
structure AU where
 K:Nat→Prop
 A:World→Prop
 gr:Option (Nat×Nat)
 ex:Nat×Nat
 dA:St→Prop
def En(e:Nat×Nat)(z:Nat):Prop:=e.1≤z∧z<e.1+e.2
structure AU.Ok (a:AU):Prop where
 okA:∀W W',a.A W→(∀k,a.K k→W'.heap[k]?=W.heap[k]?)→a.A W'
 okD:∀D D',a.dA D→D'.size=D.size→(∀z:Nat,En a.ex z→D'.now z=D.now z)→a.dA D'
 grK:∀b n,a.gr=some (b,n)→a.K b
def AU.gw(a:AU):Nat:=match a.gr with
 |some q=>q.2
 |none=>0
def AU.xw(a:AU):Nat:=a.ex.2
def Aa{α:Type}(f:α→Nat)(l:List α):Nat:=(l.map f).sum
theorem FF{α:Type}(f:α→Nat):∀(l:List α) (i:Nat) (a b:α),l[i]?=some a→Aa f (l.set i b)+f a=Aa f l+f b
 |[],i,a,b,h=>by simp at h
 |x::l,0,a,b,h=>by simp at h;subst h;simp[Aa];omega
 |x::l,i+1,a,b,h=>by
  have:=FF f l i a b (by simpa using h)
  simp[Aa]at this⊢;omega
theorem CR{α:Type}(f:α→Nat)(l:List α)(a:α):Aa f (l++[a])=Aa f l+f a:=by simp[Aa]
structure Cx where
 w0:World
 p:Wp
 S0:Sp
 rm:Nat
 sz:Nat
 bl:Int
 cm:Prop
 N:Nat
 C:Nat
 n:Nat
structure Fb (X:Cx) (os:List AU) (m:Nat) (W:World) (G:Nat→Prop) (D:St) (A:Ar) (S:Sp):Prop where
 sys:Sys W G X.p ⟨D,A,S⟩ (X.n+m)
 Ii:X.n≤X.N∧X.N+m≤1000000
 base:∀k,G k→X.w0.heap.size≤k
 Lg:Below X.w0.heap.size X.w0 W
 size:D.size=X.sz
 blocks:D.blocks=X.bl
 alive:D.down=false∧D.fb=false
 calm:X.cm→Calm D
 Ab:D.Ab≤((X.C+m:Nat):Int)
 room:A.room=X.rm
 used:A.used=Aa AU.gw os
 ok:∀(i:Nat) (a:AU),os[i]?=some a→a.Ok
 st:∀(i:Nat) (a:AU) (b n:Nat),os[i]?=some a→a.gr=some (b,n)→wordsAt A.st b=some n
 mem:∀(i:Nat) (a:AU),os[i]?=some a→a.A W∧∀k,a.K k→k<W.heap.size∧X.w0.heap.size≤k∧¬G k
 Nb:∀(i:Nat) (a:AU),os[i]?=some a→a.dA D
 apart:∀(i j:Nat) (a b:AU),os[i]?=some a→os[j]?=some b→i≠j→∀k,a.K k→¬b.K k
 exa:∀(i j:Nat) (a b:AU),os[i]?=some a→os[j]?=some b→i≠j→∀z,En a.ex z→¬En b.ex z
 exs:∀(i:Nat) (a:AU),os[i]?=some a→∀z,En a.ex z→hasB X.S0.fr z
 s0:X.S0.ok
 sp:S.first=X.S0.first∧S.blocks=X.S0.blocks
 free:∀z,hasB S.fr z↔hasB X.S0.fr z∧∀(i:Nat) (a:AU),os[i]?=some a→¬En a.ex z
 sum:Ax S.fr+Aa AU.xw os=Ax X.S0.fr
 range:((X.S0.first+X.S0.blocks:Nat):Int)≤X.bl
def Wd(X:Cx)(os:List AU)(m:Nat)(W:World):Prop:=∃G D A S,Fb X os m W G D A S
def Bl:AU:=⟨fun _=>False,fun _=>True,none,(0,0),fun _=>True⟩
theorem J9:Bl.Ok:=⟨fun _ _ _ _=>trivial,fun _ _ _ _ _=>trivial,fun _ _ h=>by cases h⟩
theorem AZ(a z:Nat):¬En (a,0) z:=fun h=>by unfold En at h;simp only at h;omega
def AI(g:Nat)(t:TypeId)(cs:List Value):AU:=⟨fun k=>k=g,fun W=>Row W g t cs,none,(0,0),fun _=>True⟩
theorem Pz(g:Nat)(t:TypeId)(cs:List Value):(AI g t cs).Ok:=⟨fun W W' h hk=>(hk g rfl).trans h,fun _ _ _ _ _=>trivial,fun _ _ h=>by cases h⟩
theorem GF{α:Type}{l:List α}{i j:Nat}{a b:α}(h:(l.set i a)[j]?=some b):(j=i∧b=a)∨(j≠i∧l[j]?=some b):=by
 rw[List.getElem?_set]at h
 by_cases Fa:i=j
 ·rw[if_pos Fa]at h
  split at h
  ·injection h with h;exact .inl ⟨Fa.symm,h.symm⟩
  ·cases h
 ·rw[if_neg Fa]at h;exact .inr ⟨fun e=>Fa e.symm,h⟩
theorem DM{α:Type}{l:List α}{j:Nat}{a b:α}(h:(l++[a])[j]?=some b):(j=l.length∧b=a)∨(j<l.length∧l[j]?=some b):=by
 rcases Nat.lt_or_ge j l.length with hj|hj
 ·rw[List.getElem?_append_left hj]at h;exact .inr ⟨hj,h⟩
 ·rw[List.getElem?_append_right hj]at h
  have:j-l.length=0:=by
   rcases Nat.eq_zero_or_pos (j-l.length)with h0|h0
   ·exact h0
   ·rw[List.getElem?_eq_none (by simp;omega)]at h;cases h
  rw[this]at h;simp at h
  exact .inl ⟨by omega,h.symm⟩
section
variable {X : Cx} {os : List AU} {m m' i : Nat} {W W' : World} {G G' : Nat → Prop} {D D' : St} {A A' : Ar} {S S' : Sp} {a a' : AU}
theorem Fb.step (h : Fb X os m W G D A S) (hi : os[i]? = some a) (sys : Sys W' G' X.p ⟨D', A', S'⟩ (X.n + m')) (CU : AK (fun k => G k ∨ a.K k) W W') (hG : ∀ k, G' k → G k ∨ W.heap.size ≤ k)
    (ok : a'.Ok) (mem : a'.A W') (Za : ∀ k, a'.K k → (a.K k ∨ W.heap.size ≤ k) ∧ k < W'.heap.size ∧ ¬ G' k)
    (hD : D'.size = D.size ∧ D'.blocks = D.blocks) (alive : D'.down = false ∧ D'.fb = false) (calm : Calm D → Calm D') (Ab : D'.Ab ≤ ((X.C + m' : Nat) : Int))
    (now : ∀ z : Nat, ¬ En a.ex z → D'.now z = D.now z) (Nb : a'.dA D')
    (room : A'.room = A.room) (used : A'.used + a.gw = A.used + a'.gw) (st : ∀ b n, wordsAt A.st b = some n → ¬ a.K b → wordsAt A'.st b = some n) (gr : ∀ b n, a'.gr = some (b, n) → wordsAt A'.st b = some n)
    (sp : S'.first = S.first ∧ S'.blocks = S.blocks) (free : ∀ z, hasB S'.fr z ↔ (hasB S.fr z ∨ En a.ex z) ∧ ¬ En a'.ex z) (exn : ∀ z, En a'.ex z → En a.ex z ∨ hasB S.fr z) (sum : Ax S'.fr + a'.xw = Ax S.fr + a.xw) (Ii : X.N + m' ≤ 1000000 := by first | exact (Fb.Ii (by assumption)).2 | omega) :
    Fb X (os.set i a') m' W' G' D' A' S' := by
  have hil : i < os.length := by
    rcases Nat.lt_or_ge i os.length with hl | hl
    · exact hl
    · rw [List.getElem?_eq_none hl] at hi; cases hi
  have hz := CU.size
  have hb0 := h.Lg.size
  have hold : ∀ (j : Nat) (b : AU), j ≠ i → os[j]? = some b → ∀ k, b.K k → W'.heap[k]? = W.heap[k]? ∧ k < W.heap.size ∧ X.w0.heap.size ≤ k ∧ ¬ G k := fun j b hj hb k hk => by
    obtain ⟨h1, h2, h3⟩ := (h.mem j b hb).2 k hk
    exact ⟨CU.block k h1 fun hf => hf.elim h3 (h.apart j i b a hb hi hj k hk), h1, h2, h3⟩
  have hbK : ∀ k, a.K k → X.w0.heap.size ≤ k := fun k hk => ((h.mem i a hi).2 k hk).2.1
  have s1 := FF AU.gw os i a a' hi
  have s2 := FF AU.xw os i a a' hi
  have s3 := h.sum
  have s4 := h.used
  exact {
    sys := sys
    Ii := ⟨h.Ii.1, Ii⟩
    base := fun k hk => (hG k hk).elim (h.base k) fun hl => by omega
    Lg := h.Lg.trans (CU.below hb0 fun k hk => hk.elim (h.base k) (hbK k))
    size := hD.1.trans h.size
    blocks := hD.2.trans h.blocks
    alive := alive
    calm := fun hc => calm (h.calm hc)
    Ab := Ab
    room := room.trans h.room
    used := by omega
    ok := fun j b hb => (GF hb).elim (fun e => e.2 ▸ ok) fun e => h.ok j b e.2
    st := fun j b c n hb hg => (GF hb).elim (fun e => gr c n (by rw [← e.2]; exact hg)) fun e => st c n (h.st j b c n e.2 hg) (h.apart j i b a e.2 hi e.1 c ((h.ok j b e.2).grK c n hg))
    mem := fun j b hb => (GF hb).elim (fun e => by
        rw [e.2]
        exact ⟨mem, fun k hk => ⟨(Za k hk).2.1, (Za k hk).1.elim (hbK k) fun hl => by omega, (Za k hk).2.2⟩⟩) fun e => ⟨(h.ok j b e.2).okA W W' (h.mem j b e.2).1 fun k hk => (hold j b e.1 e.2 k hk).1, fun k hk => by
        obtain ⟨h1, h2, h3, h4⟩ := hold j b e.1 e.2 k hk
        exact ⟨by omega, h3, fun hg => (hG k hg).elim h4 fun hl => by omega⟩⟩
    Nb := fun j b hb => (GF hb).elim (fun e => e.2 ▸ Nb) fun e => (h.ok j b e.2).okD D D' (h.Nb j b e.2) hD.1 fun z hz => now z (h.exa j i b a e.2 hi e.1 z hz)
    apart := fun j j2 b b2 hb AX hne k hk FK => by
      rcases GF hb with ⟨e1, e2⟩ | ⟨e1, e2⟩ <;> rcases GF AX with ⟨e3, e4⟩ | ⟨e3, e4⟩
      · exact hne (e1.trans e3.symm)
      · subst e2
        obtain ⟨h1, h2, _⟩ := hold j2 b2 e3 e4 k FK
        exact (Za k hk).1.elim (fun ha => h.apart i j2 a b2 hi e4 (fun e => e3 e.symm) k ha FK) fun hl => by omega
      · subst e4
        obtain ⟨h1, h2, _⟩ := hold j b e1 e2 k hk
        exact (Za k FK).1.elim (fun ha => h.apart i j a b hi e2 (fun e => e1 e.symm) k ha hk) fun hl => by omega
      · exact h.apart j j2 b b2 e2 e4 hne k hk FK
    exa := fun j j2 b b2 hb AX hne z CM GJ => by
      have key : ∀ (q : Nat) (c : AU), q ≠ i → os[q]? = some c → En c.ex z → En a'.ex z → False := fun q c hq hc h1 h2 => by
        rcases exn z h2 with h3 | h3
        · exact h.exa q i c a hc hi hq z h1 h3
        · exact ((h.free z).1 h3).2 q c hc h1
      rcases GF hb with ⟨e1, e2⟩ | ⟨e1, e2⟩ <;> rcases GF AX with ⟨e3, e4⟩ | ⟨e3, e4⟩
      · exact hne (e1.trans e3.symm)
      · subst e2; exact key j2 b2 e3 e4 GJ CM
      · subst e4; exact key j b e1 e2 CM GJ
      · exact h.exa j j2 b b2 e2 e4 hne z CM GJ
    exs := fun j b hb z CM => (GF hb).elim (fun e => by
        rw [e.2] at CM
        exact (exn z CM).elim (h.exs i a hi z) fun h3 => ((h.free z).1 h3).1) fun e => h.exs j b e.2 z CM
    s0 := h.s0
    sp := ⟨sp.1.trans h.sp.1, sp.2.trans h.sp.2⟩
    free := fun z => by
      rw [free z]
      refine ⟨fun ⟨h1, h2⟩ => ⟨h1.elim (fun h3 => ((h.free z).1 h3).1) (h.exs i a hi z), fun j b hb CM => ?_⟩, fun ⟨h1, h2⟩ => ⟨?_, h2 i a' (by rw [List.getElem?_set, if_pos rfl, if_pos hil])⟩⟩
      · rcases GF hb with ⟨e1, e2⟩ | ⟨e1, e2⟩
        · rw [e2] at CM; exact h2 CM
        · exact h1.elim (fun h3 => ((h.free z).1 h3).2 j b e2 CM) fun h3 => h.exa j i b a e2 hi e1 z CM h3
      · by_cases ha : En a.ex z
        · exact .inr ha
        · refine .inl ((h.free z).2 ⟨h1, fun j b hb CM => ?_⟩)
          by_cases hj : j = i
          · rw [hj, hi] at hb; injection hb with hb; subst hb; exact ha CM
          · exact h2 j b (by rw [List.getElem?_set, if_neg (fun e => hj e.symm)]; exact hb) CM
    sum := by omega
    range := h.range }
theorem Fb.grow (h : Fb X os m W G D A S) : Fb X (os ++ [Bl]) m W G D A S :=
  { sys := h.sys, Ii := h.Ii, base := h.base, Lg := h.Lg, size := h.size, blocks := h.blocks, alive := h.alive, calm := h.calm, Ab := h.Ab, room := h.room, s0 := h.s0, sp := h.sp, range := h.range
    used := by rw [CR]; exact h.used
    sum := by rw [CR]; exact h.sum
    ok := fun j b hb => (DM hb).elim (fun e => e.2 ▸ J9) fun e => h.ok j b e.2
    st := fun j b c n hb hg => (DM hb).elim (fun e => by rw [e.2] at hg; cases hg) fun e => h.st j b c n e.2 hg
    mem := fun j b hb => (DM hb).elim (fun e => by rw [e.2]; exact ⟨trivial, fun k hk => hk.elim⟩) fun e => h.mem j b e.2
    Nb := fun j b hb => (DM hb).elim (fun e => by rw [e.2]; exact trivial) fun e => h.Nb j b e.2
    apart := fun j j2 b b2 hb AX hne k hk FK => by
      rcases DM hb with ⟨e1, e2⟩ | ⟨e1, e2⟩ <;> rcases DM AX with ⟨e3, e4⟩ | ⟨e3, e4⟩
      · rw [e2] at hk; exact hk
      · rw [e2] at hk; exact hk
      · rw [e4] at FK; exact FK
      · exact h.apart j j2 b b2 e2 e4 hne k hk FK
    exa := fun j j2 b b2 hb AX hne z CM GJ => by
      rcases DM hb with ⟨e1, e2⟩ | ⟨e1, e2⟩ <;> rcases DM AX with ⟨e3, e4⟩ | ⟨e3, e4⟩
      · rw [e2] at CM; exact AZ _ _ CM
      · rw [e2] at CM; exact AZ _ _ CM
      · rw [e4] at GJ; exact AZ _ _ GJ
      · exact h.exa j j2 b b2 e2 e4 hne z CM GJ
    exs := fun j b hb z CM => (DM hb).elim (fun e => by rw [e.2] at CM; exact (AZ _ _ CM).elim) fun e => h.exs j b e.2 z CM
    free := fun z => by
      rw [h.free z]
      refine ⟨fun ⟨h1, h2⟩ => ⟨h1, fun j b hb CM => (DM hb).elim (fun e => by rw [e.2] at CM; exact AZ _ _ CM) fun e => h2 j b e.2 CM⟩, fun ⟨h1, h2⟩ => ⟨h1, fun j b hb CM => h2 j b ?_ CM⟩⟩
      rw [List.getElem?_append_left]
      · exact hb
      · rcases Nat.lt_or_ge j os.length with hl | hl
        · exact hl
        · rw [List.getElem?_eq_none hl] at hb; cases hb }
theorem Fb.drop (h : Fb X (os ++ [a]) m W G D A S) (hg : a.gr = none) (hx : a.ex.2 = 0) : Fb X os m W G D A S := by
  have hle : ∀ (j : Nat) (b : AU), os[j]? = some b → (os ++ [a])[j]? = some b := fun j b hb => by
    rw [List.getElem?_append_left]
    · exact hb
    · rcases Nat.lt_or_ge j os.length with hl | hl
      · exact hl
      · rw [List.getElem?_eq_none hl] at hb; cases hb
  have Hs : a.gw = 0 := by unfold AU.gw; rw [hg]
  have hu := h.used
  have hs := h.sum
  rw [CR] at hu hs
  have vu : a.xw = 0 := hx
  exact { sys := h.sys, Ii := h.Ii, base := h.base, Lg := h.Lg, size := h.size, blocks := h.blocks, alive := h.alive, calm := h.calm, Ab := h.Ab, room := h.room, s0 := h.s0, sp := h.sp, range := h.range
          used := by omega
          sum := by omega
          ok := fun j b hb => h.ok j b (hle j b hb)
          st := fun j b c n hb hg => h.st j b c n (hle j b hb) hg
          mem := fun j b hb => h.mem j b (hle j b hb)
          Nb := fun j b hb => h.Nb j b (hle j b hb)
          apart := fun j j2 b b2 hb AX => h.apart j j2 b b2 (hle j b hb) (hle j2 b2 AX)
          exa := fun j j2 b b2 hb AX => h.exa j j2 b b2 (hle j b hb) (hle j2 b2 AX)
          exs := fun j b hb => h.exs j b (hle j b hb)
          free := fun z => by
            rw [h.free z]
            refine ⟨fun ⟨h1, h2⟩ => ⟨h1, fun j b hb => h2 j b (hle j b hb)⟩, fun ⟨h1, h2⟩ => ⟨h1, fun j b hb CM => ?_⟩⟩
            rcases DM hb with ⟨e1, e2⟩ | ⟨e1, e2⟩
            · rw [e2] at CM; unfold En at CM; omega
            · exact h2 j b e2 CM }
theorem Wd.grow(h:Wd X os m W):Wd X (os++[Bl]) m W:=by obtain⟨G,D,A,S,h⟩:=h;exact⟨G,D,A,S,h.grow⟩
theorem Wd.drop(h:Wd X (os++[a]) m W)(hg:a.gr=none)(hx:a.ex.2=0):Wd X os m W:=by obtain⟨G,D,A,S,h⟩:=h;exact⟨G,D,A,S,h.drop hg hx⟩
theorem Fb.below (h : Fb X os m W G D A S) (hb : Below W.heap.size W W') : Fb X os m W' G D A S :=
  { sys := h.sys.below hb, Ii := h.Ii, base := h.base, Lg := h.Lg.trans (hb.mono h.Lg.size), size := h.size, blocks := h.blocks, alive := h.alive, calm := h.calm, Ab := h.Ab, room := h.room, s0 := h.s0, sp := h.sp, range := h.range, used := h.used, sum := h.sum, ok := h.ok, st := h.st, Nb := h.Nb, apart := h.apart, exa := h.exa, exs := h.exs, free := h.free
    mem := fun j b Aj => ⟨(h.ok j b Aj).okA W W' (h.mem j b Aj).1 fun k hk => hb.block k ((h.mem j b Aj).2 k hk).1, fun k hk => by
      obtain ⟨h1, h2, h3⟩ := (h.mem j b Aj).2 k hk
      have := hb.size
      exact ⟨by omega, h2, h3⟩⟩ }
theorem Wd.below(h:Wd X os m W)(hb:Below W.heap.size W W'):Wd X os m W':=by obtain⟨G,D,A,S,h⟩:=h;exact⟨G,D,A,S,h.below hb⟩
theorem Wd.drewN(h:Wd X os m W)(q:Nat):Wd X os m (W.drewN q):=h.below (AG (Below.refl _ _) q)
theorem Wd.size(h:Wd X os m W):X.w0.heap.size≤W.heap.size:=by obtain⟨G,D,A,S,h⟩:=h;exact h.Lg.size
theorem Wd.Lg(h:Wd X os m W):Below X.w0.heap.size X.w0 W:=by obtain⟨G,D,A,S,h⟩:=h;exact h.Lg
theorem Wd.at_(h:Wd X os m W)(hi:os[i]?=some a):a.A W:=by obtain⟨G,D,A,S,h⟩:=h;exact(h.mem i a hi).1
theorem Wd.row(h:Wd X os m W){g:Nat}{t:TypeId}{cs:List Value}(hi:os[i]?=some (AI g t cs)):Row W g t cs:=h.at_ hi
theorem Wd.bounds(h:Wd X os m W):(8≤X.sz∧X.sz≤256)∧X.N+m≤1000000:=by obtain⟨G,D,A,S,h⟩:=h;have:=h.sys.size;exact⟨by rw[←h.size];exact this,h.Ii.2⟩
theorem Wd.apart(h:Wd X os m W){j:Nat}{b:AU}(hi:os[i]?=some a)(hj:os[j]?=some b)(hne:i≠j){k:Nat}(hk:a.K k):¬b.K k:=by obtain⟨G,D,A,S,h⟩:=h;exact h.apart i j a b hi hj hne k hk
theorem Wd.lt(h:Wd X os m W)(hi:os[i]?=some a){k:Nat}(hk:a.K k):k<W.heap.size∧X.w0.heap.size≤k:=by obtain⟨G,D,A,S,h⟩:=h;exact⟨((h.mem i a hi).2 k hk).1,((h.mem i a hi).2 k hk).2.1⟩
theorem Wd.I3(h:Wd X os m W)(hi:os[i]?=some a){R:Nat→Prop}(hf:AK R W W')(hR:∀k,R k→a.K k∧∀v,¬Row W k 126 [v])(ok:a'.Ok)(mem:a'.A W')(hK:∀k,a'.K k→(a.K k∨W.heap.size≤k)∧k<W'.heap.size)(hg:a'.gr=a.gr)(hx:a'.ex=a.ex)(hd:∀D,a.dA D→a'.dA D):Wd X (os.set i a') m W':=by
 obtain⟨G,D,A,S,h⟩:=h
 have lC:=h.sys.Of hf fun k hk=>⟨((h.mem i a hi).2 k (hR k hk).1).2.2,(hR k hk).2⟩
 refine⟨G,D,A,S,h.step hi lC (hf.mono fun k hk=>.inr (hR k hk).1) (fun k hk=>.inl hk) ok mem (fun k hk=>⟨(hK k hk).1,(hK k hk).2,fun hg=>?_⟩) ⟨rfl,rfl⟩ h.alive id h.Ab (fun _ _=>rfl) (hd D (h.Nb i a hi)) rfl (by unfold AU.gw;rw[hg]) (fun _ _ hw _=>hw) (fun b n hb=>h.st i a b n hi (by rw[←hg];exact hb)) ⟨rfl,rfl⟩ (fun z=>?_) (fun z hz=>.inl (by rw[←hx];exact hz)) (by unfold AU.xw;rw[hx])⟩
 ·rcases(hK k hk).1 with h1|h1
  ·exact((h.mem i a hi).2 k h1).2.2 hg
  ·have:=h.sys.lt hg;omega
 ·rw[hx]
  refine⟨fun h1=>⟨.inl h1,((h.free z).1 h1).2 i a hi⟩,fun⟨h1,h2⟩=>h1.elim id fun h3=>absurd h3 h2⟩
theorem Wd.YO(h:Wd X os m W)(hi:os[i]?=some a)(ok:a'.Ok)(mem:a.A W→a'.A W)(hK:∀k,a'.K k→a.K k)(hg:a'.gr=a.gr)(hx:a'.ex=a.ex)(hd:∀D,a.dA D→a'.dA D):Wd X (os.set i a') m W:=
 h.I3 hi (R:=fun _=>False) (AK.refl _ _) (fun _ hk=>hk.elim) ok (mem (h.at_ hi)) (fun k hk=>⟨.inl (hK k hk),(h.lt hi (hK k hk)).1⟩) hg hx hd
theorem Wd.new(h:Wd X os m W){g:Nat}{t:TypeId}{cs:List Value}(hb:Below W.heap.size W W')(hr:Row W' g t cs)(hg:W.heap.size≤g):Wd X (os++[AI g t cs]) m W':=by
 have h1:=h.grow
 have h2:=h1.I3 (i:=os.length) (a:=Bl) (a':=AI g t cs) (W':=W') (R:=fun _=>False) (by rw[List.getElem?_append_right (Nat.le_refl _),Nat.sub_self];rfl) (AK.AJ hb _) (fun k hk=>hk.elim) (Pz g t cs) hr (fun k hk=>by
  have hk:k=g:=hk
  subst hk;exact⟨.inr hg,hr.lt⟩) rfl rfl (fun _ _=>trivial)
 rw[List.set_append_right _ _ (Nat.le_refl _),Nat.sub_self]at h2
 exact h2
theorem Wd.store(h:Wd X os m W){g:Nat}{t:TypeId}{cs:List Value}(hi:os[i]?=some (AI g t cs))(ht:t≠126)(j:Nat)(v:Value):Wd X (os.set i (AI g t (cs.set j v))) m (W.setCell ⟨g,j,none⟩ v):=by
 have hr:=h.row hi
 refine h.I3 hi (R:=fun k=>k=g) (AK.one g j v) (fun k hk=>⟨hk,fun u hu=>?_⟩) (Pz _ _ _) (hr.set j v) (fun k hk=>⟨.inl hk,?_⟩) rfl rfl (fun _ h=>h)
 ·subst hk;exact ht (hr.typed hu)
 ·have hk:k=g:=hk
  subst hk;exact(hr.set j v).lt
theorem Wd.Jz(h:Wd X os m W){g:Nat}{t:TypeId}{cs fj:List Value}(hi:os[i]?=some (AI g t cs))(ht:t≠126)(hf:AK (fun k=>k=g) W W')(hr':Row W' g t fj):Wd X (os.set i (AI g t fj)) m W':=by
 have hr:=h.row hi
 refine h.I3 hi (R:=fun k=>k=g) hf (fun k hk=>⟨hk,fun u hu=>?_⟩) (Pz _ _ _) hr' (fun k hk=>⟨.inl hk,?_⟩) rfl rfl (fun _ h=>h)
 ·subst hk;exact ht (hr.typed hu)
 ·have hk:k=g:=hk
  subst hk;exact hr'.lt
theorem Wd.mono(h:Wd X os m W)(hm:m≤m')(h6:X.N+m'≤1000000):Wd X os m' W:=by
 obtain⟨G,D,A,S,h⟩:=h
 exact⟨G,D,A,S,{h with sys:=h.sys.mono (by omega) (by have:=h.Ii;omega),Ii:=⟨h.Ii.1,h6⟩,Ab:=by have:=h.Ab;omega}⟩
end
theorem NZ{s:St}{r:Bool}(ha:s.down=false∧s.fb=false)(hr:r=true)(h:(begin s r).1≠0):(begin s r).1=6∧(begin s r).2.Ab=s.Ab∧((begin s r).2.down=false∧(begin s r).2.fb=false)∧¬Calm s:=by
 unfold begin at h⊢
 rw[if_neg (by simp[ha.1]),if_neg (by simp[hr]),if_neg (by simp[ha.2])]at h⊢
 dsimp only at h⊢
 split at h
 ·rename_i h1;rw[if_pos h1];exact⟨rfl,rfl,⟨ha.1,ha.2⟩,fun hc=>by rw[hc.2.2]at h1;cases h1.1⟩
 ·exact absurd rfl h
theorem NY{s:St}{i:Int}{l:List Nat}(ha:s.down=false∧s.fb=false)(hi:right s i=true)(hl:l.length=s.size)(h:(write s i l).1≠0):(write s i l).1=6∧(write s i l).2.Ab=s.Ab∧((write s i l).2.down=false∧(write s i l).2.fb=false)∧¬Calm s:=by
 have hr:(right s i&&decide (l.length=s.size))=true:=by simp[hi,hl]
 unfold write at h⊢
 dsimp only at h⊢
 by_cases hb:(begin s (right s i&&decide (l.length=s.size))).1=0
 ·rw[if_pos hb]at h;exact absurd rfl h
 ·rw[if_neg hb]at h⊢;exact NZ ha hr h
theorem Xc{s:St}{i:Int}(ha:s.down=false∧s.fb=false)(hi:right s i=true)(h:(read s i).1≠0):(read s i).1=6∧(read s i).2.Ab=s.Ab∧((read s i).2.down=false∧(read s i).2.fb=false)∧¬Calm s:=NZ ha hi h
def Ir(p:Wp)(x:Nat)(t:Wt)(sz:Nat):AU:=⟨fun k=>k=x∨k=t.b∨k=t.g,fun W=>JJ W x p t sz,some (t.b,sz),(t.first,t.blocks),fun D=>D.size=sz→Dq D t⟩
def jn(p:Wp)(x:Nat)(t:Wt):AU:=⟨fun k=>k=x∨k=t.b,fun W=>Hv W x p t,none,(0,0),fun _=>True⟩
def RE(p:Wp)(x:Nat)(t:Wt)(sz:Nat):AU:=⟨fun k=>k=x∨k=t.b,fun W=>Hv W x p t,none,(Af t,AA t.h t.l.length),fun D=>D.size=sz→Az D (Af t) t.k t.h t.l (AA t.h t.l.length)⟩
def Cb(first nb k h:Nat)(l:List AB)(sz:Nat):AU:=⟨fun _=>False,fun _=>True,none,(first,nb),fun D=>D.size=sz→Az D first k h l nb⟩
structure Jr (first nb k h:Nat) (l:List AB) (sz:Nat):Prop where
 kk:0<k∧k≤5
 hh:0<h∧h*k≤sz-2∧h≤254
 N7:h=AE sz k
 bn:nb=AA h l.length
 len:l.length≤100000
 fst:first≤2000000
 fit:∀u∈l,CQ u∧Ac k u=true
def DQ(p:Wp)(x:Nat)(r:Rt)(sz:Nat)(l:List AB):AU:=⟨fun k=>k=x∨k=r.b∨k=r.g,fun W=>∃ws,DA W x p r sz ws∧(r.pos%r.h≠0→ws.take (min r.h (r.count-r.pos/r.h*r.h)*r.k)=Em r.h r.k l (r.pos/r.h)),some (r.b,sz),(0,0),fun _=>True⟩
def N3(p:Wp)(x:Nat)(r:Rt):AU:=⟨fun k=>k=x∨k=r.b,fun W=>Pb W x p r,none,(0,0),fun _=>True⟩
def jD(b g M:Nat):AU:=⟨fun k=>k=b∨k=g,fun W=>Row W b 126 [.slice (some ⟨g,0,none⟩) M M]∧∃ws:List Nat,ws.length=M∧Row W g 127 (ws.map vw),some (b,M),(0,0),fun _=>True⟩
def CN(b g M k:Nat)(l:List AB):AU:=⟨fun k=>k=b∨k=g,fun W=>Row W b 126 [.slice (some ⟨g,0,none⟩) M M]∧∃ws:List Nat,ws.length=M∧Row W g 127 (ws.map vw)∧ws.take (l.length*k)=BA k l,some (b,M),(0,0),fun _=>True⟩
section
variable {p : Wp} {x sz : Nat} {t : Wt} {r : Rt} {l : List AB}
theorem BY{W W':World}{g:Nat}{T:TypeId}{cs:List Value}(h:Row W g T cs)(hk:W'.heap[g]?=W.heap[g]?):Row W' g T cs:=hk.trans h
theorem Kn{D D':St}{first k h m:Nat}{l:List AB}{e:Nat×Nat}(hs:Az D first k h l m)(hz:D'.size=D.size)(hn:∀z:Nat,En e z→D'.now z=D.now z)(he:e.1=first∧m≤e.2):Az D' first k h l m:=fun j hj=>by
 rw[hn (first+j) ⟨by omega,by omega⟩,hz];exact hs j hj
theorem TI(hok:B8 t sz):(Ir p x t sz).Ok:=
  ⟨fun W W' ⟨ws,hm,hh⟩ hk=>⟨ws,⟨BY hm.row (hk _ (.inl rfl)),BY hm.buf (hk _ (.inr (.inl rfl))),BY hm.words (hk _ (.inr (.inr rfl))),hm.len,hm.u64⟩,hh⟩,
   fun D D' h hs hn hz=>Kn (e:=(t.first,t.blocks)) (h (hs▸hz)) hs hn ⟨rfl,by
     have h1:=Am (h:=t.h) hok.h.1 hok.bound.2
     rw[←hok.blocks.1]at h1
     have h2:t.l.length/t.h≤AA t.h t.l.length:=by unfold AA;split<;>omega
     exact Nat.le_trans h2 h1⟩,
   fun b n h=>by injection h with h;injection h with h1 _;exact .inr (.inl h1.symm)⟩
theorem YL:(jn p x t).Ok:=⟨fun W W' ⟨h1,h2⟩ hk=>⟨BY h1 (hk _ (.inl rfl)),BY h2 (hk _ (.inr rfl))⟩,fun _ _ _ _ _=>trivial,fun _ _ h=>by cases h⟩
theorem jq:(RE p x t sz).Ok:=⟨fun W W' ⟨h1,h2⟩ hk=>⟨BY h1 (hk _ (.inl rfl)),BY h2 (hk _ (.inr rfl))⟩,fun D D' h hs hn hz=>Kn (e:=(Af t,AA t.h t.l.length)) (h (hs▸hz)) hs hn ⟨rfl,Nat.le_refl _⟩,fun _ _ h=>by cases h⟩
theorem Qd{first nb k h:Nat}:(Cb first nb k h l sz).Ok:=⟨fun _ _ _ _=>trivial,fun D D' h hs hn hz=>Kn (e:=(first,nb)) (h (hs▸hz)) hs hn ⟨rfl,Nat.le_refl _⟩,fun _ _ h=>by cases h⟩
theorem ZH:(DQ p x r sz l).Ok:=⟨fun W W' ⟨ws,hm,hh⟩ hk=>⟨ws,⟨BY hm.row (hk _ (.inl rfl)),BY hm.buf (hk _ (.inr (.inl rfl))),BY hm.words (hk _ (.inr (.inr rfl))),hm.len,hm.u64⟩,hh⟩,fun _ _ _ _ _=>trivial,fun b n h=>by injection h with h;injection h with h1 _;exact .inr (.inl h1.symm)⟩
theorem kJ:(N3 p x r).Ok:=⟨fun W W' ⟨h1,h2⟩ hk=>⟨BY h1 (hk _ (.inl rfl)),BY h2 (hk _ (.inr rfl))⟩,fun _ _ _ _ _=>trivial,fun _ _ h=>by cases h⟩
theorem mO{b g M:Nat}:(jD b g M).Ok:=⟨fun W W' ⟨h1,ws,h2,h4⟩ hk=>⟨BY h1 (hk _ (.inl rfl)),ws,h2,BY h4 (hk _ (.inr rfl))⟩,fun _ _ _ _ _=>trivial,fun _ _ h=>by injection h with h;injection h with h1 _;exact .inl h1.symm⟩
theorem Pm{b g M k:Nat}:(CN b g M k l).Ok:=⟨fun W W' ⟨h1,ws,h2,h4,h5⟩ hk=>⟨BY h1 (hk _ (.inl rfl)),ws,h2,BY h4 (hk _ (.inr rfl)),h5⟩,fun _ _ _ _ _=>trivial,fun _ _ h=>by injection h with h;injection h with h1 _;exact .inl h1.symm⟩
end
section
variable {X : Cx} {os : List AU} {m i : Nat} {W W' : World} {G : Nat → Prop} {D : St} {A : Ar} {S : Sp} {a : AU} {x : Nat} {t : Wt} {r : Rt} {l : List AB}
theorem Fb.oE(h:Fb X os m W G D A S)(hi:os[i]?=some a)(hx:0<a.ex.2):((a.ex.1+a.ex.2:Nat):Int)≤D.blocks:=by
 have h1:=h.exs i a hi (a.ex.1+a.ex.2-1) ⟨by omega,by omega⟩
 have h2:=(h.s0.2.2.has h1).2
 have h3:=h.range
 rw[h.blocks];omega
theorem Fb.jo(h:Fb X os m W G D A S)(hi:os[i]?=some (Ir X.p x t X.sz)):OV G x t:=⟨((h.mem i _ hi).2 x (.inl rfl)).2.2,((h.mem i _ hi).2 t.b (.inr (.inl rfl))).2.2,((h.mem i _ hi).2 t.g (.inr (.inr rfl))).2.2⟩
theorem dg{sz:Nat}{tu:AB}(hok:B8 t sz)(Fw:t.l.length<t.bound):B8 (t.snoc tu) sz:=⟨hok.k,hok.h,hok.sz,⟨hok.bound.1,by rw[Gb];exact Fw⟩,hok.blocks,hok.first⟩
theorem Dj{A:Ar}{b n:Nat}(hs:Sound A)(h:wordsAt A.st b=some n):(release A b n).used+n=A.used:=by
 have:=Mr hs h
 show A.used-n+n=A.used;omega
theorem Hh{S:Sp}(h:S.ok){f n:Nat}(hlo:S.first≤f∨n=0)(Lx:f+n≤S.first+S.blocks∨n=0)(hno:∀z,f≤z→z<f+n→¬hasB S.fr z):
  (At S f n).first=S.first∧(At S f n).blocks=S.blocks∧(∀z,hasB (At S f n).fr z↔hasB S.fr z∨(f≤z∧z<f+n))∧Ax (At S f n).fr=Ax S.fr+n:=by
 unfold At
 by_cases h0:n=0
 ·subst h0
  rw[if_pos rfl]
  exact⟨rfl,rfl,fun z=>⟨.inl,fun hz=>hz.elim id fun hz=>by omega⟩,rfl⟩
 ·rw[if_neg h0]
  rcases Hg h (f:Int) (n:Int)with⟨s',a,m,ha,hm,h1,he,hg⟩|⟨_,NP⟩
  ·obtain rfl:a=f:=by omega
   obtain rfl:m=n:=by omega
   rw[he]
   exact⟨hg.first,hg.blocks,hg.has,hg.sum⟩
  ·exact absurd ⟨by omega,by omega,hno⟩ (NP f n rfl rfl (by omega))
theorem Fb.held(h:Fb X os m W G D A S)(hi:os[i]?=some a):(∀z,En a.ex z→¬hasB S.fr z)∧(0<a.ex.2→S.first≤a.ex.1∧a.ex.1+a.ex.2≤S.first+S.blocks):=by
 refine⟨fun z hz hf=>((h.free z).1 hf).2 i a hi hz,fun hx=>?_⟩
 have h1:=h.exs i a hi a.ex.1 ⟨by omega,by omega⟩
 have h2:=h.exs i a hi (a.ex.1+a.ex.2-1) ⟨by omega,by omega⟩
 have k1:=h.s0.2.2.has h1
 have k2:=h.s0.2.2.has h2
 rw[h.sp.1,h.sp.2];omega
theorem TN(h:Wd X os m W)(hi:os[i]?=some (Ir X.p x t X.sz))(hok:B8 t X.sz)(hn:X.N+m<1000000){tu:AB}(hf:Ac t.k tu=true)(Fw:t.l.length<t.bound):
  Calls Tryz.prog 39 #[.pointer (some ⟨x,0,none⟩),.agg #[.int .i64 tu.a,.int .i64 tu.b,.int .i64 tu.c,.int .i64 tu.d,.int .i64 tu.e]] W fun e w'=>
   (e=.returned (.int .i64 0)∧Wd X (os.set i (Ir X.p x (t.snoc tu) X.sz)) (m+((t.l.length+1)/t.h-t.l.length/t.h)) w')∨
   (e=.returned (.int .i64 6)∧¬X.cm∧Wd X (os.set i (jn X.p x (t.snoc tu))) (m+1) w'):=by
 obtain⟨G,D,A,S,h⟩:=h
 obtain⟨ws,hm,hh⟩:=h.mem i _ hi|>.1
 obtain⟨l1,l2,l3⟩:=hm.lt
 have ho:=h.jo hi
 have hst:wordsAt A.st t.b=some D.size:=by rw[h.size];exact h.st i _ t.b X.sz hi rfl
 have Hw:wordsAt A.st t.b=some X.sz:=h.st i _ t.b X.sz hi rfl
 have T6:=dg (tu:=tu) hok Fw
 have IB:0<t.blocks:=by rw[hok.blocks.1];exact Bd hok.h.1 (by omega)
 have OR:((t.first+t.blocks:Nat):Int)≤D.blocks:=h.oE hi IB
 have Jc:0<(t.snoc tu).l.length:=by rw[Gb];omega
 have hsz:=h.size
 have T1:Dq D t:=(h.Nb i _ hi) h.size
 refine(Ur (F:=⟨D,A,S⟩) h.sys (by show B8 t D.size;rw[hsz];exact hok) (by show Gp W x X.p t D.size ws;rw[hsz];exact hm) (by have:=h.Ii;omega) ho hst hh tu hf Fw).mono ?_
 rintro e w' (⟨hno,_⟩|⟨_,aM,_⟩|⟨_,_,⟨hm0,rfl,G',k1,k2,k3,k4⟩|⟨hm0,DN,rfl,G',k1,k2,k3,k4⟩|⟨hm0,DN,rfl,G',k1,k2,k3,k4⟩⟩)
 ·rw[hf]at hno;cases hno
 ·omega
 ·refine .inl ⟨rfl,?_⟩
  rw[Fz hok.h.1 hm0,Nat.sub_self,Nat.add_zero]
  have FK:JJ w' x X.p (t.snoc tu) X.sz:=by rw[←hsz];exact k2
  obtain⟨Bt,hm',_⟩:=id FK
  obtain⟨q1,q2,q3⟩:=hm'.lt
  refine⟨G',D,A,S,h.step hi k1 (k3.mono fun k hk=>hk.elim .inl fun hk=>hk.elim (fun e=>.inr (.inl e)) fun e=>.inr (.inr (.inr e))) k4 (TI T6) FK (fun k hk=>⟨.inl hk,?_,?_⟩) ⟨rfl,rfl⟩ h.alive id h.Ab (fun _ _=>rfl) (fun _=>MW hok.h.1 T1 hm0) rfl rfl (fun _ _ hw _=>hw) (fun b n hb=>by injection hb with hb;injection hb with h1 h2;subst h1 h2;exact Hw) ⟨rfl,rfl⟩ (fun z=>⟨fun hz=>⟨.inl hz,(h.held hi).1 z|>fun hx iF=>hx iF hz⟩,fun hz=>hz.1.elim id fun hx=>absurd hx hz.2⟩) (fun z hz=>.inl hz) rfl⟩
  ·exact hk.elim (fun e=>by rw[e];exact q1) fun hk=>hk.elim (fun e=>by rw[e];exact q2) fun e=>by rw[e];exact q3
  ·exact fun hg=>(k4 k hg).elim ((h.mem i _ hi).2 k hk).2.2 fun hl=>by have:=((h.mem i _ hi).2 k hk).1;omega
 ·refine .inl ⟨rfl,?_⟩
  rw[Ij hok.h.1 hm0,show t.l.length/t.h+1-t.l.length/t.h=1 by omega]
  have Ja:DD D (write D (AV (t.snoc tu):Nat) (AT D.size (t.snoc tu))).2 1:=Fj DN
  have wM:(write D (AV (t.snoc tu):Nat) (AT D.size (t.snoc tu))).2.size=X.sz:=Ja.size.trans hsz
  have FK:JJ w' x X.p (t.snoc tu) X.sz:=by rw[←wM];exact k2
  obtain⟨Bt,hm',_⟩:=id FK
  obtain⟨q1,q2,q3⟩:=hm'.lt
  have xE:=QI (D:=D) (by rw[hsz];exact T6) Jc
  refine⟨G',_,A,S,h.step hi k1 (k3.mono fun k hk=>hk.elim .inl fun hk=>hk.elim (fun e=>.inr (.inl e)) fun e=>.inr (.inr (.inr e))) k4 (TI T6) FK (fun k hk=>⟨.inl hk,?_,?_⟩) ⟨Ja.size,Ja.blocks⟩ (Ja.alive h.alive) Ja.calm (by rw[Ja.Ab];have:=h.Ab;omega) (fun z hz=>(Ku DN).2.1 _ fun e=>hz ?_) (fun _=>MU hok.h.1 T1 hm0 DN) rfl rfl (fun _ _ hw _=>hw) (fun b n hb=>by injection hb with hb;injection hb with h1 h2;subst h1 h2;exact Hw) ⟨rfl,rfl⟩ (fun z=>⟨fun hz=>⟨.inl hz,(h.held hi).1 z|>fun hx iF=>hx iF hz⟩,fun hz=>hz.1.elim id fun hx=>absurd hx hz.2⟩) (fun z hz=>.inl hz) rfl⟩
  ·exact hk.elim (fun e=>by rw[e];exact q1) fun hk=>hk.elim (fun e=>by rw[e];exact q2) fun e=>by rw[e];exact q3
  ·exact fun hg=>(k4 k hg).elim ((h.mem i _ hi).2 k hk).2.2 fun hl=>by have:=((h.mem i _ hi).2 k hk).1;omega
  ·have e':z=AV (t.snoc tu):=by omega
   rw[e'];exact xE
 ·obtain⟨f1,f2,f3,f4⟩:=NY h.alive (JZ (by rw[hsz];exact T6) Jc OR) (M7 (by rw[hsz];exact T6) Jc) DN
  obtain⟨tf,iC,tZ⟩:=Ru DN
  refine .inr ⟨by rw[f1],fun hc=>f4 (h.calm hc),?_⟩
  have Ly:(At S (t.first+0) (t.blocks-0)).first=S.first∧(At S (t.first+0) (t.blocks-0)).blocks=S.blocks∧(∀z,hasB (At S (t.first+0) (t.blocks-0)).fr z↔hasB S.fr z∨(t.first+0≤z∧z<t.first+0+(t.blocks-0)))∧Ax (At S (t.first+0) (t.blocks-0)).fr=Ax S.fr+(t.blocks-0):=Hh h.sys.U1 (f:=t.first+0) (n:=t.blocks-0) (.inl ((h.held hi).2 IB).1) (.inl ((h.held hi).2 IB).2) (fun z z1 z2=>(h.held hi).1 z ⟨z1,z2⟩)
  refine⟨G',_,_,_,h.step hi k1 (k3.mono fun k hk=>hk.elim .inl fun hk=>hk.elim (fun e=>.inr (.inl e)) fun hk=>hk.elim (fun e=>.inr (.inr (.inr e))) fun e=>.inr (.inr (.inl e))) k4 YL k2 (fun k hk=>⟨.inl (hk.elim .inl fun hk=>.inr (.inl hk)),?_,?_⟩) ⟨iC,tZ⟩ f3 (fun hc=>absurd hc f4) (by rw[f2];have:=h.Ab;omega) (fun z _=>tf z) trivial rfl ?_ (fun b n hw hb=>Br _ _ _ _ hw fun e=>hb (.inr (.inl e))) (fun b n hb=>by cases hb) ⟨Ly.1,Ly.2.1⟩ (fun z=>?_) (fun z hz=>absurd hz (AZ _ _)) ?_⟩
  ·exact hk.elim (fun e=>by rw[e];exact k2.1.lt) fun e=>by rw[e];exact k2.2.lt
  ·refine fun hg=>(k4 k hg).elim ((h.mem i _ hi).2 k (hk.elim .inl fun hk=>.inr (.inl hk))).2.2 fun hl=>?_
   rcases hk with rfl|rfl
   ·omega
   ·have:(t.snoc tu).b=t.b:=rfl
    omega
  ·have hu:=Dj h.sys.sound (b:=t.b) (n:=(write D (AV (t.snoc tu):Nat) (AT D.size (t.snoc tu))).2.size) (by rw[iC];exact hst)
   rw[iC,hsz]at hu
   show (release A t.b (write D (AV (t.snoc tu):Nat) (AT D.size (t.snoc tu))).2.size).used+X.sz=A.used+0
   rw[iC,hsz];omega
  ·show hasB (At S (t.first+0) (t.blocks-0)).fr z↔ _
   rw[Ly.2.2.1 z]
   exact⟨fun hz=>⟨hz,AZ _ _⟩,fun hz=>hz.1⟩
  ·show Ax (At S (t.first+0) (t.blocks-0)).fr+0=Ax S.fr+t.blocks
   rw[Ly.2.2.2];omega
end
section
variable {X : Cx} {os : List AU} {m i : Nat} {W W' : World} {G : Nat → Prop} {D : St} {A : Ar} {S : Sp} {a : AU} {x : Nat} {t : Wt} {r : Rt} {l : List AB}
theorem Pr{D:St}{t:Wt}(hs:Az D t.first t.k t.h t.l (AA t.h t.l.length)):Az D (Af t) t.k t.h t.l (AA t.h t.l.length):=by
 unfold Af
 by_cases h0:t.l.length=0
 ·rw[if_pos h0,h0,Aw]
  intro j hj;omega
 ·rw[if_neg h0];exact hs
theorem ak{t:Wt}{sz:Nat}(hok:B8 t sz):AA t.h t.l.length≤t.blocks∧∀z,En (Af t,AA t.h t.l.length) z↔t.first≤z∧z<t.first+AA t.h t.l.length:=by
 refine⟨by rw[hok.blocks.1];exact Am hok.h.1 hok.bound.2,fun z=>?_⟩
 unfold En Af
 by_cases h0:t.l.length=0
 ·rw[if_pos h0,h0,Aw];simp only;omega
 ·rw[if_neg h0]
theorem Fb.jE(h:Fb X os m W G D A S)(hi:os[i]?=some (Ir X.p x t X.sz)){n:Nat}(hn:n≤t.blocks):
  (At S (t.first+n) (t.blocks-n)).first=S.first∧(At S (t.first+n) (t.blocks-n)).blocks=S.blocks∧(∀z,hasB (At S (t.first+n) (t.blocks-n)).fr z↔hasB S.fr z∨(t.first+n≤z∧z<t.first+t.blocks))∧Ax (At S (t.first+n) (t.blocks-n)).fr=Ax S.fr+(t.blocks-n):=by
 obtain⟨k1,k2⟩:=h.held hi
 have k2:0<t.blocks→S.first≤t.first∧t.first+t.blocks≤S.first+S.blocks:=k2
 have h1:=Hh (S:=S) h.sys.U1 (f:=t.first+n) (n:=t.blocks-n) (by
  rcases Nat.eq_zero_or_pos (t.blocks-n)with h0|h0
  ·exact .inr h0
  ·have:=k2 (by omega);exact .inl (by omega)) (by
  rcases Nat.eq_zero_or_pos (t.blocks-n)with h0|h0
  ·exact .inr h0
  ·have:=k2 (by omega);exact .inl (by omega)) (fun z z1 z2=>k1 z ⟨by show t.first≤z;omega,by show z<t.first+t.blocks;omega⟩)
 rw[show t.first+n+(t.blocks-n)=t.first+t.blocks by omega]at h1
 exact h1
theorem Fb.shut(h:Fb X os m W G D A S)(hi:os[i]?=some (Ir X.p x t X.sz)){t':Wt}(ht:t'.b=t.b){G':Nat→Prop}{D':St}{m':Nat}(k1:Sys W' G' X.p ⟨D',release A t.b X.sz,At S (t.first+0) (t.blocks-0)⟩ (X.n+m'))(k2:Hv W' x X.p t')(k3:AK (fun k=>G k∨k=x∨k=t.g∨k=t.b) W W')(k4:∀k,G' k→G k∨W.heap.size≤k)
  (hD:D'.size=D.size∧D'.blocks=D.blocks) (alive:D'.down=false∧D'.fb=false) (calm:Calm D→Calm D') (Ab:D'.Ab≤((X.C+m':Nat):Int)) (now:∀z:Nat,D'.now z=D.now z) (Ii:X.N+m'≤1000000:=by first|exact(Fb.Ii (by assumption)).2|omega):Wd X (os.set i (jn X.p x t')) m' W':=by
 have Hw:wordsAt A.st t.b=some X.sz:=h.st i _ t.b X.sz hi rfl
 have Ly:=h.jE hi (Nat.zero_le _)
 refine⟨G',_,_,_,h.step hi k1 (k3.mono fun k hk=>hk.elim .inl fun hk=>hk.elim (fun e=>.inr (.inl e)) fun hk=>hk.elim (fun e=>.inr (.inr (.inr e))) fun e=>.inr (.inr (.inl e))) k4 YL k2 (fun k hk=>?_) hD alive calm Ab (fun z _=>now z) trivial rfl ?_ (fun b n hw hb=>Br _ _ _ _ hw fun e=>hb (.inr (.inl e))) (fun b n hb=>by cases hb) ⟨Ly.1,Ly.2.1⟩ (fun z=>?_) (fun z hz=>absurd hz (AZ _ _)) ?_⟩
 ·have Ep:(Ir X.p x t X.sz).K k:=hk.elim .inl fun hk=>.inr (.inl (hk.trans ht))
  refine⟨.inl Ep,hk.elim (fun e=>by rw[e];exact k2.1.lt) fun e=>by rw[e];exact k2.2.lt,fun hg=>(k4 k hg).elim ((h.mem i _ hi).2 k Ep).2.2 fun hl=>?_⟩
  have:=((h.mem i _ hi).2 k Ep).1;omega
 ·have hu:=Dj h.sys.sound Hw
  show (release A t.b X.sz).used+X.sz=A.used+0
  exact hu
 ·rw[Ly.2.2.1 z]
  exact⟨fun hz=>⟨hz,AZ _ _⟩,fun hz=>hz.1⟩
 ·show Ax (At S (t.first+0) (t.blocks-0)).fr+0=Ax S.fr+t.blocks
  rw[Ly.2.2.2];omega
theorem Fb.jF(h:Fb X os m W G D A S)(hi:os[i]?=some (Ir X.p x t X.sz))(hok:B8 t X.sz){G':Nat→Prop}{D':St}{m':Nat}(k1:Sys W' G' X.p ⟨D',release A t.b X.sz,At S (t.first+AA t.h t.l.length) (t.blocks-AA t.h t.l.length)⟩ (X.n+m'))(k2:Hv W' x X.p t)(k3:AK (fun k=>G k∨k=x∨k=t.g∨k=t.b) W W')(k4:∀k,G' k→G k∨W.heap.size≤k)
  (hD:D'.size=D.size∧D'.blocks=D.blocks) (alive:D'.down=false∧D'.fb=false) (calm:Calm D→Calm D') (Ab:D'.Ab≤((X.C+m':Nat):Int)) (now:∀z:Nat,¬En (t.first,t.blocks) z→D'.now z=D.now z) (hs:Az D' t.first t.k t.h t.l (AA t.h t.l.length)) (Ii:X.N+m'≤1000000:=by first|exact(Fb.Ii (by assumption)).2|omega):Wd X (os.set i (RE X.p x t X.sz)) m' W':=by
 have Hw:wordsAt A.st t.b=some X.sz:=h.st i _ t.b X.sz hi rfl
 obtain⟨hn,OR⟩:=ak hok
 have Ly:=h.jE hi hn
 have IY:=(h.held hi).1
 refine⟨G',_,_,_,h.step hi k1 (k3.mono fun k hk=>hk.elim .inl fun hk=>hk.elim (fun e=>.inr (.inl e)) fun hk=>hk.elim (fun e=>.inr (.inr (.inr e))) fun e=>.inr (.inr (.inl e))) k4 jq k2 (fun k hk=>?_) hD alive calm Ab now (fun _=>Pr hs) rfl ?_ (fun b n hw hb=>Br _ _ _ _ hw fun e=>hb (.inr (.inl e))) (fun b n hb=>by cases hb) ⟨Ly.1,Ly.2.1⟩ (fun z=>?_) (fun z hz=>?_) ?_⟩
 ·have Ep:(Ir X.p x t X.sz).K k:=hk.elim .inl fun hk=>.inr (.inl hk)
  refine⟨.inl Ep,hk.elim (fun e=>by rw[e];exact k2.1.lt) fun e=>by rw[e];exact k2.2.lt,fun hg=>(k4 k hg).elim ((h.mem i _ hi).2 k Ep).2.2 fun hl=>?_⟩
  have:=((h.mem i _ hi).2 k Ep).1;omega
 ·have hu:=Dj h.sys.sound Hw
  show (release A t.b X.sz).used+X.sz=A.used+0
  exact hu
 ·rw[Ly.2.2.1 z]
  have h1:En (RE X.p x t X.sz).ex z↔t.first≤z∧z<t.first+AA t.h t.l.length:=OR z
  have h2:En (Ir X.p x t X.sz).ex z↔t.first≤z∧z<t.first+t.blocks:=Iff.rfl
  have h3:=IY z
  rw[h1,h2]
  rw[h2]at h3
  refine⟨fun hz=>?_,fun⟨hz,hno⟩=>?_⟩
  ·rcases hz with hz|hz
   ·exact⟨.inl hz,fun hx=>h3 ⟨hx.1,by omega⟩ hz⟩
   ·exact⟨.inr ⟨by omega,hz.2⟩,by omega⟩
  ·rcases hz with hz|hz
   ·exact .inl hz
   ·exact .inr ⟨by omega,hz.2⟩
 ·have h1:En (RE X.p x t X.sz).ex z↔t.first≤z∧z<t.first+AA t.h t.l.length:=OR z
  rw[h1]at hz
  exact .inl ⟨hz.1,by show z<t.first+t.blocks;omega⟩
 ·show Ax (At S (t.first+AA t.h t.l.length) (t.blocks-AA t.h t.l.length)).fr+AA t.h t.l.length=Ax S.fr+t.blocks
  rw[Ly.2.2.2];omega
theorem RI(h:Wd X os m W)(hi:os[i]?=some (Ir X.p x t X.sz))(hok:B8 t X.sz)(hn:X.N+m<1000000):
  Calls Tryz.prog 40 #[.pointer (some ⟨x,0,none⟩)] W fun e w'=>
   (e=.returned (.tuple #[Cq (Af t) (AA t.h t.l.length) t.k t.l.length,.int .i64 0])∧Wd X (os.set i (RE X.p x t X.sz)) (m+(AA t.h t.l.length-t.l.length/t.h)) w')∨
   (e=.returned (.tuple #[Cq 0 0 0 0,.int .i64 6])∧¬X.cm∧Wd X (os.set i (jn X.p x t)) (m+1) w'):=by
 obtain⟨G,D,A,S,h⟩:=h
 have hm:=(h.mem i _ hi).1
 have ho:=h.jo hi
 have hsz:=h.size
 have hst:wordsAt A.st t.b=some D.size:=by rw[h.size];exact h.st i _ t.b X.sz hi rfl
 have T1:Dq D t:=(h.Nb i _ hi) h.size
 have XF:B8 t D.size:=by rw[hsz];exact hok
 refine(Mc (F:=⟨D,A,S⟩) h.sys (by have:=h.Ii;omega) XF (by show JJ W x X.p t D.size;rw[hsz];exact hm) ho hst).mono ?_
 rintro e w' (⟨hm0,rfl,G',k1,k2,k3,k4⟩|⟨hm0,DN,rfl,G',k1,k2,k3,k4⟩|⟨hm0,DN,rfl,G',k1,k2,k3,k4⟩)
 ·refine .inl ⟨rfl,?_⟩
  rw[EN hm0,Nat.sub_self,Nat.add_zero]
  have OM:Sys w' G' X.p ⟨D,release A t.b D.size,At S (t.first+AA t.h t.l.length) (t.blocks-AA t.h t.l.length)⟩ (X.n+m):=k1
  rw[hsz]at OM
  exact h.jF hi hok OM k2 k3 k4 ⟨rfl,rfl⟩ h.alive id h.Ab (fun _ _=>rfl) (LL T1 hm0)
 ·refine .inl ⟨rfl,?_⟩
  have Jc:0<t.l.length:=by
   rcases Nat.eq_zero_or_pos t.l.length with h1|h1
   ·rw[h1]at hm0;simp at hm0
   ·exact h1
  have Ja:DD D (write D (AV t:Nat) (AT D.size t)).2 1:=Fj DN
  have xE:=QI (D:=D) XF Jc
  have OM:Sys w' G' X.p ⟨(write D (AV t:Nat) (AT D.size t)).2,release A t.b (write D (AV t:Nat) (AT D.size t)).2.size,At S (t.first+AA t.h t.l.length) (t.blocks-AA t.h t.l.length)⟩ (X.n+m+1):=k1
  rw[Ja.size,hsz]at OM
  rw[hsz]at Ja DN
  have Aj:AA t.h t.l.length-t.l.length/t.h=1:=by unfold AA;rw[if_pos (by omega)];omega
  rw[Aj]
  exact h.jF hi hok OM k2 k3 k4 ⟨Ja.size,Ja.blocks⟩ (Ja.alive h.alive) Ja.calm (by rw[Ja.Ab];have:=h.Ab;omega) (fun z hz=>(Ku DN).2.1 _ fun e=>hz (by
   have e':z=AV t:=by omega
   rw[e'];exact xE)) (by
   have:=Jx hok.h.1 T1 hm0 (by rw[hsz];exact DN)
   rw[hsz]at this;exact this)
 ·have Jc:0<t.l.length:=by
   rcases Nat.eq_zero_or_pos t.l.length with h1|h1
   ·rw[h1]at hm0;simp at hm0
   ·exact h1
  have IB:0<t.blocks:=by rw[hok.blocks.1];exact Bd hok.h.1 (by have:=hok.bound.2;omega)
  have OR:((t.first+t.blocks:Nat):Int)≤D.blocks:=h.oE hi IB
  obtain⟨f1,f2,f3,f4⟩:=NY h.alive (JZ XF Jc OR) (M7 XF Jc) DN
  obtain⟨tf,iC,tZ⟩:=Ru DN
  refine .inr ⟨by rw[f1],fun hc=>f4 (h.calm hc),?_⟩
  have OM:Sys w' G' X.p ⟨(write D (AV t:Nat) (AT D.size t)).2,release A t.b (write D (AV t:Nat) (AT D.size t)).2.size,At S (t.first+0) (t.blocks-0)⟩ (X.n+m+1):=k1
  have vV:(write D (AV t:Nat) (AT D.size t)).2.size=D.size:=iC
  rw[vV,hsz]at OM
  rw[hsz]at tf iC tZ f2 f3
  exact h.shut hi rfl OM k2 k3 k4 ⟨iC.trans hsz.symm,tZ⟩ f3 (fun hc=>absurd hc f4) (by rw[f2];have:=h.Ab;omega) (fun z=>tf z)
theorem dI(h:Wd X os m W)(hi:os[i]?=some (Ir X.p x t X.sz))(hok:B8 t X.sz)(u:FrameMode):
  CallsD Tryz.prog 38 #[.pointer (some ⟨x,0,none⟩)] u W fun e u' w'=>u'=u∧(e=.returned (.tuple #[])∧Wd X (os.set i (jn X.p x t)) m w'):=by
 obtain⟨G,D,A,S,h⟩:=h
 obtain⟨ws,hm,hh⟩:=(h.mem i _ hi).1
 have ho:=h.jo hi
 have hsz:=h.size
 have hst:wordsAt A.st t.b=some D.size:=by rw[h.size];exact h.st i _ t.b X.sz hi rfl
 refine(Ob u (F:=⟨D,A,S⟩) h.sys hm.row hm.buf (by have:=hok.sz;omega) ho.x hst hm.apart.1 hok.first hok.blocks.2).mono ?_
 rintro e u' w' ⟨rfl,rfl,he⟩
 refine⟨rfl,rfl,?_⟩
 have hx:=he.row hm.row ho.x hm.apart.1
 obtain⟨G',k1,k2,k3,k4⟩:=he
 have OM:Sys w' G' X.p ⟨D,release A t.b D.size,At S (t.first+0) (t.blocks-0)⟩ (X.n+m):=k1
 rw[hsz]at OM
 exact h.shut hi rfl OM ⟨hx,k4⟩ (k2.mono fun k hk=>hk.elim .inl fun e=>.inr (.inr (.inr e))) k3 ⟨rfl,rfl⟩ h.alive id h.Ab (fun _=>rfl)
theorem G3(hs:Hv W x X.p t)(u:FrameMode):CallsD Tryz.prog 38 #[.pointer (some ⟨x,0,none⟩)] u W fun e u' w'=>u'=u∧(e=.returned (.tuple #[])∧w'=W):=E9 u hs.1 hs.2
def Rm(X:Cx)(os:List AU)(k n:Nat):Prop:=∀z,k≤z→z<k+n→hasB X.S0.fr z∧∀(i:Nat) (a:AU),os[i]?=some a→¬En a.ex z
theorem RF(h:Wd X os m W)(k bound:Nat)(AD3:0<AE X.sz k)(hb:bound≤100000)(hroom:X.sz+Aa AU.gw os≤X.rm):
  Calls Tryz.prog 37 #[.pointer (some ⟨X.p.w,0,none⟩),.int .i64 k,.int .i64 bound] W fun e w'=>
   (e=.returned (.tuple #[.pointer none,.int .i64 5])∧(∀q,¬Rm X os q (AA (AE X.sz k) bound))∧Wd X os m w')∨
   (∃x t,e=.returned (.tuple #[.pointer (some ⟨x,0,none⟩),.int .i64 0])∧t.k=k∧t.h=AE X.sz k∧t.bound=bound∧t.l=[]∧B8 t X.sz∧Wd X (os++[Ir X.p x t X.sz]) m w'):=by
 obtain⟨G,D,A,S,h⟩:=h
 have hsz:=h.size
 have X9:FX ⟨D,A,S⟩ (k:Int) (bound:Int):=⟨by show AE D.size k≠0;rw[hsz];omega,by omega,by omega⟩
 have hu:=h.used
 have JE:=h.room
 have Z5:D.size≤A.room-A.used:=by rw[hsz,JE,hu];omega
 refine(V3 (F:=⟨D,A,S⟩) h.sys (k:Int) (bound:Int) h.Lg).mono ?_
 rintro e w' (⟨er,he,hw,hs⟩|⟨x,t,S1,G1,he,_,_,QN,ep,oG,Zw,YA,hq,k4,k5,k7,k8,x1,x2,x3⟩)
 ·rcases hw with⟨_,hno⟩|⟨_,_,hlt⟩|⟨rfl,_,_,Bw,hno⟩
  ·exact absurd X9 hno
  ·exact absurd Z5 (by show ¬D.size≤A.room-A.used;have:A.room-A.used<D.size:=hlt;omega)
  ·refine .inl ⟨he,fun q hr=>hno q fun z z1 z2=>?_,?_⟩
   ·have Ap:=hr z z1 (by
     have e2:AA (AE D.size (k:Int)) (bound:Int).toNat=AA (AE X.sz k) bound:=by rw[hsz,Int.toNat_natCast]
     have zf:z<q+AA (AE D.size (k:Int)) (bound:Int).toNat:=z2
     rw[e2]at zf;exact zf)
    exact(h.free z).2 Ap
   ·obtain⟨G',h1,h2,h3⟩:=hs
    have KI:=h.grow
    have XG:(os++[Bl])[os.length]?=some Bl:=by rw[List.getElem?_append_right (Nat.le_refl _),Nat.sub_self];rfl
    have hstep:=KI.step XG h1 (h2.mono fun k hk=>.inl hk) h3 J9 trivial (fun k hk=>hk.elim) ⟨rfl,rfl⟩ h.alive id h.Ab (fun _ _=>rfl) trivial rfl rfl (fun _ _ hw _=>hw) (fun _ _ hb=>by cases hb) ⟨rfl,rfl⟩ (fun z=>⟨fun hz=>⟨.inl hz,AZ _ _⟩,fun hz=>hz.1.elim id fun hx=>absurd hx (AZ _ _)⟩) (fun z hz=>.inl hz) rfl
    rw[List.set_append_right _ _ (Nat.le_refl _),Nat.sub_self]at hstep
    exact Wd.drop ⟨_,_,_,_,hstep⟩ rfl rfl
 ·have hkk:t.k=k:=by omega
  have KR:t.bound=bound:=by omega
  have O6:t.h=AE X.sz k:=by rw[oG];show AE D.size k= _;rw[hsz]
  have hok:B8 t X.sz:=by rw[←hsz];exact k5.ok
  refine .inr ⟨x,t,he,hkk,O6,KR,Zw,hok,?_⟩
  have KI:=h.grow
  have XG:(os++[Bl])[os.length]?=some Bl:=by rw[List.getElem?_append_right (Nat.le_refl _),Nat.sub_self];rfl
  have hex:∀z,En (t.first,t.blocks) z→hasB S.fr z:=fun z hz=>by
   rcases YA with⟨h0,_,_⟩|⟨_,W0,_⟩
   ·unfold En at hz;simp only at hz;omega
   ·exact W0.room z hz.1 hz.2
  obtain⟨ws,hm,_⟩:=id k5.mem
  obtain⟨q1,q2,q3⟩:=hm.lt
  have hstep:=KI.step (a':=Ir X.p x t X.sz) (D':=D) (A':=Bo A t.b D.size) (S':=S1) XG k4 (k7.mono fun k hk=>.inl hk) k8 (TI hok) (by show JJ w' x X.p t X.sz;rw[←hsz];exact k5.mem) (fun k hk=>?_) ⟨rfl,rfl⟩ h.alive id h.Ab (fun _ _=>rfl) (fun _=>k5.stand) rfl (by show A.used+D.size+0=A.used+X.sz;omega) (fun b n hw _=>E8 _ _ _ _ _ hw) (fun b n hb=>by injection hb with hb;injection hb with h1 h2;subst h1 h2;rw[←hsz];exact k5.st) (by
    rcases YA with⟨_,_,e⟩|⟨_,W0,_⟩
    ·rw[e];exact⟨rfl,rfl⟩
    ·exact⟨W0.first,W0.blocks⟩) (fun z=>?_) (fun z hz=>.inr (hex z hz)) ?_
  ·rw[List.set_append_right _ _ (Nat.le_refl _),Nat.sub_self]at hstep
   exact⟨_,_,_,_,hstep⟩
  ·exact hk.elim (fun e=>by rw[e];exact⟨.inr x1,q1,k5.out.x⟩) fun hk=>hk.elim (fun e=>by rw[e];exact⟨.inr x2,q2,k5.out.b⟩) fun e=>by rw[e];exact⟨.inr x3,q3,k5.out.g⟩
  ·rcases YA with⟨h0,h1,e⟩|⟨_,W0,_⟩
   ·rw[e]
    have hno:¬En (Ir X.p x t X.sz).ex z:=fun hz=>by have hz:En (t.first,t.blocks) z:=hz;unfold En at hz;simp only at hz;omega
    exact⟨fun hz=>⟨.inl hz,hno⟩,fun hz=>hz.1.elim id fun hx=>absurd hx (AZ _ _)⟩
   ·rw[W0.has z]
    exact⟨fun hz=>⟨.inl hz.1,hz.2⟩,fun hz=>⟨hz.1.elim id fun hx=>absurd hx (AZ _ _),hz.2⟩⟩
  ·have:=Og YA
   show Ax S1.fr+t.blocks=Ax S.fr+0
   omega
end
section
variable {X : Cx} {os : List AU} {m i : Nat} {W W' : World} {G : Nat → Prop} {D : St} {A : Ar} {S : Sp} {a : AU} {x : Nat} {t : Wt} {r : Rt} {l : List AB}
theorem Tn(os:List AU):(os++[Bl])[os.length]?=some Bl:=by rw[List.getElem?_append_right (Nat.le_refl _),Nat.sub_self];rfl
theorem DI(os:List AU)(a b:AU):(os++[a]).set os.length b=os++[b]:=by rw[List.set_append_right _ _ (Nat.le_refl _),Nat.sub_self];rfl
theorem Mn(os:List AU){i:Nat}{a:AU}(h:os[i]?=some a)(b:AU):(os.set i b)[i]?=some b:=by
 rw[List.getElem?_set,if_pos rfl,if_pos]
 rcases Nat.lt_or_ge i os.length with hl|hl
 ·exact hl
 ·rw[List.getElem?_eq_none hl]at h;cases h
theorem B4{os:List AU}{i j:Nat}{a b:AU}(h:os[j]?=some a)(hne:i≠j):(os.set i b)[j]?=some a:=by rw[List.getElem?_set,if_neg hne];exact h
theorem Yr{os:List AU}{j:Nat}{a b:AU}(h:os[j]?=some a):(os++[b])[j]?=some a:=by
 rw[List.getElem?_append_left]
 ·exact h
 ·rcases Nat.lt_or_ge j os.length with hl|hl
  ·exact hl
  ·rw[List.getElem?_eq_none hl]at h;cases h
structure gB (r:Rt) (sz:Nat) (l:List AB):Prop where
 ok:Fc r sz
 cnt:l.length=r.count
 fit:∀u∈l,CQ u∧Ac r.k u=true
def Src(os:List AU)(sz:Nat)(first k h:Nat)(l:List AB):Prop:=∃(j:Nat) (f:AU),os[j]?=some f∧(∀D:St,D.size=sz→f.dA D→Az D first k h l (AA h l.length))∧(0<l.length→f.ex.1≤first∧first+AA h l.length≤f.ex.1+f.ex.2)
theorem Src.set{sz first k h:Nat}(hs:Src os sz first k h l){i:Nat}{a b:AU}(hi:os[i]?=some a)(ha:a.dA=b.dA∧a.ex=b.ex):Src (os.set i b) sz first k h l:=by
 obtain⟨j,f,h1,h2,h3⟩:=hs
 by_cases Fa:i=j
 ·subst Fa
  rw[hi]at h1;injection h1 with h1;subst h1
  exact⟨i,b,Mn os hi b,by rw[←ha.1];exact h2,by rw[←ha.2];exact h3⟩
 ·exact⟨j,f,B4 h1 Fa,h2,h3⟩
theorem Src.snoc{sz first k h:Nat}(hs:Src os sz first k h l)(b:AU):Src (os++[b]) sz first k h l:=by
 obtain⟨j,f,h1,h2,h3⟩:=hs
 exact⟨j,f,Yr h1,h2,h3⟩
theorem Pg(h:Wd X os m W)(first nb k hh count:Nat)(l:List AB)(JG:hh=AE X.sz k)(DO:0<hh)(Hz:nb=AA hh count)(FM:count≤100000)(NL:first≤2000000)(hroom:X.sz+Aa AU.gw os≤X.rm):
  Calls Tryz.prog 50 #[.pointer (some ⟨X.p.w,0,none⟩),.agg #[.int .i64 first,.int .i64 nb,.int .i64 k,.int .i64 count]] W fun e w'=>∃x b g,e=.returned (.tuple #[.pointer (some ⟨x,0,none⟩),.int .i64 0])∧Fc ⟨k,hh,first,nb,count,0,b,g⟩ X.sz∧Wd X (os++[DQ X.p x ⟨k,hh,first,nb,count,0,b,g⟩ X.sz l]) m w':=by
 obtain⟨G,D,A,S,h⟩:=h
 have hsz:=h.size
 have hu:=h.used
 have JE:=h.room
 have hz:8≤X.sz∧X.sz≤256:=by rw[←hsz];exact h.sys.size
 obtain⟨k',iS,FK,hk3,XI⟩:=Gh (size:=X.sz) (width:=(k:Int)) (by rw[←JG];omega)
 obtain rfl:k=k':=by omega
 refine(af (F:=⟨D,A,S⟩) h.sys k hh first nb count (by show hh=AE D.size k;rw[hsz];exact JG) DO Hz (by omega) (by show D.size≤A.room-A.used;rw[hsz,JE,hu];omega)).mono ?_
 rintro e w' ⟨x,b,g,he,n1,n2,n3,G',k1,⟨ws,k2⟩,k3,k4,k5⟩
 have hle:=Dm X.sz (k:Int)
 have hok:Fc ⟨k,hh,first,nb,count,0,b,g⟩ X.sz:=⟨⟨FK,hk3⟩,⟨DO,by rw[JG];exact XI,by show hh≤254;rw[JG];omega⟩,hz,⟨by show count≤ _;omega,Nat.zero_le _⟩,NL⟩
 have n2:W.heap.size≤b:=n2
 refine⟨x,b,g,he,hok,?_⟩
 have KI:=h.grow
 have hq:∀q∈A.st,q.1≠b:=fun q hq e=>by have:=(h.sys.buf hq).1.lt;omega
 obtain⟨q1,q2,q3⟩:=k2.lt
 have hstep:=KI.step (a':=DQ X.p x ⟨k,hh,first,nb,count,0,b,g⟩ X.sz l) (D':=D) (A':=Bo A b D.size) (S':=S) (Tn os) k1 (k4.mono fun k hk=>.inl hk) k5 ZH ⟨ws,by rw[←hsz];exact k2,fun h0=>by simp at h0⟩ (fun k hk=>?_) ⟨rfl,rfl⟩ h.alive id h.Ab (fun _ _=>rfl) trivial rfl (by show A.used+D.size+0=A.used+X.sz;omega) (fun b n hw _=>E8 _ _ _ _ _ hw) (fun b' n hb=>by injection hb with hb;injection hb with h1 h2;subst h1 h2;rw[←hsz];exact DV _ _ _ hq) ⟨rfl,rfl⟩ (fun z=>⟨fun hz=>⟨.inl hz,AZ _ _⟩,fun hz=>hz.1.elim id fun hx=>absurd hx (AZ _ _)⟩) (fun z hz=>absurd hz (AZ _ _)) rfl
 ·rw[DI]at hstep
  exact⟨_,_,_,_,hstep⟩
 ·exact hk.elim (fun e=>by rw[e];exact⟨.inr n1,q1,k3.x⟩) fun hk=>hk.elim (fun e=>by rw[e];exact⟨.inr n2,q2,k3.b⟩) fun e=>by rw[e];exact⟨.inr n3,q3,k3.g⟩
theorem Fb.kK{l:List AB}(h:Fb X os m W G D A S)(hi:os[i]?=some (DQ X.p x r X.sz l)):Jo G x r:=⟨((h.mem i _ hi).2 x (.inl rfl)).2.2,((h.mem i _ hi).2 r.b (.inr (.inl rfl))).2.2,((h.mem i _ hi).2 r.g (.inr (.inr rfl))).2.2⟩
theorem Fb.Y6(h:Fb X os m W G D A S)(hi:os[i]?=some (DQ X.p x r X.sz l)){G':Nat→Prop}{D':St}{m':Nat}(k1:Sys W' G' X.p ⟨D',release A r.b X.sz,S⟩ (X.n+m'))(k2:Pb W' x X.p r)(k3:AK (fun k=>G k∨k=r.b∨k=r.g) W W')(k4:∀k,G' k→G k∨W.heap.size≤k)
  (hD:D'.size=D.size∧D'.blocks=D.blocks) (alive:D'.down=false∧D'.fb=false) (calm:Calm D→Calm D') (Ab:D'.Ab≤((X.C+m':Nat):Int)) (now:∀z:Nat,D'.now z=D.now z) (Ii:X.N+m'≤1000000:=by first|exact(Fb.Ii (by assumption)).2|omega):Wd X (os.set i (N3 X.p x r)) m' W':=by
 have Hw:wordsAt A.st r.b=some X.sz:=h.st i _ r.b X.sz hi rfl
 refine⟨G',_,_,_,h.step hi k1 (k3.mono fun k hk=>hk.elim .inl fun hk=>hk.elim (fun e=>.inr (.inr (.inl e))) fun e=>.inr (.inr (.inr e))) k4 kJ k2 (fun k hk=>?_) hD alive calm Ab (fun z _=>now z) trivial rfl ?_ (fun b n hw hb=>Br _ _ _ _ hw fun e=>hb (.inr (.inl e))) (fun b n hb=>by cases hb) ⟨rfl,rfl⟩ (fun z=>⟨fun hz=>⟨.inl hz,AZ _ _⟩,fun hz=>hz.1.elim id fun hx=>absurd hx (AZ _ _)⟩) (fun z hz=>absurd hz (AZ _ _)) rfl⟩
 ·have Ep:(DQ X.p x r X.sz l).K k:=hk.elim .inl fun hk=>.inr (.inl hk)
  refine⟨.inl Ep,hk.elim (fun e=>by rw[e];exact k2.1.lt) fun e=>by rw[e];exact k2.2.lt,fun hg=>(k4 k hg).elim ((h.mem i _ hi).2 k Ep).2.2 fun hl=>?_⟩
  have:=((h.mem i _ hi).2 k Ep).1;omega
 ·have hu:=Dj h.sys.sound Hw
  show (release A r.b X.sz).used+X.sz=A.used+0
  exact hu
theorem ZM{h i:Nat}(hh:0<h)(h0:(i+1)%h≠0):(i+1)/h=i/h:=Fz hh h0
theorem MD(h:Wd X os m W)(hi:os[i]?=some (DQ X.p x r X.sz l))(hok:gB r X.sz l)(hn:X.N+m<1000000)(Bw:r.pos<r.count)(Bv:Src os X.sz r.first r.k r.h l){t:AB}(ht:l[r.pos]?=some t):
  Calls Tryz.prog 52 #[.pointer (some ⟨x,0,none⟩)] W fun e w'=>
   (e=.returned (.tuple #[.agg #[.int .i64 t.a,.int .i64 t.b,.int .i64 t.c,.int .i64 t.d,.int .i64 t.e],.bool true,.int .i64 0])∧Wd X (os.set i (DQ X.p x {r with pos:=r.pos+1} X.sz l)) (m+(AA r.h (r.pos+1)-AA r.h r.pos)) w')∨
   (e=.returned (.tuple #[.agg #[.int .i64 0,.int .i64 0,.int .i64 0,.int .i64 0,.int .i64 0],.bool false,.int .i64 6])∧¬X.cm∧Wd X (os.set i (N3 X.p x r)) (m+1) w'):=by
 obtain⟨G,D,A,S,h⟩:=h
 obtain⟨ws,hm,NM⟩:=(h.mem i _ hi).1
 have ho:=h.kK hi
 have hsz:=h.size
 have Hw:wordsAt A.st r.b=some X.sz:=h.st i _ r.b X.sz hi rfl
 have EC:Fc r D.size:=by rw[hsz];exact hok.ok
 have hm':DA W x X.p r D.size ws:=by rw[hsz];exact hm
 obtain⟨j,f,hj,IZ,DZ⟩:=Bv
 have qH:=IZ D hsz (h.Nb j f hj)
 have Jc:0<l.length:=by rw[hok.cnt];omega
 have OS:=Bd hok.ok.h.1 Jc
 obtain⟨p6,iF⟩:=DZ Jc
 have lW:r.pos/r.h<AA r.h l.length:=by
  have h1:=FT (h:=r.h) (c:=l.length) hok.ok.h.1
  apply Nat.lt_of_mul_lt_mul_right (a:=r.h)
  have h2:=Nat.div_mul_le_self r.pos r.h
  rw[hok.cnt]at h1⊢
  exact Nat.lt_of_le_of_lt h2 (Nat.lt_of_lt_of_le Bw h1)
 have XB:=h.oE hj (by omega)
 have lD:right D ((r.first+r.pos/r.h:Nat):Int)=true:=by
  clear NM qH
  generalize r.pos/r.h=qq at*
  unfold right;simp;omega
 have hto:=hok.fit t (List.mem_of_getElem? ht)
 have qn:AA r.h (r.pos+1)-AA r.h r.pos=if r.pos%r.h=0 then 1 else 0:=by
  rw[Lf hok.ok.h.1];split<;>omega
 have Es:∀w',(∀D' m',DD D D' m'→(∀z,D'.now z=D.now z)→(m'=if r.pos%r.h=0 then 1 else 0)→(∃Bt,GM W G X.p ⟨D',A,S⟩ (X.n+(m+m')) x {r with pos:=r.pos+1} Bt w'∧Bt.take (min r.h (r.count-r.pos/r.h*r.h)*r.k)=Em r.h r.k l (r.pos/r.h))→Wd X (os.set i (DQ X.p x {r with pos:=r.pos+1} X.sz l)) (m+(AA r.h (r.pos+1)-AA r.h r.pos)) w'):=fun w' D' m' Ja fE Qy ⟨Bt,⟨G',k1,k2,k3,k4⟩,k5⟩=>by
  rw[qn,←Qy]
  have AC8:m'≤1:=by rw[Qy];split<;>omega
  obtain⟨q1,q2,q3⟩:=k2.lt
  have Sw:DA w' x X.p {r with pos:=r.pos+1} X.sz Bt:=by
   have e:D'.size=X.sz:=Ja.size.trans hsz
   have k2:DA w' x X.p {r with pos:=r.pos+1} D'.size Bt:=k2
   rw[e]at k2;exact k2
  refine⟨G',D',A,S,h.step hi k1 (k3.mono fun k hk=>hk.elim .inl fun hk=>hk.elim (fun e=>.inr (.inr (.inr e))) fun e=>.inr (.inl e)) k4 ZH ⟨Bt,Sw,fun h0=>?_⟩ (fun k hk=>?_) ⟨Ja.size,Ja.blocks⟩ (Ja.alive h.alive) Ja.calm (by rw[Ja.Ab];have:=h.Ab;omega) (fun z _=>fE z) trivial rfl rfl (fun _ _ hw _=>hw) (fun b n hb=>by injection hb with hb;injection hb with h1 h2;subst h1 h2;exact Hw) ⟨rfl,rfl⟩ (fun z=>⟨fun hz=>⟨.inl hz,AZ _ _⟩,fun hz=>hz.1.elim id fun hx=>absurd hx (AZ _ _)⟩) (fun z hz=>absurd hz (AZ _ _)) rfl⟩
  ·show Bt.take (min r.h (r.count-(r.pos+1)/r.h*r.h)*r.k)=Em r.h r.k l ((r.pos+1)/r.h)
   rw[ZM hok.ok.h.1 h0];exact k5
  ·have Ep:(DQ X.p x r X.sz l).K k:=hk
   refine⟨.inl Ep,hk.elim (fun e=>by rw[e];exact q1) fun hk=>hk.elim (fun e=>by rw[e];exact q2) fun e=>by rw[e];exact q3,fun hg=>(k4 k hg).elim ((h.mem i _ hi).2 k Ep).2.2 fun hl=>?_⟩
   have:=((h.mem i _ hi).2 k Ep).1;omega
 by_cases Du:r.pos%r.h=0
 ·by_cases he:(read D ((r.first+r.pos/r.h:Nat):Int)).1=0
  ·refine(UO (F:=⟨D,A,S⟩) h.sys (by have:=h.Ii;omega) EC hm' ho hok.cnt Bw (fun _=>⟨he,?_⟩) (fun h0=>absurd Du h0) ht hto.1 hto.2).mono ?_
   ·exact qH _ lW
   ·rintro e w' ⟨oU,Bt,k1,k2⟩
    refine .inl ⟨oU,Es w' (read D ((r.first+r.pos/r.h:Nat):Int)).2 1 (TH he) (fun z=>(FH _ _ _).1) (by rw[if_pos Du]) ⟨Bt,?_,k2⟩⟩
    have e2:U9 D r=(read D ((r.first+r.pos/r.h:Nat):Int)).2:=by unfold U9;rw[if_pos Du]
    rw[←e2];exact k1
  ·obtain⟨f1,f2,f3,f4⟩:=Xc h.alive lD he
   refine(XV (F:=⟨D,A,S⟩) h.sys (by have:=h.Ii;omega) EC hm' ho (by show wordsAt A.st r.b=some D.size;rw[hsz];exact Hw) Bw Du he).mono ?_
   rintro e w' ⟨oU,G',k1,k2,k3,k4⟩
   refine .inr ⟨by rw[oU];show _= _;rw[show (read ({D:=D,A:=A,S:=S}:Fs).D ((r.first+r.pos/r.h:Nat):Int)).1=6 from f1],fun hc=>f4 (h.calm hc),?_⟩
   obtain⟨_,n2,n3⟩:=FH D ((r.first+r.pos/r.h:Nat):Int) 0
   have OM:Sys w' G' X.p ⟨(read D ((r.first+r.pos/r.h:Nat):Int)).2,release A r.b (read D ((r.first+r.pos/r.h:Nat):Int)).2.size,S⟩ (X.n+m+1):=k1
   rw[n2,hsz]at OM
   exact h.Y6 hi OM k2 k3 k4 ⟨n2,n3⟩ f3 (fun hc=>absurd hc f4) (by rw[f2];have:=h.Ab;omega) (fun z=>(FH _ _ _).1)
 ·refine(PK (F:=⟨D,A,S⟩) h.sys EC hm' ho Bw Du).mono ?_
  rintro e w' ⟨oU,k1⟩
  have hb:=NM Du
  have htu:=Qg (t:=t) hok.ok.k.2 hok.ok.h.1 Bw hok.cnt hb ht hto.1 hto.2
  rw[htu]at oU
  refine .inl ⟨oU,Es w' D 0 (DD.refl D) (fun _=>rfl) (by rw[if_neg Du]) ⟨ws,k1,hb⟩⟩
theorem LQ(h:Wd X os m W)(hi:os[i]?=some (DQ X.p x r X.sz l))(hok:Fc r X.sz)(Bw:r.pos=r.count):
  Calls Tryz.prog 52 #[.pointer (some ⟨x,0,none⟩)] W fun e w'=>e=.returned (.tuple #[.agg #[.int .i64 0,.int .i64 0,.int .i64 0,.int .i64 0,.int .i64 0],.bool false,.int .i64 0])∧Wd X os m w':=by
 obtain⟨ws,hm,_⟩:=h.at_ hi
 exact(XW hok hm Bw).mono fun _ _ ⟨h1,h2⟩=>⟨h1,h.below h2⟩
theorem Oc(h:Wd X os m W)(hi:os[i]?=some (DQ X.p x r X.sz l)):
  Calls Tryz.prog 51 #[.pointer (some ⟨x,0,none⟩)] W fun e w'=>e=.returned (.tuple #[])∧Wd X (os.set i (N3 X.p x r)) m w':=by
 obtain⟨G,D,A,S,h⟩:=h
 obtain⟨ws,hm,_⟩:=(h.mem i _ hi).1
 have hsz:=h.size
 have Hw:wordsAt A.st r.b=some X.sz:=h.st i _ r.b X.sz hi rfl
 refine(Ms (F:=⟨D,A,S⟩) h.sys (by show DA W x X.p r D.size ws;rw[hsz];exact hm) (h.kK hi) (by show wordsAt A.st r.b=some D.size;rw[hsz];exact Hw)).mono ?_
 rintro e w' ⟨he,G',k1,k2,k3,k4⟩
 have OM:Sys w' G' X.p ⟨D,release A r.b D.size,S⟩ (X.n+m):=k1
 rw[hsz]at OM
 exact⟨he,h.Y6 hi OM k2 (k3.mono fun k hk=>hk.elim .inl fun e=>.inr (.inl e)) k4 ⟨rfl,rfl⟩ h.alive id h.Ab fun _=>rfl⟩
theorem I8(u:FrameMode)(h:Wd X os m W)(hi:os[i]?=some (DQ X.p x r X.sz l)):
  CallsD Tryz.prog 51 #[.pointer (some ⟨x,0,none⟩)] u W fun e u' w'=>u'=u∧(e=.returned (.tuple #[])∧Wd X (os.set i (N3 X.p x r)) m w'):=by
 obtain⟨G,D,A,S,h⟩:=h
 obtain⟨ws,hm,_⟩:=(h.mem i _ hi).1
 have hsz:=h.size
 have Hw:wordsAt A.st r.b=some X.sz:=h.st i _ r.b X.sz hi rfl
 refine(Tk u (F:=⟨D,A,S⟩) h.sys (by show DA W x X.p r D.size ws;rw[hsz];exact hm) (h.kK hi) (by show wordsAt A.st r.b=some D.size;rw[hsz];exact Hw)).mono ?_
 rintro e u' w' ⟨hu,he,G',k1,k2,k3,k4⟩
 have OM:Sys w' G' X.p ⟨D,release A r.b D.size,S⟩ (X.n+m):=k1
 rw[hsz]at OM
 exact⟨hu,he,h.Y6 hi OM k2 (k3.mono fun k hk=>hk.elim .inl fun e=>.inr (.inl e)) k4 ⟨rfl,rfl⟩ h.alive id h.Ab fun _=>rfl⟩
theorem TT{w:World}{G:Nat→Prop}{p:Wp}{F:Fs}{n:Nat}(h:Sys w G p F n)(M:Nat)(hm:M≤F.A.room-F.A.used)(h8:M≤100000000):Calls Tryz.prog 63 #[.pointer (some ⟨p.a,0,none⟩),.int .i64 M] w fun e w'=>∃b g,e=.returned (.tuple #[.pointer (some ⟨b,0,none⟩),.int .i64 0])∧
  (∃G',Sys w' G' p {F with A:=Bo F.A b M} n∧AK G w w'∧(∀k,G' k→G k∨w.heap.size≤k)∧¬G' b∧¬G' g)∧Row w' b 126 [.slice (some ⟨g,0,none⟩) M M]∧Row w' g 127 ((List.replicate M 0).map vw)∧w.heap.size≤b∧w.heap.size≤g:=by
 obtain⟨Ga,ha,hg,_⟩:=h.sA
 refine(PF p.a F.A Ga M w ha hm (by omega)).mono ?_
 rintro e w' ⟨b,g,Xz,he,h1,h2,h3,h4,h5,h6⟩
 refine⟨b,g,he,hg w' b g M ⟨Xz,h1,h2,h3,h4,h5,h6⟩,h2,?_,h4,h5⟩
 rw[List.map_replicate];exact h3
theorem RG(h:Wd X os m W)(M:Nat)(hroom:M+Aa AU.gw os≤X.rm)(h8:M≤1000000):
  Calls Tryz.prog 63 #[.pointer (some ⟨X.p.a,0,none⟩),.int .i64 M] W fun e w'=>∃b g,e=.returned (.tuple #[.pointer (some ⟨b,0,none⟩),.int .i64 0])∧Wd X (os++[jD b g M]) m w':=by
 obtain⟨G,D,A,S,h⟩:=h
 have hu:=h.used
 have JE:=h.room
 refine(TT (F:=⟨D,A,S⟩) h.sys M (by show M≤A.room-A.used;rw[JE,hu];omega) (by omega)).mono ?_
 rintro e w' ⟨b,g,he,⟨G',k1,k2,k3,k4,k5⟩,r1,r2,n1,n2⟩
 refine⟨b,g,he,?_⟩
 have hq:∀q∈A.st,q.1≠b:=fun q hq e=>by have:=(h.sys.buf hq).1.lt;omega
 have hstep:=h.grow.step (a':=jD b g M) (D':=D) (A':=Bo A b M) (S':=S) (Tn os) k1 (k2.mono fun k hk=>.inl hk) k3 mO ⟨r1,_,by simp,r2⟩ (fun k hk=>hk.elim (fun e=>by rw[e];exact⟨.inr n1,r1.lt,k4⟩) fun e=>by rw[e];exact⟨.inr n2,r2.lt,k5⟩) ⟨rfl,rfl⟩ h.alive id h.Ab (fun _ _=>rfl) trivial rfl (by show A.used+M+0=A.used+M;omega) (fun b n hw _=>E8 _ _ _ _ _ hw) (fun b' n hb=>by injection hb with hb;injection hb with h1 h2;subst h1 h2;exact DV _ _ _ hq) ⟨rfl,rfl⟩ (fun z=>⟨fun hz=>⟨.inl hz,AZ _ _⟩,fun hz=>hz.1.elim id fun hx=>absurd hx (AZ _ _)⟩) (fun z hz=>absurd hz (AZ _ _)) rfl
 rw[DI]at hstep
 exact⟨_,_,_,_,hstep⟩
end
theorem Rg(fm:FrameMode)(p:Nat)(s:Ar)(G:Nat→Prop)(b n:Nat)(w:World)(h:Ez w G p s)(hb:Gv w b)(hn:wordsAt s.st b=some n):
  CallsD Tryz.prog 80 #[.pointer (some ⟨p,0,none⟩),.pointer (some ⟨b,0,none⟩)] fm w fun e u' w'=>u'=fm∧(e=.returned (.bool true)∧Ez w' G p (release s b n)∧Row w' b 126 [.slice none 0 0]∧AK (fun k=>G k∨k=b) w w'):=by
 have hw:=h.words hn
 have QW:=h.Kv hb
 have I4:=fun q hq=>And.intro (h.buf (q:=q) hq) (h.Kv (h.buf hq))
 obtain⟨h0,⟨m,hr,hst,cW⟩,hp,hG,_⟩:=id h
 rcases hst with⟨rfl,hst⟩|⟨bm,rfl,hm,PB⟩
 ·rw[hst]at hn;cases hn
 have c3:w.cell? ⟨p,3,none⟩=some (.map (some bm)):=hr.cell 3
 have aJ:(Instr.lookup 71 (.map (some bm)) (.pointer (some ⟨b,0,none⟩)) true).run Tryz.prog w=.ok (.tuple #[.int .i64 (n:Int),.bool true]) w:=by
  have:=Ra w hm hb fun q hq=>(I4 q hq).1
  rw[hn]at this;exact this
 have hne:bm≠p:=fun e=>hm.Ay hr e.symm
 have HM:=Lib.hid hm
 have HR:=Lib.hid hr
 have H0:=Lib.hid h0
 have jT:=Lib.hid hn
 obtain⟨u,hu⟩:∃u,s.used-n=u:=⟨_,rfl⟩
 have GL:(s.used:Int)-(n:Int)=(u:Int):=by omega
 have g1:(-9223372036854775808:Int)≤(u:Int):=by omega
 have g2:(u:Int)≤9223372036854775807:=by omega
 have HU:=Lib.hid hu
 clear hu hr hm h h0 hn hw
 go_enter_d Tryz.func80,Tryz.ntmps80
 go_wp2_with (with_reducible refine Uz ?_)
 unfold Hid
 refine MZ _ rfl _ _ rfl bm b n s.st rfl rfl HM.out hb (fun q hq=>(I4 q hq).1) jT.out ?_
 intro w2 hm2 CE
 have DZ:AK (fun k=>k=bm) w w2:=(AK.refl _ w).grown CE fun k hk=>.inl (by injection hk with hk;exact hk.symm)
 have Ap:=DZ.row HR.out (HM.out.Ay HR.out)
 obtain⟨v,hv⟩:=hb
 have AX:=DZ.row hv (HM.out.Ay hv)
 have k1:w2.cell? ⟨p,1,none⟩=some (.int .i64 (s.used:Int)):=Ap.cell 1
 have f1:=Ap.free 1
 have fb:=AX.free 0
 have kb:w2.cell? ⟨b,0,none⟩=some v:=AX.cell 0
 have cU:b≠p:=fun e=>QW (e▸hp)
 have lK:p≠b:=fun e=>cU e.symm
 have Ia:Ez ((w2.setCell ⟨p,1,none⟩ (.int .i64 (u:Int))).setCell ⟨b,0,none⟩ (.slice none 0 0)) G p (release s b n)∧Row ((w2.setCell ⟨p,1,none⟩ (.int .i64 (u:Int))).setCell ⟨b,0,none⟩ (.slice none 0 0)) b 126 [.slice none 0 0]∧
   AK (fun k=>G k∨k=b) w ((w2.setCell ⟨p,1,none⟩ (.int .i64 (u:Int))).setCell ⟨b,0,none⟩ (.slice none 0 0)):=by
  have Cm:Row ((w2.setCell ⟨p,1,none⟩ (.int .i64 (u:Int))).setCell ⟨b,0,none⟩ (.slice none 0 0)) p 73 (Bb (release s b n) (some bm)):=by
   have e:Bb (release s b n) (some bm)=(Bb s (some bm)).set 1 (.int .i64 (u:Int)):=by rw[←HU.out];rfl
   rw[e];exact(Ap.set 1 _).CU (fun e=>cU e.symm) _
  have FZ:Row ((w2.setCell ⟨p,1,none⟩ (.int .i64 (u:Int))).setCell ⟨b,0,none⟩ (.slice none 0 0)) b 126 [.slice none 0 0]:=(AX.CU (p:=⟨p,1,none⟩) cU _).set 0 _
  have L0:AK (fun k=>G k∨k=b) w ((w2.setCell ⟨p,1,none⟩ (.int .i64 (u:Int))).setCell ⟨b,0,none⟩ (.slice none 0 0)):=((DZ.mono fun k hk=>.inl (hk▸PB)).set (p:=⟨p,1,none⟩) (.inl (.inl hp)) _).set (p:=⟨b,0,none⟩) (.inl (.inr rfl)) _
  refine⟨⟨JD H0.out jT.out,⟨some bm,Cm,.inr ⟨bm,rfl,hm2.same ?_,PB⟩,cW⟩,hp,fun k hk=>Nat.lt_of_lt_of_le (hG k hk) L0.size,fun q hq=>?_⟩,FZ,L0⟩
  ·rw[heap_setCell_other _ ⟨b,0,none⟩ _ _ (show bm≠b from fun e=>QW (e▸PB)),heap_setCell_other _ ⟨p,1,none⟩ _ _ (show bm≠p from hne)]
  ·have cO:=I4 q (DW _ _ _ hq)
   by_cases e:q.1=b
   ·rw[e];exact⟨_,FZ⟩
   ·exact cO.1.CU L0 fun h=>h.elim cO.2 e
 have Aq:=Lib.hid Ia
 clear Ia hm2 CE DZ Ap AX hv c3 aJ I4
 go_wp2
 go_ret
 exact⟨rfl,Aq.out⟩
section
variable {X : Cx} {os : List AU} {m i : Nat} {W W' : World} {G : Nat → Prop} {D : St} {A : Ar} {S : Sp} {a : AU} {x : Nat} {l : List AB}
theorem Ll(fm:FrameMode){w:World}{G:Nat→Prop}{p:Wp}{F:Fs}{n:Nat}(h:Sys w G p F n){b m:Nat}(hb:wordsAt F.A.st b=some m):
  CallsD Tryz.prog 80 #[.pointer (some ⟨p.a,0,none⟩),.pointer (some ⟨b,0,none⟩)] fm w fun e u' w'=>u'=fm∧(e=.returned (.bool true)∧Bk w G b p {F with A:=release F.A b m} n w'):=by
 obtain⟨NM,QW⟩:=h.buf (EH _ _ _ hb)
 obtain⟨Ga,ha,_,hrel⟩:=h.sA
 refine(Rg fm p.a F.A Ga b m w ha NM hb).mono ?_
 rintro e u' w' ⟨hu,he,h1,h2,h3⟩
 obtain⟨k1,k2⟩:=hrel w' b m h1 h3 QW
 exact⟨hu,he,G,k1,k2,fun k hk=>.inl hk,h2⟩
theorem II(fm:FrameMode){b g M:Nat}(h:Wd X os m W)(hi:os[i]?=some a)(hK:∀k,a.K k↔k=b∨k=g)(hg:a.gr=some (b,M))(hx:a.ex.2=0):
  CallsD Tryz.prog 80 #[.pointer (some ⟨X.p.a,0,none⟩),.pointer (some ⟨b,0,none⟩)] fm W fun e u' w'=>u'=fm∧(e=.returned (.bool true)∧Wd X (os.set i Bl) m w'):=by
 obtain⟨G,D,A,S,h⟩:=h
 have Hw:wordsAt A.st b=some M:=h.st i _ b M hi hg
 refine(Ll fm (F:=⟨D,A,S⟩) h.sys Hw).mono ?_
 rintro e u' w' ⟨hu,he,G',k1,k2,k3,k4⟩
 have K0:∀z,¬En a.ex z:=fun z hz=>by unfold En at hz;omega
 have Hs:a.gw=M:=by unfold AU.gw;rw[hg]
 refine⟨hu,he,G',_,_,_,h.step hi k1 (k2.mono fun k hk=>hk.elim .inl fun e=>.inr ((hK k).2 (.inl e))) k3 J9 trivial (fun k hk=>hk.elim) ⟨rfl,rfl⟩ h.alive id h.Ab (fun _ _=>rfl) trivial rfl ?_ (fun b' n hw hb=>Br _ _ _ _ hw fun e=>hb ((hK b').2 (.inl e))) (fun b n hb=>by cases hb) ⟨rfl,rfl⟩ (fun z=>⟨fun hz=>⟨.inl hz,AZ _ _⟩,fun hz=>hz.1.elim id fun hx=>absurd hx (K0 z)⟩) (fun z hz=>absurd hz (AZ _ _)) (by show Ax S.fr+0=Ax S.fr+a.ex.2;omega)⟩
 have hu:=Dj h.sys.sound Hw
 show (release A b M).used+a.gw=A.used+0
 rw[Hs];exact hu
theorem Uu{first nb k hh sz:Nat}(h:Wd X os m W)(hi:os[i]?=some (Cb first nb k hh l sz))(hf:first≤2000000)(hn:nb≤2000000)(c:Nat):
  Calls Tryz.prog 49 #[.pointer (some ⟨X.p.w,0,none⟩),.agg #[.int .i64 first,.int .i64 nb,.int .i64 k,.int .i64 c]] W fun e w'=>e=.returned (.int .i64 0)∧Wd X (os.set i Bl) m w':=by
 obtain⟨G,D,A,S,h⟩:=h
 obtain⟨fH,Ee⟩:=h.held hi
 have fH:∀z,En (first,nb) z→¬hasB S.fr z:=fH
 have Ee:0<nb→S.first≤first∧first+nb≤S.first+S.blocks:=Ee
 have Ly:=Hh (S:=S) h.sys.U1 (f:=first) (n:=nb) (by
  rcases Nat.eq_zero_or_pos nb with h0|h0
  ·exact .inr h0
  ·exact .inl (Ee h0).1) (by
  rcases Nat.eq_zero_or_pos nb with h0|h0
  ·exact .inr h0
  ·exact .inl (Ee h0).2) (fun z z1 z2=>fH z ⟨z1,z2⟩)
 have aR:(if nb=0 then 0 else (CO S first nb).2)=0:=by
  by_cases h0:nb=0
  ·rw[if_pos h0]
  ·rw[if_neg h0]
   rcases Hg (s:=S) h.sys.U1 (first:Int) (nb:Int)with⟨s',a',m',ha,hm,h1,he,hg⟩|⟨_,NP⟩
   ·rw[he]
   ·exact absurd ⟨(Ee (by omega)).1,(Ee (by omega)).2,fun z z1 z2=>fH z ⟨z1,z2⟩⟩ (NP first nb rfl rfl (by omega))
 refine(PO (F:=⟨D,A,S⟩) h.sys first nb k c (by omega) (by omega)).mono ?_
 rintro e w' ⟨he,G',k1,k2,k3⟩
 refine⟨by rw[he,aR];rfl,G',_,_,_,h.step hi k1 (k2.mono fun k hk=>.inl hk) k3 J9 trivial (fun k hk=>hk.elim) ⟨rfl,rfl⟩ h.alive id h.Ab (fun _ _=>rfl) trivial rfl rfl (fun _ _ hw _=>hw) (fun b n hb=>by cases hb) ⟨Ly.1,Ly.2.1⟩ (fun z=>?_) (fun z hz=>absurd hz (AZ _ _)) ?_⟩
 ·show hasB (At S first nb).fr z↔ _
  rw[Ly.2.2.1 z]
  exact⟨fun hz=>⟨hz,AZ _ _⟩,fun hz=>hz.1⟩
 ·show Ax (At S first nb).fr+0=Ax S.fr+nb
  rw[Ly.2.2.2];omega
theorem TO(h:Wd X os m W):Calls Tryz.prog 18 #[.pointer (some ⟨X.p.w,0,none⟩)] W fun e w'=>e=.returned (.pointer (some ⟨X.p.d,0,none⟩))∧w'=W:=by
 obtain⟨G,D,A,S,h⟩:=h;exact YQ h.sys.row
theorem Ph(h:Wd X os m W):Calls Tryz.prog 13 #[.pointer (some ⟨X.p.w,0,none⟩)] W fun e w'=>e=.returned (.pointer (some ⟨X.p.a,0,none⟩))∧w'=W:=by
 obtain⟨G,D,A,S,h⟩:=h;exact RJ h.sys.row
theorem YR(h:Wd X os m W):Calls Tryz.prog 16 #[.pointer (some ⟨X.p.w,0,none⟩)] W fun e w'=>e=.returned (.pointer (some ⟨X.p.s,0,none⟩))∧w'=W:=by
 obtain⟨G,D,A,S,h⟩:=h;exact YK h.sys.row
theorem RH(h:Wd X os m W):Calls Tryz.prog 44 #[.pointer (some ⟨X.p.d,0,none⟩)] W fun e w'=>e=.returned (.int .i64 (X.sz:Int))∧w'=W:=by
 obtain⟨G,D,A,S,h⟩:=h;have:=h.sys.Dd;rw[show ({D:=D,A:=A,S:=S}:Fs).D.size=X.sz from h.size]at this;exact this
theorem Ut(h:Wd X os m W):Calls Tryz.prog 43 #[.pointer (some ⟨X.p.a,0,none⟩)] W fun e w'=>e=.returned (.int .i64 ((X.rm-Aa AU.gw os:Nat):Int))∧w'=W:=by
 obtain⟨G,D,A,S,h⟩:=h;have:=h.sys.Ry;rw[show ({D:=D,A:=A,S:=S}:Fs).A.room=X.rm from h.room,show ({D:=D,A:=A,S:=S}:Fs).A.used=Aa AU.gw os from h.used]at this;exact this
theorem YV(h:Wd X os m W)(k:Nat):Calls Tryz.prog 72 #[.pointer (some ⟨X.p.w,0,none⟩),.int .i64 k] W fun e w'=>e=.returned (.int .i64 (AE X.sz k:Nat))∧w'=W:=by
 obtain⟨G,D,A,S,h⟩:=h;have:=VJ h.sys (k:Int);rw[show ({D:=D,A:=A,S:=S}:Fs).D.size=X.sz from h.size]at this;exact this
end
theorem VY(k:Int)(hk:-5≤k∧k≤5)(w:World):Calls Tryz.prog 54 #[.int .i64 k] w fun e w'=>e=.returned (.int .i64 (mZ k))∧w'=w:=by
 by_cases h:k<0
 ·have g:decide (k<0)=true:=by simpa using h
  have e:mZ k=-k-1:=by unfold mZ;rw[if_pos h]
  rw[e]
  go_enter Tryz.func54,Tryz.ntmps54
  go_wp2
  go_ret
  exact⟨rfl,rfl⟩
 ·have g:decide (k<0)=false:=by simpa using h
  have e:mZ k=k-1:=by unfold mZ;rw[if_neg h]
  rw[e]
  go_enter Tryz.func54,Tryz.ntmps54
  go_wp2
  go_ret
  exact⟨rfl,rfl⟩
def Ng(x y:Int):Int:=if x<y then -1 else if x=y then 0 else 1
theorem VA(k:Int)(w:World):Calls Tryz.prog 100 #[.int .i64 k] w fun e w'=>e=.returned (.bool false)∧w'=w:=by
 have g:(k !=k)=false:=by simp
 go_enter Tryz.func100,Tryz.ntmps100
 go_wp2
 go_ret
 exact⟨rfl,rfl⟩
theorem Zr(x y:Int)(w:World):Calls Tryz.prog 82 #[.int .i64 x,.int .i64 y] w fun e w'=>e=.returned (.int .i64 (Ng x y))∧w'=w:=by
 have HX:=Lib.hid (VA x)
 have HY:=Lib.hid (VA y)
 rcases Int.lt_trichotomy x y with h|h|h
 ·have e:Ng x y=-1:=by unfold Ng;rw[if_pos h]
  have g:decide (x<y)=true:=by simpa using h
  rw[e]
  clear h e
  go_enter Tryz.func82,Tryz.ntmps82
  go_wp2_with fail
  refine(HX.out _).mono ?_;rintro e w2 ⟨rfl,rfl⟩
  go_wp2_with fail
  refine(HY.out _).mono ?_;rintro e w3 ⟨rfl,rfl⟩
  go_wp2
  go_ret
  exact⟨rfl,rfl⟩
 ·have e:Ng x y=0:=by unfold Ng;rw[if_neg (by omega),if_pos h]
  have g:decide (x<y)=false:=by simp;omega
  have g2:decide (x>y)=false:=by simp;omega
  rw[e]
  clear h e
  go_enter Tryz.func82,Tryz.ntmps82
  go_wp2_with fail
  refine(HX.out _).mono ?_;rintro e w2 ⟨rfl,rfl⟩
  go_wp2_with fail
  refine(HY.out _).mono ?_;rintro e w3 ⟨rfl,rfl⟩
  go_wp2
  go_ret
  exact⟨rfl,rfl⟩
 ·have e:Ng x y=1:=by unfold Ng;rw[if_neg (by omega),if_neg (by omega)]
  have g:decide (x<y)=false:=by simp;omega
  have g2:decide (x>y)=true:=by simp;omega
  rw[e]
  clear h e
  go_enter Tryz.func82,Tryz.ntmps82
  go_wp2_with fail
  refine(HX.out _).mono ?_;rintro e w2 ⟨rfl,rfl⟩
  go_wp2_with fail
  refine(HY.out _).mono ?_;rintro e w3 ⟨rfl,rfl⟩
  go_wp2
  go_ret
  exact⟨rfl,rfl⟩
theorem Qh(w:World)(a b:List Value)(A B:TypeId):∃W1,W1=(w.alloc (.cells a.toArray A)).alloc (.cells b.toArray B)∧Below w.heap.size w W1∧W1.heap.size=w.heap.size+2∧Row W1 w.heap.size A a∧Row W1 (w.heap.size+1) B b:=by
 have b1:Below w.heap.size w (w.alloc (.cells a.toArray A)):=(Below.refl _ _).alloc (Nat.le_refl _) _
 have r1:Row (w.alloc (.cells a.toArray A)) w.heap.size A a:=heap_alloc_new _ _
 have s1:(w.alloc (.cells a.toArray A)).heap.size=w.heap.size+1:=by simp
 refine⟨_,rfl,b1.alloc (by omega) _,by simp,r1.alloc _,?_⟩
 rw[←s1];exact heap_alloc_new _ _
theorem UZ(w:World)(a b c:List Value)(A B C:TypeId):∃W1,W1=((w.alloc (.cells a.toArray A)).alloc (.cells b.toArray B)).alloc (.cells c.toArray C)∧Below w.heap.size w W1∧W1.heap.size=w.heap.size+3∧Row W1 w.heap.size A a∧Row W1 (w.heap.size+1) B b∧Row W1 (w.heap.size+2) C c:=by
 obtain⟨W,e,b1,s1,r1,r2⟩:=Qh w a b A B
 refine⟨_,rfl,?_⟩
 rw[←e]
 refine⟨b1.alloc (by omega) _,by simp[s1],r1.alloc _,r2.alloc _,?_⟩
 rw[←s1];exact heap_alloc_new _ _
theorem Oy(T:TypeId)(hT:T=26)(o:AB){i:Nat}(hi:i<5)(w:World):(Instr.index T (.agg #[.int .i64 o.a,.int .i64 o.b,.int .i64 o.c,.int .i64 o.d,.int .i64 o.e]) (.int .i64 (i:Int))).run Tryz.prog w=.ok (.int .i64 (A4 o i)) w:=by
 subst hT
 match i,hi with
 |0,_=>exact(by kernel_rfl:(Instr.index 26 (.agg #[.int .i64 o.a,.int .i64 o.b,.int .i64 o.c,.int .i64 o.d,.int .i64 o.e]) (.int .i64 0)).run Tryz.prog w=.ok (.int .i64 o.a) w)
 |1,_=>exact(by kernel_rfl:(Instr.index 26 (.agg #[.int .i64 o.a,.int .i64 o.b,.int .i64 o.c,.int .i64 o.d,.int .i64 o.e]) (.int .i64 1)).run Tryz.prog w=.ok (.int .i64 o.b) w)
 |2,_=>exact(by kernel_rfl:(Instr.index 26 (.agg #[.int .i64 o.a,.int .i64 o.b,.int .i64 o.c,.int .i64 o.d,.int .i64 o.e]) (.int .i64 2)).run Tryz.prog w=.ok (.int .i64 o.c) w)
 |3,_=>exact(by kernel_rfl:(Instr.index 26 (.agg #[.int .i64 o.a,.int .i64 o.b,.int .i64 o.c,.int .i64 o.d,.int .i64 o.e]) (.int .i64 3)).run Tryz.prog w=.ok (.int .i64 o.d) w)
 |4,_=>exact(by kernel_rfl:(Instr.index 26 (.agg #[.int .i64 o.a,.int .i64 o.b,.int .i64 o.c,.int .i64 o.d,.int .i64 o.e]) (.int .i64 4)).run Tryz.prog w=.ok (.int .i64 o.e) w)
def Ld(s:List Bool):List Value:=s.map Value.bool
theorem bG{s:List Bool}{c:Nat}(h:c<s.length):(Ld s)[c]?=some (.bool (s.getD c false)):=by
 unfold Ld
 rw[List.getElem?_map,List.getElem?_eq_getElem h,List.getD_eq_getElem?_getD,List.getElem?_eq_getElem h];rfl
theorem Xj(s:List Bool)(c:Nat)(b:Bool):(Ld s).set c (.bool b)=Ld (s.set c b):=by
 unfold Ld;rw[List.map_set]
theorem Jg(o:AB)(w:World):Calls Tryz.prog 25 #[.agg #[.int .i64 o.a,.int .i64 o.b,.int .i64 o.c,.int .i64 o.d,.int .i64 o.e]] w fun e w'=>e=.returned (.bool (decide (Fm o)))∧Below w.heap.size w w':=by
 obtain⟨W1,B2,b1,s1,r1,r2⟩:=Qh w [.int .i64 o.a,.int .i64 o.b,.int .i64 o.c,.int .i64 o.d,.int .i64 o.e] [.bool false,.bool false,.bool false,.bool false,.bool false] 26 107
 have ER:=Lib.hid B2
 have HB:=Lib.hid b1
 have Li:=Lib.hid s1
 have Ka:Hid (Row W1 (w.heap.size+1) 107 (Ld [false,false,false,false,false])):=r2
 have d0:W1.cell? ⟨w.heap.size,0,none⟩=some (.int .i64 o.a):=r1.cell 0
 have d1:W1.cell? ⟨w.heap.size,1,none⟩=some (.int .i64 o.b):=r1.cell 1
 have d2:W1.cell? ⟨w.heap.size,2,none⟩=some (.int .i64 o.c):=r1.cell 2
 have d3:W1.cell? ⟨w.heap.size,3,none⟩=some (.int .i64 o.d):=r1.cell 3
 have d4:W1.cell? ⟨w.heap.size,4,none⟩=some (.int .i64 o.e):=r1.cell 4
 have Kh:Hid (∀i,i<5→¬Uq o i→decide (Fm o)=false):=fun i hi h=>decide_eq_false fun hf=>h (hf i hi)
 have Xp:Hid ((∀i,i<5→Uq o i)→decide (Fm o)=true):=fun h=>decide_eq_true h
 have zI:Hid (∀i:Nat,i<5→∀W:World,(Instr.index 26 (.agg #[.int .i64 o.a,.int .i64 o.b,.int .i64 o.c,.int .i64 o.d,.int .i64 o.e]) (.int .i64 (i:Int))).run Tryz.prog W=.ok (.int .i64 (A4 o i)) W):=fun i hi W=>Oy _ rfl o hi W
 generalize decide (Fm o)=res at*
 clear r1 r2 b1 s1 B2
 go_enter Tryz.func25,Tryz.ntmps25
 go_upto_region 2 with(fail)
 rw[←ER.out]
 clear ER
 go_wp2_with fail
 go_loopw [4,8] (fun ev iv wr=>∃(i:Nat) (e:Bool) (s:List Bool),i≤5∧iv=.int .i64 (i:Int)∧ev=.bool e∧Hid (Below w.heap.size w wr)∧Hid (w.heap.size+2≤wr.heap.size)∧Hid (Row wr (w.heap.size+1) 107 (Ld s))∧Hid (s.length=5)∧Hid (∀j,j<i→Uq o j)∧Hid (e=true↔∃j,j<i∧A4 o j=0)∧Hid (∀c,c<5→(s.getD c false=true↔∃j,j<i∧A4 o j≠0∧Ce (A4 o j)=c))) (fun _ iv _=>5-(intOf iv).toNat)
 case atStart=>
  refine⟨0,false,[false,false,false,false,false],by omega,rfl,rfl,HB.out,Nat.le_of_eq Li.out.symm,Ka.out,rfl,fun j hj=>by omega,⟨fun h=>(by cases h),fun⟨j,hj,_⟩=>(by omega)⟩,fun c hc=>⟨fun h=>?_,fun⟨j,hj,_⟩=>(by omega)⟩⟩
  match c,hc with
  |0,_=>cases h
  |1,_=>cases h
  |2,_=>cases h
  |3,_=>cases h
  |4,_=>cases h
 case round=>
  obtain⟨i,e,s,hi,rfl,rfl,HW,HZ,HR,nB,HF,HE,HS⟩:=hrel
  clear HB Li Ka
  by_cases hlt:i<5
  ·have g1:decide ((i:Int)<5)=true:=by simp;omega
   have i0:(0:Int)≤(i:Int):=by omega
   have i1:(i:Int)<5:=by omega
   obtain⟨x,hx⟩:∃x,x=A4 o i:=⟨_,rfl⟩
   have Hx:=Lib.hid hx
   have hix:∀W:World,(Instr.index 26 (.agg #[.int .i64 o.a,.int .i64 o.b,.int .i64 o.c,.int .i64 o.d,.int .i64 o.e]) (.int .i64 (i:Int))).run Tryz.prog W=.ok (.int .i64 x) W:=fun W=>by rw[hx];exact zI.out i hlt W
   clear hx
   by_cases NC:x=0
   ·have gx:(x==0)=true:=by simpa using NC
    have gx':decide (x=0)=true:=by simpa using NC
    have Q8:Hid (∀j,j<i+1→Uq o j):=fun j hj=>by
     by_cases e:j=i
     ·rw[e];unfold Uq;rw[←Hx.out,NC];exact⟨by omega,fun k _ h=>absurd rfl h⟩
     ·exact HF.out j (by omega)
    have L9:Hid (true=true↔∃j,j<i+1∧A4 o j=0):=⟨fun _=>⟨i,by omega,by rw[←Hx.out,NC]⟩,fun _=>rfl⟩
    have JN:Hid (∀c,c<5→(s.getD c false=true↔∃j,j<i+1∧A4 o j≠0∧Ce (A4 o j)=c)):=fun c hc=>by
     rw[HS.out c hc]
     refine⟨fun⟨j,hj,h⟩=>⟨j,by omega,h⟩,fun⟨j,hj,h⟩=>⟨j,?_,h⟩⟩
     by_cases e:j=i
     ·rw[e,←Hx.out]at h;exact absurd NC h.1
     ·omega
    clear NC HF HE HS
    go_wp2
    go_roundw
    case rel=>exact⟨i+1,true,s,by omega,by go_num,rfl,HW.out,HZ.out,HR.out,nB.out,Q8.out,L9.out,JN.out⟩
    case measure=>simp[intOf];omega
   ·have gx:(x==0)=false:=by simpa using NC
    have gx':decide (x=0)=false:=by simpa using NC
    cases e with
    |true=>
     have hres:res=false:=Kh.out i hlt fun h=>by
      obtain⟨j,hj,h0⟩:=HE.out.1 rfl
      exact(h.2 j hj (by rw[←Hx.out];exact NC)).1 h0
     subst hres
     clear NC
     go_wp2
     go_ret
     exact⟨rfl,HW.out⟩
    |false=>
     by_cases h1:x< -5
     ·have hres:res=false:=Kh.out i hlt fun h=>by have:=h.1;rw[←Hx.out]at this;omega
      have g2:decide (x< -5)=true:=by simpa using h1
      subst hres
      clear NC
      go_wp2
      go_ret
      exact⟨rfl,HW.out⟩
     ·have g2:decide (x< -5)=false:=by simpa using h1
      by_cases h2:x>5
      ·have hres:res=false:=Kh.out i hlt fun h=>by have:=h.1;rw[←Hx.out]at this;omega
       have g3:decide (x>5)=true:=by simpa using h2
       subst hres
       clear NC
       go_wp2
       go_ret
       exact⟨rfl,HW.out⟩
      ·have g3:decide (x>5)=false:=by simpa using h2
       have MI:-5≤x∧x≤5:=⟨by omega,by omega⟩
       have Hrx:=Lib.hid MI
       have fG:=Zg NC MI
       have HQ:=Lib.hid (VY x MI)
       rw[Va NC]at HQ
       obtain⟨b,hb⟩:∃b,b=s.getD (Ce x) false:=⟨_,rfl⟩
       have cb:wr.cell? ⟨w.heap.size+1,Ce x,none⟩=some (.bool b):=by rw[HR.out.cell,bG (by rw[nB.out];exact fG),hb]
       have fz:=HR.out.free (Ce x)
       have sK:=HS.out (Ce x) fG
       rw[←hb]at sK
       have k0:(0:Int)≤((Ce x:Nat):Int):=by omega
       have k1:((Ce x:Nat):Int)<5:=by omega
       cases b with
       |true=>
        have hres:res=false:=Kh.out i hlt fun h=>by
         obtain⟨j,hj,h0,hk⟩:=sK.1 rfl
         exact(h.2 j hj (by rw[←Hx.out];exact NC)).2 (by rw[hk,←Hx.out])
        subst hres
        clear NC h1 h2 sK MI hb
        generalize Ce x=c at*
        go_wp2_with fail
        refine(HQ.out _).mono ?_;rintro e w2 ⟨rfl,rfl⟩
        go_wp2
        go_ret
        exact⟨rfl,HW.out⟩
       |false=>
        have hne:∀j,j<i→A4 o j≠0:=fun j hj h=>by have:=HE.out.2 ⟨j,hj,h⟩;cases this
        have Q8:Hid (∀j,j<i+1→Uq o j):=fun j hj=>by
         by_cases e:j=i
         ·rw[e];unfold Uq;rw[←Hx.out]
          exact⟨MI,fun k hk _=>⟨hne k hk,fun h=>by have:=sK.2 ⟨k,hk,hne k hk,h⟩;cases this⟩⟩
         ·exact HF.out j (by omega)
        have L9:Hid (false=true↔∃j,j<i+1∧A4 o j=0):=⟨fun h=>(by cases h),fun⟨j,hj,h⟩=>by
         by_cases e:j=i
         ·rw[e,←Hx.out]at h;exact absurd h NC
         ·exact absurd h (hne j (by omega))⟩
        have JN:Hid (∀c,c<5→((s.set (Ce x) true).getD c false=true↔∃j,j<i+1∧A4 o j≠0∧Ce (A4 o j)=c)):=fun c hc=>by
         rw[List.getD_eq_getElem?_getD,List.getElem?_set]
         by_cases ec:Ce x=c
         ·rw[if_pos ec,if_pos (by have:=nB.out;omega)]
          exact⟨fun _=>⟨i,by omega,by rw[←Hx.out];exact NC,by rw[←Hx.out];exact ec⟩,fun _=>rfl⟩
         ·rw[if_neg ec,←List.getD_eq_getElem?_getD,HS.out c hc]
          refine⟨fun⟨j,hj,h⟩=>⟨j,by omega,h⟩,fun⟨j,hj,h⟩=>⟨j,?_,h⟩⟩
          by_cases e:j=i
          ·rw[e,←Hx.out]at h;exact absurd h.2 ec
          ·omega
        have nW:Hid ((s.set (Ce x) true).length=5):=by unfold Hid;rw[List.length_set];exact nB.out
        have Hq:Hid (Row (wr.setCell ⟨w.heap.size+1,Ce x,none⟩ (.bool true)) (w.heap.size+1) 107 (Ld (s.set (Ce x) true))):=by
         have:=HR.out.set (Ce x) (.bool true)
         rw[Xj]at this
         exact this
        have Q6:Hid (Below w.heap.size w (wr.setCell ⟨w.heap.size+1,Ce x,none⟩ (.bool true))):=HW.out.setCell (p:=⟨w.heap.size+1,Ce x,none⟩) (by simp) _
        have uf:Hid (w.heap.size+2≤(wr.setCell ⟨w.heap.size+1,Ce x,none⟩ (.bool true)).heap.size):=by unfold Hid;simp;exact HZ.out
        clear NC h1 h2 sK MI hb hne HF HE HS nB HR HW HZ
        generalize s.set (Ce x) true=s2 at*
        generalize Ce x=c at*
        go_wp2_with fail
        refine(HQ.out _).mono ?_;rintro e w2 ⟨rfl,rfl⟩
        go_wp2_with fail
        refine(HQ.out _).mono ?_;rintro e w2 ⟨rfl,rfl⟩
        go_wp2
        go_roundw
        case rel=>exact⟨i+1,false,s2,by omega,by go_num,rfl,Q6.out,uf.out,Hq.out,nW.out,Q8.out,L9.out,JN.out⟩
        case measure=>simp[intOf];omega
  ·have g1:decide ((i:Int)<5)=false:=by simp;omega
   have hres:res=true:=Xp.out fun j hj=>HF.out j (by omega)
   subst hres
   go_wp2
   go_ret
   exact⟨rfl,HW.out⟩
end Go.Proofs.YteldegofbbfaeaaGreat
