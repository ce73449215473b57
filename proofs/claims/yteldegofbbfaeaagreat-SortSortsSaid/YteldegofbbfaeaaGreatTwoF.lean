/- What the laws stand on. -/
import Derived.Test.YteldegofbbfaeaaGreatTwoE
namespace Go.Proofs.YteldegofbbfaeaaGreat
set_option linter.unusedVariables false
set_option maxRecDepth 100000
set_option maxHeartbeats 8000000
open Go.ChangeShapes Go.WideShapes Go.ChangeAt Go.RowKit
open Go.Joins Go.Deep
open Go.ChangeShapes Go.WideShapes Go.ChangeAt Go.RowKit Go.Maps
open Go.ChangeMaps (setBlock heap_setBlock_same heap_setBlock_other)
section
variable {X : Cx} {os : List AW} {m i : Nat} {W W' : World} {G : Nat → Prop} {D : St} {A : Ar} {S : Sp} {first nb k hh count : Nat} {l : List AB}
def lU(W w:World)(a:Nat):Prop:=Below W.heap.size W w∧W.heap.size≤a∧FO w (fun k=>k=a) a (empty 0)
theorem lU.below{W w w':World}{a:Nat}(h:lU W w a)(hb:Below w.heap.size w w'):lU W w' a:=
 ⟨h.1.trans (hb.mono h.1.size),h.2.1,h.2.2.Cc (AL.AJ hb fun _=>False) (fun _ _ h=>h) (fun _ _ h=>h)⟩
theorem fH{w:World}{a wp n:Nat}{p:Wp}(h:Sys W G p ⟨D,A,S⟩ n)(h0:lU W w a)(hr:Row w wp 70 [ptr p.d,ptr a,ptr p.s])(hw:W.heap.size≤wp∧wp≠a):∃G',Sys w G' ⟨wp,p.d,a,p.s⟩ ⟨D,empty 0,S⟩ n:=by
 have hlt:=fun k hk=>h.lt (k:=k) hk
 obtain⟨hb,M3,ha⟩:=h0
 obtain⟨Gd,Ga,Gs,hrw,hd,Kx,hs,hg,h1,h2,h3,h4⟩:=h.below hb
 have hG:∀k,Gd k∨Gs k→k<W.heap.size:=fun k hk=>hlt k ((hg k).2 (hk.elim (fun h=>.inr (.inl h)) fun h=>.inr (.inr (.inr h))))
 refine⟨fun k=>k=wp∨Gd k∨k=a∨Gs k,Gd,fun k=>k=a,Gs,hr,hd,ha,hs,fun k=>Iff.rfl,fun k hk=>⟨fun e=>?_,(h1 k hk).2.1,fun e=>?_⟩,fun k hk=>⟨fun Fe=>?_,fun e=>?_⟩,fun k hk e=>?_,fun q hq=>by cases hq⟩
 ·have e:k=a:=e
  have:=hG k (.inl hk);omega
 ·have e:k=wp:=e
  have:=hG k (.inl hk);omega
 ·have hk:k=a:=hk
  have:=hG k (.inr Fe);omega
 ·have hk:k=a:=hk
  have e:k=wp:=e
  omega
 ·have e:k=wp:=e
  have:=hG k (.inr hk);omega
theorem QZ(h:Wd X os m W)(Iu:hh=AH X.sz k)(DQ:0<hh)(Hu:nb=AA hh count)(EE:count≤100000):
  Calls Tryz.prog 42 #[.pointer (some ⟨X.p.w,0,none⟩),.agg #[.int .i64 first,.int .i64 nb,.int .i64 k,.int .i64 count]] W fun e w'=>e=.returned (.bool true)∧Below W.heap.size W w':=by
 obtain⟨W1,B8⟩:∃W1,W1=W.alloc (.cells #[.int .i64 first,.int .i64 nb,.int .i64 k,.int .i64 count] 39):=⟨_,rfl⟩
 have Am:Below W.heap.size W W1:=by rw[B8];exact(Below.refl _ _).alloc (Nat.le_refl _) _
 have Bl:Row W1 W.heap.size 39 [.int .i64 first,.int .i64 nb,.int .i64 k,.int .i64 count]:=by rw[B8];exact heap_alloc_new _ _
 obtain⟨G,D,A,S,hF⟩:=h
 have h1:=hF.below Am
 have hbd:8≤X.sz:=(Wd.bounds ⟨G,D,A,S,hF⟩).1.1
 have qm:Hid (∀w,Below W1.heap.size W1 w→Calls Tryz.prog 18 #[.pointer (some ⟨X.p.w,0,none⟩)] w fun e w'=>e=.returned (.pointer (some ⟨X.p.d,0,none⟩))∧w'=w):=fun w hb=>Qq ⟨G,D,A,S,h1.below hb⟩
 have iy:Hid (∀w,Below W1.heap.size W1 w→Calls Tryz.prog 16 #[.pointer (some ⟨X.p.w,0,none⟩)] w fun e w'=>e=.returned (.pointer (some ⟨X.p.s,0,none⟩))∧w'=w):=fun w hb=>UF ⟨G,D,A,S,h1.below hb⟩
 have HAN:Hid (∀w,Below W1.heap.size W1 w→Calls Tryz.prog 31 #[.int .i64 0] w fun e w'=>∃a,e=.returned (.pointer (some ⟨a,0,none⟩))∧lU W1 w' a):=fun w hb=>by
  refine(Qc 0 w (by omega) (by omega)).mono ?_
  rintro e w' ⟨he,ha,AZ⟩
  exact⟨w.heap.size,he,hb.trans (AZ.mono hb.size),hb.size,ha⟩
 have dj:Hid (∀w a,lU W1 w a→Calls Tryz.prog 30 #[.pointer (some ⟨X.p.d,0,none⟩),.pointer (some ⟨a,0,none⟩),.pointer (some ⟨X.p.s,0,none⟩)] w fun e w'=>∃wp,e=.returned (.pointer (some ⟨wp,0,none⟩))∧lU W1 w' a∧Row w' wp 70 [ptr X.p.d,ptr a,ptr X.p.s]∧W1.heap.size≤wp∧wp≠a):=fun w a h0=>by
  refine(TZ X.p.d a X.p.s w).mono ?_
  rintro e w' ⟨he,rfl⟩
  have qJ:a<w.heap.size:=h0.2.2.lt rfl
  exact⟨w.heap.size,he,h0.below ((Below.refl _ _).alloc (Nat.le_refl _) _),heap_alloc_new _ _,h0.1.size,by omega⟩
 have PS:Hid (∀w a wp,lU W1 w a→Row w wp 70 [ptr X.p.d,ptr a,ptr X.p.s]→W1.heap.size≤wp→wp≠a→Calls Tryz.prog 50 #[.pointer (some ⟨wp,0,none⟩),.agg #[.int .i64 first,.int .i64 nb,.int .i64 k,.int .i64 count]] w fun e w'=>e=.returned (.tuple #[.pointer none,.int .i64 7])∧Below W1.heap.size W1 w'):=fun w a wp h0 hr hw hne=>by
  obtain⟨G',m7⟩:=fH h1.sys h0 hr ⟨hw,hne⟩
  have U7:D.size=X.sz:=hF.size
  refine(VG m7 k hh first nb count (by show hh=AH D.size k;rw[U7];exact Iu) DQ Hu (by omega) (by show (empty 0).room-(empty 0).used<D.size;rw[U7];exact Nat.lt_of_lt_of_le (by show 0-0<8;omega) hbd)).mono ?_
  rintro e w' ⟨he,hb⟩
  exact⟨he,h0.1.trans (hb.mono h0.1.size)⟩
 have Vl:Hid (∀w,Below W1.heap.size W1 w→w.cell? ⟨W.heap.size,0,none⟩=some (.int .i64 first)∧w.cell? ⟨W.heap.size,1,none⟩=some (.int .i64 nb)∧w.cell? ⟨W.heap.size,2,none⟩=some (.int .i64 k)∧w.cell? ⟨W.heap.size,3,none⟩=some (.int .i64 count)):=fun w hb=>by
  have h9:=Bl.below hb Bl.lt
  exact⟨h9.cell 0,h9.cell 1,h9.cell 2,h9.cell 3⟩
 have G9:Hid (∀w,Below W1.heap.size W1 w→Below W.heap.size W w):=fun w hb=>Am.trans (hb.mono Am.size)
 have hb0:Below W1.heap.size W1 W1.drew:=AG (Below.refl _ _)
 have q0:=Vl.out _ hb0
 have Ef:=Lib.hid B8
 have ur:=Lib.hid Hu
 have HHE:=Lib.hid Iu
 generalize ZF:W.heap.size=s0 at*
 clear B8 Am Bl hF h1 Hu Iu
 go_enter Tryz.func42,Tryz.ntmps42
 go_upto_region 1 with(fail)
 rw[←Ef.out]
 clear Ef
 go_region_held3 (fun w=>w.cell? ⟨s0,0,none⟩=some (.int .i64 first)∧w.cell? ⟨s0,1,none⟩=some (.int .i64 nb)∧w.cell? ⟨s0,2,none⟩=some (.int .i64 k)∧w.cell? ⟨s0,3,none⟩=some (.int .i64 count)) (first|with_reducible exact q0|with_reducible exact q5|with_reducible exact q6|with_reducible exact q7)
  (first
   |(go_at_call 18;(with_reducible refine(qm.out _ (by first|with_reducible exact hb0|with_reducible exact DD)).mono ?_);rintro e w4 ⟨rfl,rfl⟩)
   |(go_at_call 16;(with_reducible refine(iy.out _ (by first|with_reducible exact hb0|with_reducible exact DD)).mono ?_);rintro e w4 ⟨rfl,rfl⟩)
   |(go_at_call 31;(with_reducible refine(HAN.out _ hb0).mono ?_);rintro e w5 ⟨a,rfl,h5⟩;have DD:=h5.1;have q5:=Vl.out w5 DD;have q6:=q5;have q7:=q5)
   |(go_at_call 30;(with_reducible refine(dj.out _ _ h5).mono ?_);rintro e w6 ⟨wp,rfl,h6,Ez,ZA,hn6⟩;have q6:=Vl.out w6 h6.1)
   |(go_at_call 50;(with_reducible refine(PS.out _ _ _ h6 Ez ZA hn6).mono ?_);rintro e w7 ⟨rfl,zL⟩;have q7:=Vl.out w7 zL))
 all_goals
  have H9:=Lib.hid (G9.out _ zL)
  clear zL q7 q6 q5 q0 h6 Ez ZA hn6 h5 DD hb0
  go_wp2
  go_ret
  exact⟨rfl,by rw[ZF]at*;exact H9.out⟩
end
section
variable {X : Cx} {os : List AW} {m i : Nat} {W W' : World} {first nb k hh count : Nat} {l : List AB} {o : AB} {once : Bool}
theorem QO{b5 b8:Nat}{W w9:World}(hle:b5≤b8)(hb:Below b5 W w9)(hr:Row w9 b8 39 [.int .i64 0,.int .i64 0,.int .i64 0,.int .i64 0]){DS:World}(hw:DS=((((w9.setCell ⟨b8,0,none⟩ (.int .i64 0)).setCell ⟨b8,1,none⟩ (.int .i64 0)).setCell ⟨b8,2,none⟩ (.int .i64 0)).setCell ⟨b8,3,none⟩ (.int .i64 0))):
  (DS.cell? ⟨b8,0,none⟩=some (.int .i64 0)∧DS.cell? ⟨b8,1,none⟩=some (.int .i64 0)∧DS.cell? ⟨b8,2,none⟩=some (.int .i64 0)∧DS.cell? ⟨b8,3,none⟩=some (.int .i64 0))∧Hid (Below b5 W DS):=by
 subst hw
 have h:=(((hr.set 0 (.int .i64 0)).set 1 (.int .i64 0)).set 2 (.int .i64 0)).set 3 (.int .i64 0)
 exact⟨⟨h.cell 0,h.cell 1,h.cell 2,h.cell 3⟩,(((hb.setCell (p:=⟨b8,0,none⟩) hle _).setCell (p:=⟨b8,1,none⟩) hle _).setCell (p:=⟨b8,2,none⟩) hle _).setCell (p:=⟨b8,3,none⟩) hle _⟩
theorem SA(LI:¬Fm o):Calls Tryz.prog 20 #[.pointer (some ⟨X.p.w,0,none⟩),.agg #[.int .i64 first,.int .i64 nb,.int .i64 k,.int .i64 count],.agg #[.int .i64 o.a,.int .i64 o.b,.int .i64 o.c,.int .i64 o.d,.int .i64 o.e],.bool once] W fun e w'=>
  e=.returned (.tuple #[.agg #[.int .i64 0,.int .i64 0,.int .i64 0,.int .i64 0],.int .i64 1])∧Below W.heap.size W w':=by
 obtain⟨W3,M4,A8,Mw,r5,r6,r8⟩:=OT W [.int .i64 first,.int .i64 nb,.int .i64 k,.int .i64 count] [.int .i64 o.a,.int .i64 o.b,.int .i64 o.c,.int .i64 o.d,.int .i64 o.e] [.int .i64 0,.int .i64 0,.int .i64 0,.int .i64 0] 39 26 39
 have cG:W3=((W.alloc (.cells #[.int .i64 first,.int .i64 nb,.int .i64 k,.int .i64 count] 39)).alloc (.cells #[.int .i64 o.a,.int .i64 o.b,.int .i64 o.c,.int .i64 o.d,.int .i64 o.e] 26)).alloc (.cells #[.int .i64 0,.int .i64 0,.int .i64 0,.int .i64 0] 39):=M4
 have MQ:=Lib.hid cG
 have BM:=Lib.hid A8
 generalize hs:W.heap.size=b5 at*
 obtain⟨b6,e6⟩:∃b6,b5+1=b6:=⟨_,rfl⟩
 obtain⟨b8,e8⟩:∃b8,b6+1=b8:=⟨_,rfl⟩
 rw[e6]at r6
 rw[show b5+2=b8 by omega]at r8
 have HR8:=Lib.hid r8
 have c0:W3.cell? ⟨b6,0,none⟩=some (.int .i64 o.a):=r6.cell 0
 have c1:W3.cell? ⟨b6,1,none⟩=some (.int .i64 o.b):=r6.cell 1
 have c2:W3.cell? ⟨b6,2,none⟩=some (.int .i64 o.c):=r6.cell 2
 have c3:W3.cell? ⟨b6,3,none⟩=some (.int .i64 o.d):=r6.cell 3
 have c4:W3.cell? ⟨b6,4,none⟩=some (.int .i64 o.e):=r6.cell 4
 have lP:Hid (Calls Tryz.prog 25 #[.agg #[.int .i64 o.a,.int .i64 o.b,.int .i64 o.c,.int .i64 o.d,.int .i64 o.e]] W3 fun e w'=>e=.returned (.bool false)∧Below W3.heap.size W3 w'):=by
  have h1:=IB o W3
  rw[decide_eq_false LI]at h1;exact h1
 clear M4 cG A8 r5 r6 r8
 go_enter Tryz.func20,Tryz.ntmps20
 go_upto_region 1 with(fail)
 rw[←MQ.out]
 clear MQ
 go_wp2_with fail
 refine lP.out.mono ?_
 rintro e w9 ⟨rfl,qI⟩
 have GG:=HR8.out.below qI HR8.out.lt
 have eO:Below b5 W w9:=BM.out.trans (qI.mono (by omega))
 have HE:=Lib.hid (fun DS hw=>QO (DS:=DS) (by omega) eO GG hw)
 have z0:w9.cell? ⟨b8,0,none⟩=some (.int .i64 0):=GG.cell 0
 have z1:w9.cell? ⟨b8,1,none⟩=some (.int .i64 0):=GG.cell 1
 have z2:w9.cell? ⟨b8,2,none⟩=some (.int .i64 0):=GG.cell 2
 have z3:w9.cell? ⟨b8,3,none⟩=some (.int .i64 0):=GG.cell 3
 have y0:w9.frozen? ⟨b8,0,none⟩=false:=GG.free 0
 have y1:w9.frozen? ⟨b8,1,none⟩=false:=GG.free 1
 have y2:w9.frozen? ⟨b8,2,none⟩=false:=GG.free 2
 have y3:w9.frozen? ⟨b8,3,none⟩=false:=GG.free 3
 clear GG eO qI lP c0 c1 c2 c3 c4 e6 e8 hs
 go_wp2
 have h9:=HE.out _ rfl
 generalize((((w9.setCell ⟨b8,0,none⟩ (.int .i64 0)).setCell ⟨b8,1,none⟩ (.int .i64 0)).setCell ⟨b8,2,none⟩ (.int .i64 0)).setCell ⟨b8,3,none⟩ (.int .i64 0))=DS at*
 obtain⟨⟨q0,q1,q2,q3⟩,HB⟩:=h9
 exact bodyPost_ret (v:=.tuple #[.agg #[.int .i64 0,.int .i64 0,.int .i64 0,.int .i64 0],.int .i64 1]) (by simp[results,Tryz.results20,go_sem,q0,q1,q2,q3]) rfl ⟨rfl,HB.out⟩
end
section
variable {X : Cx} {os : List AW} {m i : Nat} {W W' : World} {first nb k hh count : Nat} {l : List AB} {o : AB} {once : Bool}
theorem fj{z2:List AW}{z n:Nat}(h:Rm X os z n)(hz:GX z2):Rm X (os++z2) z n:=fun y h1 h2=>by
 obtain⟨k1,k2⟩:=h y h1 h2
 refine⟨k1,fun j a hj hx=>?_⟩
 rcases List.mem_append.1 (List.mem_of_getElem? hj)with hm|hm
 ·obtain⟨j2,hj2,e⟩:=List.getElem_of_mem hm
  exact k2 j2 a (by rw[List.getElem?_eq_getElem hj2,e]) hx
 ·have h4:=(hz a hm).2
  unfold Fp at hx;rw[h4]at hx;omega
def Rj(X:Cx)(os:List AW)(i m nb k hh:Nat)(l:List AB)(o:AB)(once:Bool)(e:Ending)(w':World):Prop:=
 (∃(F N C:Nat) (l':List AB) (m' j:Nat),e=.returned (.tuple #[.agg #[.int .i64 (F:Nat),.int .i64 (N:Nat),.int .i64 k,.int .i64 (C:Nat)],.int .i64 0])∧(∃s,Hl o s∧Cl o l s∧l'=BG once o s)∧NA F N k hh l' X.sz∧C=l'.length∧
  (j=0∨2^(j-1)<nb)∧m'≤m+2*nb*(1+j)∧Wd X (os.set i Bi++[Cf F N k hh l' X.sz]) m' w')∨
 (∃er,e=.returned (.tuple #[.agg #[.int .i64 0,.int .i64 0,.int .i64 0,.int .i64 0],.int .i64 er])∧((er=5∧∀z,¬Rm X os z (3*nb))∨(er=6∧¬X.cm))∧∃m',Wd X os m' w')
def Rk(X:Cx)(os:List AW)(m nb k hh:Nat)(l:List AB)(o:AB)(once:Bool)(zs:List AW)(F N k' C:Nat)(er:Int)(w':World):Prop:=
 (er=0∧k'=k∧∃(l':List AB) (m' j:Nat),((∃s,Hl o s∧Cl o l s∧l'=BG once o s)∧NA F N k hh l' X.sz∧C=l'.length∧(j=0∨2^(j-1)<nb)∧m'≤m+2*nb*(1+j))∧Wd X (os++zs++[Cf F N k hh l' X.sz]) m' w')∨
 ((F=0∧N=0∧k'=0∧C=0)∧((er=5∧∀z,¬Rm X os z (3*nb))∨(er=6∧¬X.cm))∧∃m',Wd X (os++zs) m' w')
theorem Qm(h:Wd X os m W)(LI:Fm o)(Iu:hh=AH X.sz k)(DQ:0<hh)(Hu:nb=AA hh count)(EE:count≤100000)(hroom:X.rm-Ac AW.gw os<5*X.sz):Calls Tryz.prog 20 #[.pointer (some ⟨X.p.w,0,none⟩),.agg #[.int .i64 first,.int .i64 nb,.int .i64 k,.int .i64 count],.agg #[.int .i64 o.a,.int .i64 o.b,.int .i64 o.c,.int .i64 o.d,.int .i64 o.e],.bool once] W fun e w'=>
  e=.returned (.tuple #[.agg #[.int .i64 0,.int .i64 0,.int .i64 0,.int .i64 0],.int .i64 7])∧Below W.heap.size W w':=by
 obtain⟨W3,M4,A8,Mw,r5,r6,r8⟩:=OT W [.int .i64 first,.int .i64 nb,.int .i64 k,.int .i64 count] [.int .i64 o.a,.int .i64 o.b,.int .i64 o.c,.int .i64 o.d,.int .i64 o.e] [.int .i64 0,.int .i64 0,.int .i64 0,.int .i64 0] 39 26 39
 have cG:W3=((W.alloc (.cells #[.int .i64 first,.int .i64 nb,.int .i64 k,.int .i64 count] 39)).alloc (.cells #[.int .i64 o.a,.int .i64 o.b,.int .i64 o.c,.int .i64 o.d,.int .i64 o.e] 26)).alloc (.cells #[.int .i64 0,.int .i64 0,.int .i64 0,.int .i64 0] 39):=M4
 have MQ:=Lib.hid cG
 have BM:=Lib.hid A8
 generalize hs:W.heap.size=b5 at*
 obtain⟨b6,e6⟩:∃b6,b5+1=b6:=⟨_,rfl⟩
 obtain⟨b8,e8⟩:∃b8,b6+1=b8:=⟨_,rfl⟩
 rw[e6]at r6
 rw[show b5+2=b8 by omega]at r8
 have HR8:=Lib.hid r8
 have c0:W3.cell? ⟨b6,0,none⟩=some (.int .i64 o.a):=r6.cell 0
 have c1:W3.cell? ⟨b6,1,none⟩=some (.int .i64 o.b):=r6.cell 1
 have c2:W3.cell? ⟨b6,2,none⟩=some (.int .i64 o.c):=r6.cell 2
 have c3:W3.cell? ⟨b6,3,none⟩=some (.int .i64 o.d):=r6.cell 3
 have c4:W3.cell? ⟨b6,4,none⟩=some (.int .i64 o.e):=r6.cell 4
 have HS8:Hid (b5≤b8):=by unfold Hid;omega
 have Rr:Hid (b5≤W3.heap.size):=by unfold Hid;omega
 have b50:W3.cell? ⟨b5,0,none⟩=some (.int .i64 first):=r5.cell 0
 have lP:Hid (Calls Tryz.prog 25 #[.agg #[.int .i64 o.a,.int .i64 o.b,.int .i64 o.c,.int .i64 o.d,.int .i64 o.e]] W3 fun e w'=>e=.returned (.bool true)∧Below W3.heap.size W3 w'):=by
  have h1:=IB o W3
  rw[decide_eq_true LI]at h1;exact h1
 have h3:Wd X os m W3:=h.below (by rw[hs];exact A8)
 have hbd:=h.bounds
 have wm:Hid (∀w,Below W3.heap.size W3 w→Calls Tryz.prog 42 #[.pointer (some ⟨X.p.w,0,none⟩),.agg #[.int .i64 first,.int .i64 nb,.int .i64 k,.int .i64 count]] w fun e w'=>e=.returned (.bool true)∧Below w.heap.size w w'):=fun w hb=>QZ (h3.below hb) Iu DQ Hu EE
 have lT:Hid (∀w,Below W3.heap.size W3 w→Calls Tryz.prog 13 #[.pointer (some ⟨X.p.w,0,none⟩)] w fun e w'=>e=.returned (.pointer (some ⟨X.p.a,0,none⟩))∧w'=w):=fun w hb=>LR (h3.below hb)
 have qm:Hid (∀w,Below W3.heap.size W3 w→Calls Tryz.prog 18 #[.pointer (some ⟨X.p.w,0,none⟩)] w fun e w'=>e=.returned (.pointer (some ⟨X.p.d,0,none⟩))∧w'=w):=fun w hb=>Qq (h3.below hb)
 obtain⟨LF,qL⟩:∃LF,X.rm-Ac AW.gw os=LF:=⟨_,rfl⟩
 have eX:Hid (∀w,Below W3.heap.size W3 w→Calls Tryz.prog 43 #[.pointer (some ⟨X.p.a,0,none⟩)] w fun e w'=>e=.returned (.int .i64 (LF:Nat))∧w'=w):=fun w hb=>by
  have h1:=Qp (h3.below hb);rw[qL]at h1;exact h1
 obtain⟨sz,hsz⟩:∃sz,X.sz=sz:=⟨_,rfl⟩
 have wj:Hid (∀w,Below W3.heap.size W3 w→Calls Tryz.prog 44 #[.pointer (some ⟨X.p.d,0,none⟩)] w fun e w'=>e=.returned (.int .i64 (sz:Nat))∧w'=w):=fun w hb=>by
  have h1:=NL (h3.below hb);rw[hsz]at h1;exact h1
 rw[qL,hsz]at hroom
 obtain⟨S5,zP⟩:∃S5,5*sz=S5:=⟨_,rfl⟩
 have e55:(5:Int)*(sz:Int)=(S5:Int):=by omega
 have RO:sz≤256:=by rw[←hsz];exact hbd.1.2
 have w55:S5≤1280:=by omega
 have hlt:LF<S5:=by omega
 have BQ:Hid (∀w,Below W3.heap.size W3 w→Row w b5 39 [.int .i64 first,.int .i64 nb,.int .i64 k,.int .i64 count]∧Row w b8 39 [.int .i64 0,.int .i64 0,.int .i64 0,.int .i64 0]):=fun w hb=>⟨r5.below hb r5.lt,r8.below hb r8.lt⟩
 clear M4 cG A8 r5 r6 r8 h h3 qL hsz zP hroom Hu Iu b50
 go_enter Tryz.func20,Tryz.ntmps20
 go_upto_region 1 with(fail)
 rw[←MQ.out]
 clear MQ
 go_wp2_with fail
 refine lP.out.mono ?_
 rintro e w4 ⟨rfl,Dp⟩
 have r4:=(BQ.out w4 Dp).1
 have d0:w4.cell? ⟨b5,0,none⟩=some (.int .i64 first):=r4.cell 0
 have d1:w4.cell? ⟨b5,1,none⟩=some (.int .i64 nb):=r4.cell 1
 have d2:w4.cell? ⟨b5,2,none⟩=some (.int .i64 k):=r4.cell 2
 have d3:w4.cell? ⟨b5,3,none⟩=some (.int .i64 count):=r4.cell 3
 have vH:=Lib.hid (wm.out w4 Dp)
 have pL:=Lib.hid Dp
 clear c0 c1 c2 c3 c4 r4 Dp lP e6 e8 hs
 go_wp2_with fail
 refine vH.out.mono ?_
 rintro e w5 ⟨rfl,DD⟩
 have YY:Below W3.heap.size W3 w5:=pL.out.trans (DD.mono pL.out.size)
 have H1:=Lib.hid (lT.out w5 YY)
 have H2:=Lib.hid (eX.out w5 YY)
 have H3:=Lib.hid (qm.out w5 YY)
 have H4:=Lib.hid (wj.out w5 YY)
 have HHB:=Lib.hid YY
 clear DD YY vH d0 d1 d2 d3 pL
 go_wp2_with fail
 refine H1.out.mono ?_
 rintro e w ⟨rfl,rfl⟩
 go_wp2_with fail
 refine H2.out.mono ?_
 rintro e w' ⟨rfl,rfl⟩
 go_wp2_with fail
 refine H3.out.mono ?_
 rintro e w6 ⟨rfl,rfl⟩
 go_wp2_with fail
 refine H4.out.mono ?_
 rintro e w9 ⟨rfl,rfl⟩
 have GG:=(BQ.out w9 HHB.out).2
 have eO:Below b5 W w9:=BM.out.trans (HHB.out.mono Rr.out)
 have HE:=Lib.hid (fun DS hw=>QO (DS:=DS) HS8.out eO GG hw)
 have z0:w9.cell? ⟨b8,0,none⟩=some (.int .i64 0):=GG.cell 0
 have z1:w9.cell? ⟨b8,1,none⟩=some (.int .i64 0):=GG.cell 1
 have z2:w9.cell? ⟨b8,2,none⟩=some (.int .i64 0):=GG.cell 2
 have z3:w9.cell? ⟨b8,3,none⟩=some (.int .i64 0):=GG.cell 3
 have y0:w9.frozen? ⟨b8,0,none⟩=false:=GG.free 0
 have y1:w9.frozen? ⟨b8,1,none⟩=false:=GG.free 1
 have y2:w9.frozen? ⟨b8,2,none⟩=false:=GG.free 2
 have y3:w9.frozen? ⟨b8,3,none⟩=false:=GG.free 3
 have AF1:(LF:Int)<(S5:Int):=by omega
 clear GG eO H1 H2 H3 H4
 go_wp2
 have h9:=HE.out _ rfl
 generalize((((w9.setCell ⟨b8,0,none⟩ (.int .i64 0)).setCell ⟨b8,1,none⟩ (.int .i64 0)).setCell ⟨b8,2,none⟩ (.int .i64 0)).setCell ⟨b8,3,none⟩ (.int .i64 0))=DS at*
 obtain⟨⟨q0,q1,q2,q3⟩,HB⟩:=h9
 exact bodyPost_ret (v:=.tuple #[.agg #[.int .i64 0,.int .i64 0,.int .i64 0,.int .i64 0],.int .i64 7]) (by simp[results,Tryz.results20,go_sem,q0,q1,q2,q3]) rfl ⟨rfl,HB.out⟩
end
section
variable {X : Cx} {os : List AW} {m i : Nat} {W W' : World} {first nb k hh count : Nat} {l : List AB} {o : AB} {once : Bool}
theorem UR{sz hh k g rB rm rb An:Nat}(hk:0<k∧k≤5)(DQ:0<hh∧hh*k≤sz-2)(hsz:8≤sz∧sz≤256)(Ip:min (rB-g) 65536=rm)(h5:5*sz≤rB-g)(hrb:(rm-2*sz)/(hh*k)=rb)(Mh:(rm-sz)/(sz+k)=An):
  (0<rb∧rb≤100000)∧(2≤An∧An≤7281)∧g+2*sz+rb*hh*k≤rB∧g+sz+An*k+An*sz≤rB:=by
 have GS:5*sz≤rm:=by omega
 have hrl:rm≤65536∧rm≤rB-g:=by omega
 have hp:0<hh*k:=Nat.mul_pos DQ.1 hk.1
 have h1:rb*(hh*k)≤rm-2*sz:=by rw[←hrb];exact Nat.div_mul_le_self _ _
 have h2:An*(sz+k)≤rm-sz:=by rw[←Mh];exact Nat.div_mul_le_self _ _
 have h3:1≤rb:=by rw[←hrb];exact(Nat.le_div_iff_mul_le hp).2 (by omega)
 have h4:2≤An:=by rw[←Mh];exact(Nat.le_div_iff_mul_le (by omega)).2 (by omega)
 have h6:rb≤rb*(hh*k):=Nat.le_mul_of_pos_right _ hp
 have h7:An*9≤An*(sz+k):=Nat.mul_le_mul_left _ (by omega)
 rw[Nat.mul_add]at h2 h7
 rw[Nat.mul_assoc]
 refine⟨⟨h3,by omega⟩,⟨h4,by omega⟩,by omega,by omega⟩
theorem Rk.fin{b5 b6 b8 O4 sb F N k' C:Nat}{er:Int}{w9 DS:World}{rb An:Nat}(hi:os[i]?=some (Cf first nb k hh l X.sz))
  (h:(er=0∧k'=k∧∃(l':List AB) (m' j:Nat),((∃s,Hl o s∧Cl o l s∧l'=BG once o s)∧NA F N k hh l' X.sz∧C=l'.length∧(j=0∨2^(j-1)<nb)∧m'≤m+2*nb*(1+j))∧Wd X (os.set i Bi++([AQ b5 first nb k count,AI b6 26 [.int .i64 o.a,.int .i64 o.b,.int .i64 o.c,.int .i64 o.d,.int .i64 o.e],AQ b8 0 0 0 0]++[AI sb 98 (Bh X.p.w k hh rb An o once count)])++[Cf F N k hh l' X.sz,AQ O4 F N k C]) m' w9)∨
   ((F=0∧N=0∧k'=0∧C=0)∧((er=5∧∀z,¬Rm X os z (3*nb))∨(er=6∧¬X.cm))∧∃m',Wd X (os++([AQ b5 first nb k count,AI b6 26 [.int .i64 o.a,.int .i64 o.b,.int .i64 o.c,.int .i64 o.d,.int .i64 o.e],AQ b8 0 0 0 0]++[AI sb 98 (Bh X.p.w k hh rb An o once count)])++[AQ O4 0 0 0 0]) m' w9)) (hw:DS=((((w9.setCell ⟨b8,0,none⟩ (.int .i64 (F:Nat))).setCell ⟨b8,1,none⟩ (.int .i64 (N:Nat))).setCell ⟨b8,2,none⟩ (.int .i64 (k':Nat))).setCell ⟨b8,3,none⟩ (.int .i64 (C:Nat)))):
  (DS.cell? ⟨b8,0,none⟩=some (.int .i64 (F:Nat))∧DS.cell? ⟨b8,1,none⟩=some (.int .i64 (N:Nat))∧DS.cell? ⟨b8,2,none⟩=some (.int .i64 (k':Nat))∧DS.cell? ⟨b8,3,none⟩=some (.int .i64 (C:Nat)))∧
   Hid (Rj X os i m nb k hh l o once (.returned (.tuple #[.agg #[.int .i64 (F:Nat),.int .i64 (N:Nat),.int .i64 (k':Nat),.int .i64 (C:Nat)],.int .i64 er])) DS):=by
 subst hw
 have key:∀(os' z:List AW) m',Wd X (os'++([AQ b5 first nb k count,AI b6 26 [.int .i64 o.a,.int .i64 o.b,.int .i64 o.c,.int .i64 o.d,.int .i64 o.e],AQ b8 0 0 0 0]++[AI sb 98 (Bh X.p.w k hh rb An o once count)])++z) m' w9→(Row (((((w9.setCell ⟨b8,0,none⟩ (.int .i64 (F:Nat))).setCell ⟨b8,1,none⟩ (.int .i64 (N:Nat))).setCell ⟨b8,2,none⟩ (.int .i64 (k':Nat))).setCell ⟨b8,3,none⟩ (.int .i64 (C:Nat)))) b8 39 [.int .i64 (F:Nat),.int .i64 (N:Nat),.int .i64 (k':Nat),.int .i64 (C:Nat)])∧Wd X (os'++z) m' (((((w9.setCell ⟨b8,0,none⟩ (.int .i64 (F:Nat))).setCell ⟨b8,1,none⟩ (.int .i64 (N:Nat))).setCell ⟨b8,2,none⟩ (.int .i64 (k':Nat))).setCell ⟨b8,3,none⟩ (.int .i64 (C:Nat)))):=fun os' z m' h1=>by
  rw[List.append_assoc]at h1
  have Bp:(os'++([AQ b5 first nb k count,AI b6 26 [.int .i64 o.a,.int .i64 o.b,.int .i64 o.c,.int .i64 o.d,.int .i64 o.e],AQ b8 0 0 0 0]++[AI sb 98 (Bh X.p.w k hh rb An o once count)]++z))[os'.length+2]?=some (AI b8 39 [.int .i64 ((0:Nat):Int),.int .i64 ((0:Nat):Int),.int .i64 ((0:Nat):Int),.int .i64 ((0:Nat):Int)]):=AM os' _ 2
  obtain⟨k1,k2⟩:=EF (F:=F) (N:=N) (k:=k') (C:=C) (h1.row Bp)
  have h4:=h1.MU Bp (by decide) k2 k1
  rw[List.set_append_right _ _ (by omega),Nat.add_sub_cancel_left]at h4
  refine⟨k1,?_⟩
  have h5:Wd X (os'++[AQ b5 first nb k count,AI b6 26 [.int .i64 o.a,.int .i64 o.b,.int .i64 o.c,.int .i64 o.d,.int .i64 o.e],AQ b8 F N k' C,AI sb 98 (Bh X.p.w k hh rb An o once count)]++z) m' (((((w9.setCell ⟨b8,0,none⟩ (.int .i64 (F:Nat))).setCell ⟨b8,1,none⟩ (.int .i64 (N:Nat))).setCell ⟨b8,2,none⟩ (.int .i64 (k':Nat))).setCell ⟨b8,3,none⟩ (.int .i64 (C:Nat)))):=by rw[List.append_assoc];exact h4
  exact h5.iP _ (AN ⟨rfl,rfl⟩ (AN ⟨rfl,rfl⟩ (AN ⟨rfl,rfl⟩ (AN ⟨rfl,rfl⟩ BW))))
 rcases h with⟨rfl,rfl,l',m',j,⟨h1,h2,h3,h4,h5⟩,h6⟩|⟨⟨rfl,rfl,rfl,rfl⟩,h2,m',h6⟩
 ·obtain⟨k1,k2⟩:=key _ _ _ h6
  have k3:Wd X ((os.set i Bi++[Cf F N k' hh l' X.sz])++[AQ O4 F N k' C]) m' (((((w9.setCell ⟨b8,0,none⟩ (.int .i64 (F:Nat))).setCell ⟨b8,1,none⟩ (.int .i64 (N:Nat))).setCell ⟨b8,2,none⟩ (.int .i64 (k':Nat))).setCell ⟨b8,3,none⟩ (.int .i64 (C:Nat)))):=by rw[List.append_assoc];exact k2
  exact⟨⟨k1.cell 0,k1.cell 1,k1.cell 2,k1.cell 3⟩,.inl ⟨F,N,C,l',m',j,rfl,h1,h2,h3,h4,h5,k3.forget (AN ⟨rfl,rfl⟩ BW)⟩⟩
 ·obtain⟨k1,k2⟩:=key _ _ _ h6
  exact⟨⟨k1.cell 0,k1.cell 1,k1.cell 2,k1.cell 3⟩,.inr ⟨er,rfl,h2,m',k2.forget (AN ⟨rfl,rfl⟩ BW)⟩⟩
theorem fA (h : Wd X os m W) (hi : os[i]? = some (Cf first nb k hh l X.sz)) (hf : NA first nb k hh l X.sz) (hc : l.length = count) (LI : Fm o) (hroom : 5 * X.sz ≤ X.rm - Ac AW.gw os) (gX : X.rm ≤ 1000000) (Hu : nb ≤ 10000) (hn : X.N + m + 40 * nb + 3 * count + 10 ≤ 1000000) :
    Calls Tryz.prog 20 #[.pointer (some ⟨X.p.w, 0, none⟩), .agg #[.int .i64 first, .int .i64 nb, .int .i64 k, .int .i64 count], .agg #[.int .i64 o.a, .int .i64 o.b, .int .i64 o.c, .int .i64 o.d, .int .i64 o.e], .bool once] W (Rj X os i m nb k hh l o once) := by
  have D9 : count ≤ 100000 := by rw [← hc]; exact hf.len
  have IS : nb = AA hh count := by rw [← hc]; exact hf.bn
  have hbd := h.bounds
  obtain ⟨rm, Ip⟩ : ∃ rm, min (X.rm - Ac AW.gw os) 65536 = rm := ⟨_, rfl⟩
  obtain ⟨rb, hrb⟩ : ∃ rb, (rm - 2 * X.sz) / (hh * k) = rb := ⟨_, rfl⟩
  obtain ⟨An, Mh⟩ : ∃ An, (rm - X.sz) / (X.sz + k) = An := ⟨_, rfl⟩
  obtain ⟨n1, n2, n3, n4⟩ := UR hf.kk ⟨hf.hh.1, hf.hh.2.1⟩ hbd.1 Ip hroom hrb Mh
  obtain ⟨W1, B8⟩ : ∃ W1, W1 = W.alloc (.cells #[.int .i64 first, .int .i64 nb, .int .i64 k, .int .i64 count] 39) := ⟨_, rfl⟩
  obtain ⟨W2, T3⟩ : ∃ W2, W2 = W1.alloc (.cells #[.int .i64 o.a, .int .i64 o.b, .int .i64 o.c, .int .i64 o.d, .int .i64 o.e] 26) := ⟨_, rfl⟩
  obtain ⟨W3, M4⟩ : ∃ W3, W3 = W2.alloc (.cells #[.int .i64 0, .int .i64 0, .int .i64 0, .int .i64 0] 39) := ⟨_, rfl⟩
  obtain ⟨b5, e5⟩ : ∃ b5, W.heap.size = b5 := ⟨_, rfl⟩
  obtain ⟨b6, e6⟩ : ∃ b6, b5 + 1 = b6 := ⟨_, rfl⟩
  obtain ⟨b8, e8⟩ : ∃ b8, b6 + 1 = b8 := ⟨_, rfl⟩
  have z1 : W1.heap.size = b6 := by rw [B8]; simp; omega
  have z2 : W2.heap.size = b8 := by rw [T3]; simp; omega
  have h1 : Wd X (os ++ [AQ b5 first nb k count]) m W1 := h.new (by rw [B8]; exact (Below.refl _ _).alloc (Nat.le_refl _) _) (by rw [B8, ← e5]; exact heap_alloc_new _ _) (by omega)
  have h2 : Wd X (os ++ [AQ b5 first nb k count] ++ [AI b6 26 [.int .i64 o.a, .int .i64 o.b, .int .i64 o.c, .int .i64 o.d, .int .i64 o.e]]) m W2 := h1.new (by rw [T3]; exact (Below.refl _ _).alloc (Nat.le_refl _) _) (by rw [T3, ← z1]; exact heap_alloc_new _ _) (by omega)
  have qN : Wd X (os ++ [AQ b5 first nb k count] ++ [AI b6 26 [.int .i64 o.a, .int .i64 o.b, .int .i64 o.c, .int .i64 o.d, .int .i64 o.e]] ++ [AQ b8 0 0 0 0]) m W3 := h2.new (by rw [M4]; exact (Below.refl _ _).alloc (Nat.le_refl _) _) (by rw [M4, ← z2]; exact heap_alloc_new _ _) (by omega)
  have h3 : Wd X (os ++ [AQ b5 first nb k count, AI b6 26 [.int .i64 o.a, .int .i64 o.b, .int .i64 o.c, .int .i64 o.d, .int .i64 o.e], AQ b8 0 0 0 0]) m W3 := by rw [List.append_assoc, List.append_assoc] at qN; exact qN
  have MQ : Hid (W3 = ((W.alloc (.cells #[.int .i64 first, .int .i64 nb, .int .i64 k, .int .i64 count] 39)).alloc (.cells #[.int .i64 o.a, .int .i64 o.b, .int .i64 o.c, .int .i64 o.d, .int .i64 o.e] 26)).alloc (.cells #[.int .i64 0, .int .i64 0, .int .i64 0, .int .i64 0] 39)) := by unfold Hid; rw [M4, T3, B8]
  have Mj : GX [AQ b5 first nb k count, AI b6 26 [.int .i64 o.a, .int .i64 o.b, .int .i64 o.c, .int .i64 o.d, .int .i64 o.e], AQ b8 0 0 0 0] := AN ⟨rfl, rfl⟩ (AN ⟨rfl, rfl⟩ (AN ⟨rfl, rfl⟩ BW))
  have D7 : Ac AW.gw (os ++ [AQ b5 first nb k count, AI b6 26 [.int .i64 o.a, .int .i64 o.b, .int .i64 o.c, .int .i64 o.d, .int .i64 o.e], AQ b8 0 0 0 0]) = Ac AW.gw os := by rw [BO, GI _ Mj]; rfl
  have lP : Hid (Calls Tryz.prog 25 #[.agg #[.int .i64 o.a, .int .i64 o.b, .int .i64 o.c, .int .i64 o.d, .int .i64 o.e]] W3 fun e w' => e = .returned (.bool true) ∧ Below W3.heap.size W3 w') := by
    have h1 := IB o W3
    rw [decide_eq_true LI] at h1; exact h1
  have wm : Hid (∀ w, Wd X (os ++ [AQ b5 first nb k count, AI b6 26 [.int .i64 o.a, .int .i64 o.b, .int .i64 o.c, .int .i64 o.d, .int .i64 o.e], AQ b8 0 0 0 0]) m w → Calls Tryz.prog 42 #[.pointer (some ⟨X.p.w, 0, none⟩), .agg #[.int .i64 first, .int .i64 nb, .int .i64 k, .int .i64 count]] w fun e w' => e = .returned (.bool true) ∧ Wd X (os ++ [AQ b5 first nb k count, AI b6 26 [.int .i64 o.a, .int .i64 o.b, .int .i64 o.c, .int .i64 o.d, .int .i64 o.e], AQ b8 0 0 0 0]) m w') := fun w hw => (QZ hw hf.Ow hf.hh.1 IS D9).mono fun e w' ⟨he, hb⟩ => ⟨he, hw.below hb⟩
  have lT : Hid (∀ w, Wd X (os ++ [AQ b5 first nb k count, AI b6 26 [.int .i64 o.a, .int .i64 o.b, .int .i64 o.c, .int .i64 o.d, .int .i64 o.e], AQ b8 0 0 0 0]) m w → Calls Tryz.prog 13 #[.pointer (some ⟨X.p.w, 0, none⟩)] w fun e w' => e = .returned (.pointer (some ⟨X.p.a, 0, none⟩)) ∧ w' = w) := fun w hw => LR hw
  have qm : Hid (∀ w, Wd X (os ++ [AQ b5 first nb k count, AI b6 26 [.int .i64 o.a, .int .i64 o.b, .int .i64 o.c, .int .i64 o.d, .int .i64 o.e], AQ b8 0 0 0 0]) m w → Calls Tryz.prog 18 #[.pointer (some ⟨X.p.w, 0, none⟩)] w fun e w' => e = .returned (.pointer (some ⟨X.p.d, 0, none⟩)) ∧ w' = w) := fun w hw => Qq hw
  obtain ⟨LF, qL⟩ : ∃ LF, X.rm - Ac AW.gw os = LF := ⟨_, rfl⟩
  have eX : Hid (∀ w, Wd X (os ++ [AQ b5 first nb k count, AI b6 26 [.int .i64 o.a, .int .i64 o.b, .int .i64 o.c, .int .i64 o.d, .int .i64 o.e], AQ b8 0 0 0 0]) m w → Calls Tryz.prog 43 #[.pointer (some ⟨X.p.a, 0, none⟩)] w fun e w' => e = .returned (.int .i64 (LF : Nat)) ∧ w' = w) := fun w hw => by
    have h1 := Qp hw; rw [D7, qL] at h1; exact h1
  obtain ⟨sz, hsz⟩ : ∃ sz, X.sz = sz := ⟨_, rfl⟩
  have wj : Hid (∀ w, Wd X (os ++ [AQ b5 first nb k count, AI b6 26 [.int .i64 o.a, .int .i64 o.b, .int .i64 o.c, .int .i64 o.d, .int .i64 o.e], AQ b8 0 0 0 0]) m w → Calls Tryz.prog 44 #[.pointer (some ⟨X.p.d, 0, none⟩)] w fun e w' => e = .returned (.int .i64 (sz : Nat)) ∧ w' = w) := fun w hw => by
    have h1 := NL hw; rw [hsz] at h1; exact h1
  have Kp : first ≤ 2000000 := hf.fst
  have LL : Hid (∀ w, Wd X (os ++ [AQ b5 first nb k count, AI b6 26 [.int .i64 o.a, .int .i64 o.b, .int .i64 o.c, .int .i64 o.d, .int .i64 o.e], AQ b8 0 0 0 0]) m w → Calls Tryz.prog 45 #[.pointer (some ⟨X.p.w, 0, none⟩), .agg #[.int .i64 first, .int .i64 nb, .int .i64 k, .int .i64 count]] w fun e w' => e = .returned (.bool true) ∧ Wd X (os ++ [AQ b5 first nb k count, AI b6 26 [.int .i64 o.a, .int .i64 o.b, .int .i64 o.c, .int .i64 o.d, .int .i64 o.e], AQ b8 0 0 0 0]) m w') := fun w hw => XL hw (Ag hi) Kp (by omega) count
  have HSH : Hid (∀ w, Wd X (os ++ [AQ b5 first nb k count, AI b6 26 [.int .i64 o.a, .int .i64 o.b, .int .i64 o.c, .int .i64 o.d, .int .i64 o.e], AQ b8 0 0 0 0]) m w → Calls Tryz.prog 47 #[.pointer (some ⟨X.p.w, 0, none⟩), .int .i64 k] w fun e w' => e = .returned (.agg #[.int .i64 k, .int .i64 hh, .int .i64 rb, .int .i64 An]) ∧ Wd X (os ++ [AQ b5 first nb k count, AI b6 26 [.int .i64 o.a, .int .i64 o.b, .int .i64 o.c, .int .i64 o.d, .int .i64 o.e], AQ b8 0 0 0 0]) m w') := fun w hw =>
    (SM (rm := rm) hw hf.kk hf.Ow hf.hh.1 (by rw [D7]; exact Ip) (by omega) hrb Mh).mono fun e w' ⟨he, hb⟩ => ⟨he, hw.below hb⟩
  have Dr : Hid (∀ (z : List AW) m w, Wd X (os ++ ([AQ b5 first nb k count, AI b6 26 [.int .i64 o.a, .int .i64 o.b, .int .i64 o.c, .int .i64 o.d, .int .i64 o.e], AQ b8 0 0 0 0] ++ z)) m w → Row w b5 39 [.int .i64 (first : Nat), .int .i64 (nb : Nat), .int .i64 (k : Nat), .int .i64 (count : Nat)] ∧ Row w b6 26 [.int .i64 o.a, .int .i64 o.b, .int .i64 o.c, .int .i64 o.d, .int .i64 o.e] ∧ Row w b8 39 [.int .i64 0, .int .i64 0, .int .i64 0, .int .i64 0]) := fun z m w hw => ⟨hw.row (AM os _ 0), hw.row (AM os _ 1), hw.row (AM os _ 2)⟩
  have Wx : Hid (∀ w, Wd X (os ++ [AQ b5 first nb k count, AI b6 26 [.int .i64 o.a, .int .i64 o.b, .int .i64 o.c, .int .i64 o.d, .int .i64 o.e], AQ b8 0 0 0 0]) m w → Row w b5 39 [.int .i64 (first : Nat), .int .i64 (nb : Nat), .int .i64 (k : Nat), .int .i64 (count : Nat)] ∧ Row w b6 26 [.int .i64 o.a, .int .i64 o.b, .int .i64 o.c, .int .i64 o.d, .int .i64 o.e] ∧ Row w b8 39 [.int .i64 0, .int .i64 0, .int .i64 0, .int .i64 0]) := fun w hw => Dr.out [] m w (by rw [List.append_nil]; exact hw)
  have HSS : Hid (∀ w sb, Wd X (os ++ ([AQ b5 first nb k count, AI b6 26 [.int .i64 o.a, .int .i64 o.b, .int .i64 o.c, .int .i64 o.d, .int .i64 o.e], AQ b8 0 0 0 0] ++ [AI sb 98 (Bh X.p.w k hh rb An o once count)])) m w → Calls Tryz.prog 48 #[.pointer (some ⟨sb, 0, none⟩), .agg #[.int .i64 first, .int .i64 nb, .int .i64 k, .int .i64 count]] w fun e w' => ∃ (F N k' C : Nat) (er : Int), e = .returned (.tuple #[.agg #[.int .i64 (F : Nat), .int .i64 (N : Nat), .int .i64 (k' : Nat), .int .i64 (C : Nat)], .int .i64 er]) ∧ Rk X os m nb k hh l o once ([AQ b5 first nb k count, AI b6 26 [.int .i64 o.a, .int .i64 o.b, .int .i64 o.c, .int .i64 o.d, .int .i64 o.e], AQ b8 0 0 0 0] ++ [AI sb 98 (Bh X.p.w k hh rb An o once count)]) F N k' C er w') := fun w sb hw => by
    let P : SP := ⟨X, os ++ ([AQ b5 first nb k count, AI b6 26 [.int .i64 o.a, .int .i64 o.b, .int .i64 o.c, .int .i64 o.d, .int .i64 o.e], AQ b8 0 0 0 0] ++ [AI sb 98 (Bh X.p.w k hh rb An o once count)]), sb, rb, An, o, once, k, hh, first, nb, count, l, m, w.heap.size, w.heap.size + 1, w.heap.size + 1 + 1, w.heap.size + 1 + 1 + 1, 0⟩
    have iA : GX ([AQ b5 first nb k count, AI b6 26 [.int .i64 o.a, .int .i64 o.b, .int .i64 o.c, .int .i64 o.d, .int .i64 o.e], AQ b8 0 0 0 0] ++ [AI sb 98 (Bh X.p.w k hh rb An o once count)]) := AN ⟨rfl, rfl⟩ (AN ⟨rfl, rfl⟩ (AN ⟨rfl, rfl⟩ (AN ⟨rfl, rfl⟩ BW)))
    have hgP : Ac AW.gw (os ++ ([AQ b5 first nb k count, AI b6 26 [.int .i64 o.a, .int .i64 o.b, .int .i64 o.c, .int .i64 o.d, .int .i64 o.e], AQ b8 0 0 0 0] ++ [AI sb 98 (Bh X.p.w k hh rb An o once count)])) = Ac AW.gw os := by rw [BO, GI _ iA]; rfl
    have hP : P.Ok (os.length + 3) := {
      row := AM os _ 3
      f := hf
      c := hc
      src := ⟨i, _, Ag hi, fun D hD hd => by rw [← hf.bn]; exact hd hD, fun _ => by
        show first ≤ first ∧ first + AA hh l.length ≤ first + nb
        rw [← hf.bn]; omega⟩
      rb := n1
      An := ⟨n2.1, by show An ≤ 1000000; omega⟩
      room1 := by show Ac AW.gw (os ++ ([AQ b5 first nb k count, AI b6 26 [.int .i64 o.a, .int .i64 o.b, .int .i64 o.c, .int .i64 o.d, .int .i64 o.e], AQ b8 0 0 0 0] ++ [AI sb 98 (Bh X.p.w k hh rb An o once count)])) + 2 * X.sz + rb * hh * k ≤ X.rm; rw [hgP]; exact n3
      room2 := by show Ac AW.gw (os ++ ([AQ b5 first nb k count, AI b6 26 [.int .i64 o.a, .int .i64 o.b, .int .i64 o.c, .int .i64 o.d, .int .i64 o.e], AQ b8 0 0 0 0] ++ [AI sb 98 (Bh X.p.w k hh rb An o once count)])) + X.sz + An * k + An * X.sz ≤ X.rm; rw [hgP]; exact n4
      rm := gX
      n := hn
      prod := by
        show nb * An ≤ 100000000
        exact Nat.le_trans (Nat.mul_le_mul Hu n2.2) (by omega) }
    refine (ek hP hw rfl rfl rfl rfl).mono ?_
    rintro e w' (⟨F, N, C, l', m', j, he, h1, h2, h3, h4, h5, h6⟩ | ⟨er, he, h1, m', h6⟩)
    · exact ⟨F, N, k, C, 0, he, .inl ⟨rfl, rfl, l', m', j, ⟨h1, h2, h3, h4, h5⟩, h6⟩⟩
    · refine ⟨0, 0, 0, 0, er, he, .inr ⟨⟨rfl, rfl, rfl, rfl⟩, ?_, m', h6⟩⟩
      rcases h1 with ⟨h1, h7⟩ | h1
      · exact .inl ⟨h1, fun z hz => h7 z (fj hz iA)⟩
      · exact .inr h1
  have G9 : Hid (∀ O4 sb F N k' C er w9 DS, ((er = 0 ∧ k' = k ∧ ∃ (l' : List AB) (m' j : Nat), ((∃ s, Hl o s ∧ Cl o l s ∧ l' = BG once o s) ∧ NA F N k hh l' X.sz ∧ C = l'.length ∧ (j = 0 ∨ 2 ^ (j - 1) < nb) ∧ m' ≤ m + 2 * nb * (1 + j)) ∧ Wd X (os.set i Bi ++ ([AQ b5 first nb k count, AI b6 26 [.int .i64 o.a, .int .i64 o.b, .int .i64 o.c, .int .i64 o.d, .int .i64 o.e], AQ b8 0 0 0 0] ++ [AI sb 98 (Bh X.p.w k hh rb An o once count)]) ++ [Cf F N k hh l' X.sz, AQ O4 F N k C]) m' w9) ∨
      ((F = 0 ∧ N = 0 ∧ k' = 0 ∧ C = 0) ∧ ((er = 5 ∧ ∀ z, ¬ Rm X os z (3 * nb)) ∨ (er = 6 ∧ ¬ X.cm)) ∧ ∃ m', Wd X (os ++ ([AQ b5 first nb k count, AI b6 26 [.int .i64 o.a, .int .i64 o.b, .int .i64 o.c, .int .i64 o.d, .int .i64 o.e], AQ b8 0 0 0 0] ++ [AI sb 98 (Bh X.p.w k hh rb An o once count)]) ++ [AQ O4 0 0 0 0]) m' w9)) → DS = ((((w9.setCell ⟨b8, 0, none⟩ (.int .i64 (F : Nat))).setCell ⟨b8, 1, none⟩ (.int .i64 (N : Nat))).setCell ⟨b8, 2, none⟩ (.int .i64 (k' : Nat))).setCell ⟨b8, 3, none⟩ (.int .i64 (C : Nat))) →
    (DS.cell? ⟨b8, 0, none⟩ = some (.int .i64 (F : Nat)) ∧ DS.cell? ⟨b8, 1, none⟩ = some (.int .i64 (N : Nat)) ∧ DS.cell? ⟨b8, 2, none⟩ = some (.int .i64 (k' : Nat)) ∧ DS.cell? ⟨b8, 3, none⟩ = some (.int .i64 (C : Nat))) ∧
      Hid (Rj X os i m nb k hh l o once (.returned (.tuple #[.agg #[.int .i64 (F : Nat), .int .i64 (N : Nat), .int .i64 (k' : Nat), .int .i64 (C : Nat)], .int .i64 er])) DS)) := fun O4 sb F N k' C er w9 DS h hw => Rk.fin (first := first) hi h hw
  have H3 := Lib.hid h3
  have HI := Lib.hid hi
  have RO : sz ≤ 256 := by rw [← hsz]; exact hbd.1.2
  obtain ⟨S5, zP⟩ : ∃ S5, 5 * sz = S5 := ⟨_, rfl⟩
  have e55 : (5 : Int) * (sz : Int) = (S5 : Int) := by omega
  have AG2 : S5 ≤ 1280 := by omega
  have hge : S5 ≤ LF := by omega
  have sR : decide (LF < S5) = false := by simp; omega
  have AC5 : decide ((LF : Int) < (S5 : Int)) = false := by simp; omega
  have Cn := Wx.out W3 h3
  have c0 : W3.cell? ⟨b6, 0, none⟩ = some (.int .i64 o.a) := Cn.2.1.cell 0
  have c1 : W3.cell? ⟨b6, 1, none⟩ = some (.int .i64 o.b) := Cn.2.1.cell 1
  have c2 : W3.cell? ⟨b6, 2, none⟩ = some (.int .i64 o.c) := Cn.2.1.cell 2
  have c3 : W3.cell? ⟨b6, 3, none⟩ = some (.int .i64 o.d) := Cn.2.1.cell 3
  have c4 : W3.cell? ⟨b6, 4, none⟩ = some (.int .i64 o.e) := Cn.2.1.cell 4
  have YO : nb ≤ 2000000 := by omega
  clear Cn h h1 h2 h3 qN hi hf hc LI hroom gX Hu hn IS hbd Ip hrb Mh n1 n2 n3 n4 B8 T3 M4 z1 z2 Mj D7 qL hsz zP D9
  go_enter Tryz.func20, Tryz.ntmps20
  go_upto_region 1 with (fail)
  rw [← MQ.out]
  clear MQ e5 e6 e8
  go_wp2_with fail
  refine lP.out.mono ?_
  rintro e w4 ⟨rfl, Dp⟩
  have h4 := H3.out.below Dp
  have r4 := (Wx.out w4 h4).1
  have d0 : w4.cell? ⟨b5, 0, none⟩ = some (.int .i64 first) := r4.cell 0
  have d1 : w4.cell? ⟨b5, 1, none⟩ = some (.int .i64 nb) := r4.cell 1
  have d2 : w4.cell? ⟨b5, 2, none⟩ = some (.int .i64 k) := r4.cell 2
  have d3 : w4.cell? ⟨b5, 3, none⟩ = some (.int .i64 count) := r4.cell 3
  have vH := Lib.hid (wm.out w4 h4)
  clear c0 c1 c2 c3 c4 r4 Dp lP H3 h4 wm
  go_wp2_with fail
  refine vH.out.mono ?_
  rintro e w5 ⟨rfl, h5⟩
  have H1 := Lib.hid (lT.out w5 h5)
  have H2 := Lib.hid (eX.out w5 h5)
  have H3 := Lib.hid (qm.out w5 h5)
  have H4 := Lib.hid (wj.out w5 h5)
  have HT := Lib.hid (LL.out w5 h5)
  have r5 := (Wx.out w5 h5).1
  have g0 : w5.cell? ⟨b5, 0, none⟩ = some (.int .i64 first) := r5.cell 0
  have g1 : w5.cell? ⟨b5, 1, none⟩ = some (.int .i64 nb) := r5.cell 1
  have g2 : w5.cell? ⟨b5, 2, none⟩ = some (.int .i64 k) := r5.cell 2
  have g3 : w5.cell? ⟨b5, 3, none⟩ = some (.int .i64 count) := r5.cell 3
  clear h5 r5 vH d0 d1 d2 d3 lT eX qm wj LL
  go_wp2_with fail
  refine H1.out.mono ?_
  rintro e w ⟨rfl, rfl⟩
  go_wp2_with fail
  refine H2.out.mono ?_
  rintro e w' ⟨rfl, rfl⟩
  go_wp2_with fail
  refine H3.out.mono ?_
  rintro e w6 ⟨rfl, rfl⟩
  go_wp2_with fail
  refine H4.out.mono ?_
  rintro e w7 ⟨rfl, rfl⟩
  clear H1 H2 H3 H4
  go_wp2_with fail
  refine HT.out.mono ?_
  rintro e w8 ⟨rfl, h8⟩
  clear HT g0 g1 g2 g3
  have zZ := h8.below (AG (Below.refl _ _))
  have uT := Lib.hid (HSH.out _ zZ)
  have wS : Hid (∀ w, Wd X (os ++ [AQ b5 first nb k count, AI b6 26 [.int .i64 o.a, .int .i64 o.b, .int .i64 o.c, .int .i64 o.d, .int .i64 o.e], AQ b8 0 0 0 0]) m w → (w.cell? ⟨b6, 0, none⟩ = some (.int .i64 o.a) ∧ w.cell? ⟨b6, 1, none⟩ = some (.int .i64 o.b) ∧ w.cell? ⟨b6, 2, none⟩ = some (.int .i64 o.c) ∧ w.cell? ⟨b6, 3, none⟩ = some (.int .i64 o.d) ∧ w.cell? ⟨b6, 4, none⟩ = some (.int .i64 o.e) ∧ w.cell? ⟨b5, 3, none⟩ = some (.int .i64 count) ∧ w.cell? ⟨b5, 2, none⟩ = some (.int .i64 k))) := fun w hw => by
    obtain ⟨j5, j6, _⟩ := Wx.out w hw
    exact ⟨j6.cell 0, j6.cell 1, j6.cell 2, j6.cell 3, j6.cell 4, j5.cell 3, j5.cell 2⟩
  have s1 := wS.out _ zZ
  clear h8 zZ HSH
  go_upto_region 7 with (fail)
  go_region_held3 (fun w => w.cell? ⟨b6, 0, none⟩ = some (.int .i64 o.a) ∧ w.cell? ⟨b6, 1, none⟩ = some (.int .i64 o.b) ∧ w.cell? ⟨b6, 2, none⟩ = some (.int .i64 o.c) ∧ w.cell? ⟨b6, 3, none⟩ = some (.int .i64 o.d) ∧ w.cell? ⟨b6, 4, none⟩ = some (.int .i64 o.e) ∧ w.cell? ⟨b5, 3, none⟩ = some (.int .i64 count) ∧ w.cell? ⟨b5, 2, none⟩ = some (.int .i64 k)) (first | with_reducible exact s1 | with_reducible exact s2 | with_reducible exact s3)
    ((go_at_call 47; (with_reducible refine uT.out.mono ?_); rintro e w9 ⟨rfl, h9⟩; have s2 := wS.out w9 h9; have s3 := wS.out _ (h9.below ((Below.refl _ _).alloc (Nat.le_refl _) (.cells #[.int .i64 k, .int .i64 hh, .int .i64 rb, .int .i64 An, .pointer (some ⟨X.p.w, 0, none⟩), .int .i64 o.a, .int .i64 o.b, .int .i64 o.c, .int .i64 o.d, .int .i64 o.e, .bool once, .int .i64 count] 98)))))
  have FJ : Wd X (os ++ ([AQ b5 first nb k count, AI b6 26 [.int .i64 o.a, .int .i64 o.b, .int .i64 o.c, .int .i64 o.d, .int .i64 o.e], AQ b8 0 0 0 0] ++ [AI w9.heap.size 98 (Bh X.p.w k hh rb An o once count)])) m (w9.alloc (.cells #[.int .i64 k, .int .i64 hh, .int .i64 rb, .int .i64 An, .pointer (some ⟨X.p.w, 0, none⟩), .int .i64 o.a, .int .i64 o.b, .int .i64 o.c, .int .i64 o.d, .int .i64 o.e, .bool once, .int .i64 count] 98)) := by
    have LJ := h9.new ((Below.refl _ _).alloc (Nat.le_refl _) _) (g := w9.heap.size) (t := 98) (cs := Bh X.p.w k hh rb An o once count) (heap_alloc_new w9 (.cells #[.int .i64 k, .int .i64 hh, .int .i64 rb, .int .i64 An, .pointer (some ⟨X.p.w, 0, none⟩), .int .i64 o.a, .int .i64 o.b, .int .i64 o.c, .int .i64 o.d, .int .i64 o.e, .bool once, .int .i64 count] 98)) (Nat.le_refl _)
    rw [List.append_assoc] at LJ; exact LJ
  clear s1 s2 s3 h9 uT wS
  generalize w9.alloc (.cells #[.int .i64 k, .int .i64 hh, .int .i64 rb, .int .i64 An, .pointer (some ⟨X.p.w, 0, none⟩), .int .i64 o.a, .int .i64 o.b, .int .i64 o.c, .int .i64 o.d, .int .i64 o.e, .bool once, .int .i64 count] 98) = DS at *
  generalize w9.heap.size = sb at *
  obtain ⟨j5, j6, j8⟩ := Dr.out _ _ _ FJ
  have d0 : DS.cell? ⟨b5, 0, none⟩ = some (.int .i64 first) := j5.cell 0
  have d1 : DS.cell? ⟨b5, 1, none⟩ = some (.int .i64 nb) := j5.cell 1
  have d2 : DS.cell? ⟨b5, 2, none⟩ = some (.int .i64 k) := j5.cell 2
  have d3 : DS.cell? ⟨b5, 3, none⟩ = some (.int .i64 count) := j5.cell 3
  have uU := Lib.hid (HSS.out DS sb FJ)
  clear j5 j6 j8 FJ HSS
  go_wp2_with fail
  refine uU.out.mono ?_
  rintro e Bs ⟨F, N, k', C, er, rfl, D8⟩
  clear d0 d1 d2 d3 uU
  have IZ : Below Bs.heap.size Bs (Bs.alloc (.cells #[.int .i64 (F : Nat), .int .i64 (N : Nat), .int .i64 (k' : Nat), .int .i64 (C : Nat)] 39)) := (Below.refl _ _).alloc (Nat.le_refl _) _
  have hrl : Row (Bs.alloc (.cells #[.int .i64 (F : Nat), .int .i64 (N : Nat), .int .i64 (k' : Nat), .int .i64 (C : Nat)] 39)) Bs.heap.size 39 [.int .i64 (F : Nat), .int .i64 (N : Nat), .int .i64 (k' : Nat), .int .i64 (C : Nat)] := heap_alloc_new _ _
  rcases D8 with ⟨rfl, hkk, l', m', j, vv, Eo⟩ | ⟨⟨rfl, rfl, rfl, rfl⟩, IV, m', Eo⟩
  · have hkk := hkk.symm
    subst hkk
    have J0 : Wd X (os ++ ([AQ b5 first nb k count, AI b6 26 [.int .i64 o.a, .int .i64 o.b, .int .i64 o.c, .int .i64 o.d, .int .i64 o.e], AQ b8 0 0 0 0] ++ [AI sb 98 (Bh X.p.w k hh rb An o once count)]) ++ [Cf F N k hh l' X.sz, AQ Bs.heap.size F N k C]) m' (Bs.alloc (.cells #[.int .i64 (F : Nat), .int .i64 (N : Nat), .int .i64 (k : Nat), .int .i64 (C : Nat)] 39)) := by
      have Jb := Eo.new IZ hrl (Nat.le_refl _)
      rw [List.append_assoc] at Jb; exact Jb
    have O7 := Lib.hid vv
    clear Eo IZ hrl vv
    have IW : Wd X (os ++ ([AQ b5 first nb k count, AI b6 26 [.int .i64 o.a, .int .i64 o.b, .int .i64 o.c, .int .i64 o.d, .int .i64 o.e], AQ b8 0 0 0 0] ++ ([AI sb 98 (Bh X.p.w k hh rb An o once count)] ++ [Cf F N k hh l' X.sz, AQ Bs.heap.size F N k C]))) m' (Bs.alloc (.cells #[.int .i64 (F : Nat), .int .i64 (N : Nat), .int .i64 (k : Nat), .int .i64 (C : Nat)] 39)) := by
      rw [List.append_assoc, List.append_assoc] at J0; exact J0
    obtain ⟨j5, _, _⟩ := Dr.out _ _ _ IW
    have d0 : (Bs.alloc (.cells #[.int .i64 (F : Nat), .int .i64 (N : Nat), .int .i64 (k : Nat), .int .i64 (C : Nat)] 39)).cell? ⟨b5, 0, none⟩ = some (.int .i64 first) := j5.cell 0
    have d1 : (Bs.alloc (.cells #[.int .i64 (F : Nat), .int .i64 (N : Nat), .int .i64 (k : Nat), .int .i64 (C : Nat)] 39)).cell? ⟨b5, 1, none⟩ = some (.int .i64 nb) := j5.cell 1
    have d2 : (Bs.alloc (.cells #[.int .i64 (F : Nat), .int .i64 (N : Nat), .int .i64 (k : Nat), .int .i64 (C : Nat)] 39)).cell? ⟨b5, 2, none⟩ = some (.int .i64 k) := j5.cell 2
    have d3 : (Bs.alloc (.cells #[.int .i64 (F : Nat), .int .i64 (N : Nat), .int .i64 (k : Nat), .int .i64 (C : Nat)] 39)).cell? ⟨b5, 3, none⟩ = some (.int .i64 count) := j5.cell 3
    have eY : Hid (Calls Tryz.prog 49 #[.pointer (some ⟨X.p.w, 0, none⟩), .agg #[.int .i64 first, .int .i64 nb, .int .i64 k, .int .i64 count]] (Bs.alloc (.cells #[.int .i64 (F : Nat), .int .i64 (N : Nat), .int .i64 (k : Nat), .int .i64 (C : Nat)] 39)) fun e w' => e = .returned (.int .i64 0) ∧ Wd X (os.set i Bi ++ ([AQ b5 first nb k count, AI b6 26 [.int .i64 o.a, .int .i64 o.b, .int .i64 o.c, .int .i64 o.d, .int .i64 o.e], AQ b8 0 0 0 0] ++ [AI sb 98 (Bh X.p.w k hh rb An o once count)]) ++ [Cf F N k hh l' X.sz, AQ Bs.heap.size F N k C]) m' w') := by
      refine (Vq J0 (Ag (Ag HI.out)) Kp YO count).mono ?_
      rintro e w' ⟨he, wK⟩
      rw [List.append_assoc, Dz HI.out, ← List.append_assoc] at wK
      exact ⟨he, wK⟩
    clear J0 IW j5
    go_upto_region 10 with (fail)
    generalize Bs.alloc (.cells #[.int .i64 (F : Nat), .int .i64 (N : Nat), .int .i64 (k : Nat), .int .i64 (C : Nat)] 39) = Vs at *
    generalize Bs.heap.size = O4 at *
    go_wp2_with fail
    refine eY.out.mono ?_
    rintro e w9 ⟨rfl, h9⟩
    clear d0 d1 d2 d3 eY
    have IW : Wd X (os.set i Bi ++ ([AQ b5 first nb k count, AI b6 26 [.int .i64 o.a, .int .i64 o.b, .int .i64 o.c, .int .i64 o.d, .int .i64 o.e], AQ b8 0 0 0 0] ++ ([AI sb 98 (Bh X.p.w k hh rb An o once count)] ++ [Cf F N k hh l' X.sz, AQ O4 F N k C]))) m' w9 := by
      rw [List.append_assoc, List.append_assoc] at h9; exact h9
    have r8 : Row w9 b8 39 [.int .i64 0, .int .i64 0, .int .i64 0, .int .i64 0] := IW.row (AM _ _ 2)
    have aI : Row w9 O4 39 [.int .i64 (F : Nat), .int .i64 (N : Nat), .int .i64 (k : Nat), .int .i64 (C : Nat)] := IW.row (AM _ _ 5)
    have x0 : w9.cell? ⟨O4, 0, none⟩ = some (.int .i64 F) := aI.cell 0
    have x1 : w9.cell? ⟨O4, 1, none⟩ = some (.int .i64 N) := aI.cell 1
    have x2 : w9.cell? ⟨O4, 2, none⟩ = some (.int .i64 k) := aI.cell 2
    have x3 : w9.cell? ⟨O4, 3, none⟩ = some (.int .i64 C) := aI.cell 3
    have y0 : w9.cell? ⟨b8, 0, none⟩ = some (.int .i64 0) := r8.cell 0
    have y1 : w9.cell? ⟨b8, 1, none⟩ = some (.int .i64 0) := r8.cell 1
    have y2 : w9.cell? ⟨b8, 2, none⟩ = some (.int .i64 0) := r8.cell 2
    have y3 : w9.cell? ⟨b8, 3, none⟩ = some (.int .i64 0) := r8.cell 3
    have f0 : w9.frozen? ⟨b8, 0, none⟩ = false := r8.free 0
    have f1 : w9.frozen? ⟨b8, 1, none⟩ = false := r8.free 1
    have f2 : w9.frozen? ⟨b8, 2, none⟩ = false := r8.free 2
    have f3 : w9.frozen? ⟨b8, 3, none⟩ = false := r8.free 3
    have Hv := G9.out O4 sb F N k C 0 w9 _ (.inl ⟨rfl, rfl, l', m', j, O7.out, h9⟩) rfl
    clear h9 IW r8 aI G9 O7
    go_wp2
    generalize ((((w9.setCell ⟨b8, 0, none⟩ (.int .i64 (F : Nat))).setCell ⟨b8, 1, none⟩ (.int .i64 (N : Nat))).setCell ⟨b8, 2, none⟩ (.int .i64 (k : Nat))).setCell ⟨b8, 3, none⟩ (.int .i64 (C : Nat))) = DS at *
    obtain ⟨⟨q0, q1, q2, q3⟩, HD⟩ := Hv
    exact bodyPost_ret (v := .tuple #[.agg #[.int .i64 (F : Nat), .int .i64 (N : Nat), .int .i64 (k : Nat), .int .i64 (C : Nat)], .int .i64 0]) (by simp [results, Tryz.results20, go_sem, q0, q1, q2, q3]) rfl HD.out
  · have J0 : Wd X (os ++ ([AQ b5 first nb k count, AI b6 26 [.int .i64 o.a, .int .i64 o.b, .int .i64 o.c, .int .i64 o.d, .int .i64 o.e], AQ b8 0 0 0 0] ++ [AI sb 98 (Bh X.p.w k hh rb An o once count)]) ++ [AQ Bs.heap.size 0 0 0 0]) m' (Bs.alloc (.cells #[.int .i64 0, .int .i64 0, .int .i64 0, .int .i64 0] 39)) := Eo.new IZ hrl (Nat.le_refl _)
    have HBD := Lib.hid IV
    have YT : er = 5 ∨ er = 6 := IV.elim (fun h => .inl h.1) fun h => .inr h.1
    have ne0 : (er == 0) = false := by rcases YT with rfl | rfl <;> rfl
    clear Eo IZ hrl IV YT
    go_upto_region 11 with (fail)
    have IW : Wd X (os ++ ([AQ b5 first nb k count, AI b6 26 [.int .i64 o.a, .int .i64 o.b, .int .i64 o.c, .int .i64 o.d, .int .i64 o.e], AQ b8 0 0 0 0] ++ ([AI sb 98 (Bh X.p.w k hh rb An o once count)] ++ [AQ Bs.heap.size 0 0 0 0]))) m' (Bs.alloc (.cells #[.int .i64 0, .int .i64 0, .int .i64 0, .int .i64 0] 39)) := by
      rw [List.append_assoc, List.append_assoc] at J0; exact J0
    generalize Bs.alloc (.cells #[.int .i64 0, .int .i64 0, .int .i64 0, .int .i64 0] 39) = w9 at *
    generalize Bs.heap.size = O4 at *
    have r8 : Row w9 b8 39 [.int .i64 0, .int .i64 0, .int .i64 0, .int .i64 0] := IW.row (AM _ _ 2)
    have aI : Row w9 O4 39 [.int .i64 0, .int .i64 0, .int .i64 0, .int .i64 0] := IW.row (AM _ _ 4)
    have x0 : w9.cell? ⟨O4, 0, none⟩ = some (.int .i64 0) := aI.cell 0
    have x1 : w9.cell? ⟨O4, 1, none⟩ = some (.int .i64 0) := aI.cell 1
    have x2 : w9.cell? ⟨O4, 2, none⟩ = some (.int .i64 0) := aI.cell 2
    have x3 : w9.cell? ⟨O4, 3, none⟩ = some (.int .i64 0) := aI.cell 3
    have y0 : w9.cell? ⟨b8, 0, none⟩ = some (.int .i64 0) := r8.cell 0
    have y1 : w9.cell? ⟨b8, 1, none⟩ = some (.int .i64 0) := r8.cell 1
    have y2 : w9.cell? ⟨b8, 2, none⟩ = some (.int .i64 0) := r8.cell 2
    have y3 : w9.cell? ⟨b8, 3, none⟩ = some (.int .i64 0) := r8.cell 3
    have f0 : w9.frozen? ⟨b8, 0, none⟩ = false := r8.free 0
    have f1 : w9.frozen? ⟨b8, 1, none⟩ = false := r8.free 1
    have f2 : w9.frozen? ⟨b8, 2, none⟩ = false := r8.free 2
    have f3 : w9.frozen? ⟨b8, 3, none⟩ = false := r8.free 3
    have Hv := G9.out O4 sb 0 0 0 0 er w9 _ (.inr ⟨⟨rfl, rfl, rfl, rfl⟩, HBD.out, m', J0⟩) rfl
    clear J0 IW r8 aI G9 HBD
    go_wp2
    generalize ((((w9.setCell ⟨b8, 0, none⟩ (.int .i64 ((0 : Nat) : Int))).setCell ⟨b8, 1, none⟩ (.int .i64 ((0 : Nat) : Int))).setCell ⟨b8, 2, none⟩ (.int .i64 ((0 : Nat) : Int))).setCell ⟨b8, 3, none⟩ (.int .i64 ((0 : Nat) : Int))) = DS at *
    obtain ⟨⟨q0, q1, q2, q3⟩, HD⟩ := Hv
    exact bodyPost_ret (v := .tuple #[.agg #[.int .i64 0, .int .i64 0, .int .i64 0, .int .i64 0], .int .i64 er]) (by simp [results, Tryz.results20, go_sem, q0, q1, q2, q3]) rfl HD.out
end
section
variable {X : Cx} {os : List AW} {m i : Nat} {W W' w0 w w' : World} {G : Nat → Prop} {D D' : St} {A A' : Ar} {S S1 : Sp} {p : Wp} {t : Wt} {l : List AB}
theorem Wd.base(h:Wd X os m W):∃D A S,Fw X.w0 X.p ⟨D,A,S⟩ (X.n+m) [] W:=by
 obtain⟨G,D,A,S,hw⟩:=h
 exact⟨D,A,S,G,hw.sys,hw.base,hw.O3,fun r hr=>by cases hr⟩
theorem ZT(h:Wd X os m W):Calls Tryz.prog 17 #[.pointer (some ⟨X.p.s,0,none⟩)] W fun e w'=>e=.returned (.int .i64 ((Az X.S0.fr-Ac AW.xw os:Nat):Int))∧Wd X os m w':=by
 obtain⟨G,D,A,S,hw⟩:=id h
 obtain⟨Gs,hs,_⟩:=hw.sys.pX
 have JN:=hw.sum
 refine(TY X.p.s S Gs W hs).mono fun e w' ⟨he,hb⟩=>⟨he.trans ?_,h.below hb⟩
 rw[show Az S.fr=Az X.S0.fr-Ac AW.xw os by omega]
theorem eg(h:Wd X os m W):Calls Tryz.prog 21 #[.pointer (some ⟨X.p.a,0,none⟩)] W fun e w'=>e=.returned (.int .i64 ((Ac AW.gw os:Nat):Int))∧w'=W:=by
 obtain⟨G,D,A,S,hw⟩:=h
 have:=hw.sys.Za
 rw[show ({D:=D,A:=A,S:=S}:Fs).A.used=Ac AW.gw os from hw.used]at this;exact this
theorem eo(h:Wd X os m W):∃q:Nat,q≤X.rm∧Calls Tryz.prog 35 #[.pointer (some ⟨X.p.a,0,none⟩)] W fun e w'=>e=.returned (.int .i64 (q:Int))∧w'=W:=by
 obtain⟨G,D,A,S,hw⟩:=h
 exact⟨A.CF,by rw[←hw.room];exact hw.sys.sound.CF.2,hw.sys.Sg⟩
theorem en(h:Wd X os m W):Calls Tryz.prog 14 #[.pointer (some ⟨X.p.a,0,none⟩)] W fun e w'=>e=.returned (.int .i64 (X.rm:Int))∧w'=W:=by
 obtain⟨G,D,A,S,hw⟩:=h
 obtain⟨Gd,Ga,Gs,hr,hd,ha,_⟩:=hw.sys
 obtain⟨h0,⟨mm,hr,_⟩,_⟩:=id ha
 have:=OY X.p.a A mm W hr
 rw[hw.room]at this;exact this
theorem eu {sz rm b n : Nat} (hG : ∀ k, G k → w0.heap.size ≤ k) (hb : Below w0.heap.size w0 w) (Kw : b ≤ 1000000)
    (hd : M9 w G p ⟨fresh sz b, empty rm, Be 0 b⟩ n t S1 l w') (ht : G7 (Be 0 b) S1 t.first t.blocks) : Wd ⟨w0, p, Be 0 b, rm, sz, b, True, n + l.length + 1, t.blocks, n + l.length + 1⟩ [Cf t.first t.blocks t.k t.h l sz] 0 w' := by
  obtain ⟨hfit, D', hw, hst, G', k1, k2, k3⟩ := hd
  have U1 : (Be 0 b).ok := Nq (by omega) Kw
  have hz := hb.size
  have one : ∀ {j : Nat} {a : AW}, [Cf t.first t.blocks t.k t.h l sz][j]? = some a → j = 0 ∧ a = Cf t.first t.blocks t.k t.h l sz := fun {j a} h => by
    rcases j with _ | j
    · simp at h; exact ⟨rfl, h.symm⟩
    · simp at h
  have TQ : ∀ z, hasB S1.fr z ↔ hasB (Be 0 b).fr z ∧ ¬ Fp (t.first, t.blocks) z := fun z => by
    rcases ht with ⟨h0, h1, rfl⟩ | ⟨h0, ht, _⟩
    · rw [h0]; exact ⟨fun h => ⟨h, Ab _ z⟩, fun h => h.1⟩
    · exact ht.has z
  have hex : ∀ z, Fp (t.first, t.blocks) z → hasB (Be 0 b).fr z := fun z hz => by
    rcases ht with ⟨h0, h1, rfl⟩ | ⟨h0, ht, _⟩
    · rw [h0] at hz; exact absurd hz (Ab _ z)
    · exact ht.room z hz.1 hz.2
  have JN := Pb ht
  have hsp : S1.first = (Be 0 b).first ∧ S1.blocks = (Be 0 b).blocks := by
    rcases ht with ⟨h0, h1, rfl⟩ | ⟨h0, ht, _⟩
    · exact ⟨rfl, rfl⟩
    · exact ⟨ht.first, ht.blocks⟩
  refine ⟨G', D', _, S1, {
    sys := k1
    LK := ⟨Nat.le_refl _, k1.fits.small⟩
    base := fun k hk => (k3 k hk).elim (hG k) fun hl => by show w0.heap.size ≤ k; omega
    O3 := hb.trans (k2.below hz hG)
    size := hw.size
    blocks := hw.blocks
    alive := hw.alive ⟨rfl, rfl⟩
    calm := fun _ => hw.calm (OG _ _)
    Al := by rw [hw.Al]; show (0 : Int) + _ ≤ _; show (0 : Int) + (t.blocks : Nat) ≤ ((t.blocks + 0 : Nat) : Int); omega
    room := YA ⟨fresh sz b, empty rm, Be 0 b⟩ S1 t.b D'
    used := X9 ⟨fresh sz b, empty rm, Be 0 b⟩ S1 t.b D'
    ok := fun j a ha => by rw [(one ha).2]; exact RZ
    st := fun j a b' n' ha hg => by rw [(one ha).2] at hg; cases hg
    mem := fun j a ha => by rw [(one ha).2]; exact ⟨trivial, fun k hk => hk.elim⟩
    QT := fun j a ha => by rw [(one ha).2]; exact fun _ => hst
    apart := fun j j2 a a2 ha Kx hne => absurd ((one ha).1.trans (one Kx).1.symm) hne
    exa := fun j j2 a a2 ha Kx hne => absurd ((one ha).1.trans (one Kx).1.symm) hne
    exs := fun j a ha => by rw [(one ha).2]; exact hex
    s0 := U1
    sp := hsp
    free := fun z => ⟨fun h => ⟨((TQ z).1 h).1, fun j a ha => by rw [(one ha).2]; exact ((TQ z).1 h).2⟩, fun h => (TQ z).2 ⟨h.1, h.2 0 _ rfl⟩⟩
    sum := JN
    range := by show ((0 + b : Nat) : Int) ≤ b; omega }⟩
end
def MV(X:Cx)(v:Value)(l:List AB):AW:=⟨fun b=>v.ownBlock=some b,fun W=>W.ownsRow X.w0.heap.size 63 5 v l.length (AY l),none,(0,0),fun _=>True⟩
section
variable {X : Cx} {os : List AW} {m i : Nat} {W W' : World} {l l' : List AB} {v v' : Value}
theorem UI:(MV X v l).Ok:=⟨fun W W' h2 hk=>CV h2 fun k he=>hk k he,fun _ _ _ _ _=>trivial,fun _ _ h=>by cases h⟩
theorem UJ(h:(MV X v l).A W){b:Nat}(hb:v.ownBlock=some b):∃cs,Row W b 63 cs:=by
 obtain⟨h3,⟨h4,_⟩|⟨gl,c,c2,h4,h5,h6,_⟩⟩:=h
 ·rw[h4]at hb;cases hb
 ·rw[h4]at hb
  have hb:gl=b:=by injection hb
  subst hb
  exact⟨_,h6⟩
theorem Wd.qv(hw:Wd X os m W)(hi:os[i]?=some (MV X v l))(hf:AL (fun b=>v.ownBlock=some b) W W')(ho:W'.ownsRow X.w0.heap.size 63 5 v' l'.length (AY l'))
  (hb:∀b,v'.ownBlock=some b→v.ownBlock=some b∨W.heap.size≤b):Wd X (os.set i (MV X v' l')) m W':=by
 have h2:=hw.at_ hi
 refine hw.Ju hi hf (fun b hb=>⟨hb,fun u hv=>?_⟩) UI ho (fun b AZ=>⟨hb b AZ,?_⟩) rfl rfl (fun _ _=>trivial)
 ·obtain⟨cs,hr⟩:=UJ h2 hb
  exact absurd (hr.typed hv) (by decide)
 ·obtain⟨cs,hr⟩:=UJ (X:=X) (v:=v') (l:=l') ho AZ
  exact hr.lt
theorem Wd.xG(hw:Wd X os m W):Wd X (os++[MV X (.slice none 0 0) []]) m W:=by
 have h1:=hw.grow.Ju (i:=os.length) (a:=Bi) (a':=MV X (.slice none 0 0) []) (R:=fun _=>False) (RG os) (AL.refl _ _) (fun k hk=>hk.elim) UI (aN _ _ _) (fun k hk=>by cases hk) rfl rfl (fun _ _=>trivial)
 rw[Ct]at h1
 exact h1
theorem Wd.Vu(hw:Wd X os m W)(hi:os[i]?=some (MV X v l))(hok:∀u∈l,BX u):∃A c,v=.slice A l.length c∧BD W W.heap.size A l.length l∧c≤maxLen:=by
 obtain⟨A,c,h1,h2,_,h3,_⟩:=Nh (hw.at_ hi) hok
 exact⟨A,c,h1,h2,h3⟩
end
structure LP where
 X:Cx
 os:List AW
 m:Nat
 x:Nat
 rt:Rt
 l:List AB
structure LP.Ok (P:LP):Prop where
 ok:Ft P.rt P.X.sz
 cnt:P.l.length=P.rt.count
 fit:∀u∈P.l,BX u∧Af P.rt.k u=true
 src:Src P.os P.X.sz P.rt.first P.rt.k P.rt.h P.l
 cm:P.X.cm
 n:P.X.N+P.m+AA P.rt.h P.l.length+1≤1000000
 len:P.l.length≤100000
def LP.at_(P:LP)(i:Nat):Rt:={P.rt with pos:=i}
def LP.J(P:LP)(i:Nat)(v:Value)(W:World):Prop:=Wd P.X (P.os++[DZ P.X.p P.x (P.at_ i) P.X.sz P.l]++[MV P.X v (P.l.take i)]) (P.m+AA P.rt.h i) W
def LP.J1(P:LP)(i:Nat)(v:Value)(W:World):Prop:=Wd P.X (P.os++[DZ P.X.p P.x (P.at_ (i+1)) P.X.sz P.l]++[MV P.X v (P.l.take i)]) (P.m+AA P.rt.h (i+1)) W
section
variable {P : LP} {W W' : World} {i : Nat} {v v' : Value}
theorem LP.atR(P:LP)(r:Rt)(v:Value)(l:List AB):(P.os++[DZ P.X.p P.x r P.X.sz P.l]++[MV P.X v l])[P.os.length]?=some (DZ P.X.p P.x r P.X.sz P.l):=by simp
theorem LP.qz(P:LP)(a b:AW)(c:AW):(P.os++[a]++[c]).set P.os.length b=P.os++[b]++[c]:=by simp
theorem LP.atL(P:LP)(a b:AW):(P.os++[a]++[b])[P.os.length+1]?=some b:=by simp
theorem LP.xI(P:LP)(a b c:AW):(P.os++[a]++[c]).set (P.os.length+1) b=P.os++[a]++[b]:=by simp
theorem LP.J.below(h:P.J i v W)(hb:Below W.heap.size W W'):P.J i v W':=Wd.below h hb
theorem LP.J1.below(h:P.J1 i v W)(hb:Below W.heap.size W W'):P.J1 i v W':=Wd.below h hb
theorem LP.next(hP:P.Ok)(h:P.J i v W)(hi:i<P.l.length):
  Calls Tryz.prog 52 #[.pointer (some ⟨P.x,0,none⟩)] W fun e w'=>∃t:AB,e=.returned (.tuple #[.agg #[.int .i64 t.a,.int .i64 t.b,.int .i64 t.c,.int .i64 t.d,.int .i64 t.e],.bool true,.int .i64 0])∧P.l[i]?=some t∧P.J1 i v w':=by
 have hh:=hP.ok.h.1
 have hle:=Aq (h:=P.rt.h) (c:=i+1) (c':=P.l.length) hh (by omega)
 have AF3:=Aq (h:=P.rt.h) (c:=i) (c':=i+1) hh (by omega)
 have ht:P.l[i]?=some P.l[i]:=List.getElem?_eq_getElem hi
 have B4:Src (P.os++[DZ P.X.p P.x (P.at_ i) P.X.sz P.l]++[MV P.X v (P.l.take i)]) P.X.sz P.rt.first P.rt.k P.rt.h P.l:=(hP.src.snoc _).snoc _
 have hok:iU (P.at_ i) P.X.sz P.l:=⟨⟨hP.ok.k,hP.ok.h,hP.ok.sz,⟨hP.ok.count.1,by show i≤P.rt.count;have:=hP.cnt;omega⟩,hP.ok.first⟩,hP.cnt,hP.fit⟩
 have hn:=hP.n
 refine(Mp h (P.atR _ _ _) hok (by omega) (by show i<P.rt.count;have:=hP.cnt;omega) B4 ht).mono ?_
 rintro e w' (⟨he,hw⟩|⟨_,hno,_⟩)
 ·refine⟨P.l[i],he,ht,?_⟩
  rw[P.qz]at hw
  unfold LP.J1
  rw[show P.m+AA P.rt.h (i+1)=P.m+AA P.rt.h i+(AA (P.at_ i).h ((P.at_ i).pos+1)-AA (P.at_ i).h (P.at_ i).pos)by show _=P.m+AA P.rt.h i+(AA P.rt.h (i+1)-AA P.rt.h i);omega]
  exact hw
 ·exact absurd hP.cm hno
theorem LP.end_(hP:P.Ok)(h:P.J P.l.length v W):
  Calls Tryz.prog 52 #[.pointer (some ⟨P.x,0,none⟩)] W fun e w'=>e=.returned (.tuple #[.agg #[.int .i64 0,.int .i64 0,.int .i64 0,.int .i64 0,.int .i64 0],.bool false,.int .i64 0])∧P.J P.l.length v w':=
 L7 h (P.atR _ _ _) ⟨hP.ok.k,hP.ok.h,hP.ok.sz,⟨hP.ok.count.1,by show P.l.length≤P.rt.count;have:=hP.cnt;omega⟩,hP.ok.first⟩ hP.cnt
theorem LP.push(h:P.J1 i v W){t:AB}(ht:P.l[i]?=some t)(hf:AL (fun k=>v.ownBlock=some k) W W')(ho:W'.ownsRow P.X.w0.heap.size 63 5 v' (i+1) (AY (P.l.take i++[t])))(hv:v'.ownBlock=v.ownBlock∨v'.ownBlock=some W.heap.size):P.J (i+1) v' W':=by
 have hi:i<P.l.length:=by
  rcases Nat.lt_or_ge i P.l.length with h1|h1
  ·exact h1
  ·rw[List.getElem?_eq_none h1]at ht;cases ht
 have RN:P.l.take (i+1)=P.l.take i++[t]:=by rw[List.take_add_one,ht];rfl
 have h1:=Wd.qv (v':=v') (l':=P.l.take (i+1)) h (P.atL _ _) hf (by rw[RN,List.length_append,List.length_take,Nat.min_eq_left (by omega)];exact ho) (fun b hb=>by
  rcases hv with h2|h2
  ·exact .inl (h2▸hb)
  ·rw[h2]at hb;injection hb with hb;exact .inr (by omega))
 rw[P.xI]at h1
 exact h1
theorem LP.own(h:P.J1 i v W)(hi:i≤P.l.length):W.ownsRow P.X.w0.heap.size 63 5 v i (AY (P.l.take i)):=by
 have:=Wd.at_ h (P.atL _ _)
 have h2:W.ownsRow P.X.w0.heap.size 63 5 v (P.l.take i).length (AY (P.l.take i)):=this
 rwa [List.length_take,Nat.min_eq_left hi]at h2
theorem LP.close(u:FrameMode)(h:P.J P.l.length v W):
  CallsD Tryz.prog 51 #[.pointer (some ⟨P.x,0,none⟩)] u W fun e u' w'=>u'=u∧(e=.returned (.tuple #[])∧Wd P.X (P.os++[MV P.X v P.l]) (P.m+AA P.rt.h P.l.length) w'):=by
 refine(JU u h (P.atR _ _ _)).mono ?_
 rintro e u' w' ⟨hu,he,hw⟩
 rw[P.qz,List.take_length]at hw
 refine⟨hu,he,?_⟩
 have Ek:Wd P.X (P.os++Ot P.X.p P.x (P.at_ P.l.length)::[MV P.X v P.l]) (P.m+AA P.rt.h P.l.length) w':=by simpa using hw
 exact Ek.cut rfl rfl
end
section
variable {X : Cx} {os : List AW} {m i : Nat} {W : World} {l : List AB}
theorem Vp{first nb k hh:Nat}(h:Wd X os m W)(hi:os[i]?=some (Cf first nb k hh l X.sz))(hf:NA first nb k hh l X.sz)(Dn:X.cm)(hroom:X.sz≤X.rm-Ac AW.gw os)(hn:X.N+m+nb+1≤1000000){c:Nat}(hc:l.length=c):
  Calls Tryz.prog 22 #[.pointer (some ⟨X.p.w,0,none⟩),.agg #[.int .i64 first,.int .i64 nb,.int .i64 k,.int .i64 c]] W fun e w'=>∃v,e=.returned (.tuple #[v,.int .i64 0])∧Wd X (os++[MV X v l]) (m+nb) w':=by
 subst hc
 have DP:Row (W.alloc (.cells #[.int .i64 first,.int .i64 nb,.int .i64 k,.int .i64 l.length] 39)) W.heap.size 39 [.int .i64 first,.int .i64 nb,.int .i64 k,.int .i64 l.length]:=heap_alloc_new _ _
 have h0:Wd X os m (W.alloc (.cells #[.int .i64 first,.int .i64 nb,.int .i64 k,.int .i64 l.length] 39)):=h.below ((Below.refl _ _).alloc (Nat.le_refl _) _)
 have hsz:=h.bounds.1
 have PS:=Lib.hid (Qo h0 first nb k hh l.length l hf.Ow hf.hh.1 hf.bn hf.len hf.fst (by omega))
 have L3:Hid (Src os X.sz first k hh l):=⟨i,_,hi,fun D hD hs=>by rw[←hf.bn];exact hs hD,fun _=>⟨Nat.le_refl _,by rw[←hf.bn];exact Nat.le_refl _⟩⟩
 have lM:Hid (∀x b g W1,Ft ⟨k,hh,first,nb,l.length,0,b,g⟩ X.sz→Wd X (os++[DZ X.p x ⟨k,hh,first,nb,l.length,0,b,g⟩ X.sz l]) m W1→
   LP.Ok ⟨X,os,m,x,⟨k,hh,first,nb,l.length,0,b,g⟩,l⟩∧LP.J ⟨X,os,m,x,⟨k,hh,first,nb,l.length,0,b,g⟩,l⟩ 0 (.slice none 0 0) W1∧X.w0.heap.size≤W1.heap.size):=fun x b g W1 k1 k2=>by
  refine⟨⟨k1,rfl,hf.fit,L3.out,Dn,by show X.N+m+AA hh l.length+1≤1000000;rw[←hf.bn];exact hn,hf.len⟩,?_,k2.size⟩
  have:=k2.xG
  show Wd X _ (m+AA hh 0) W1
  rw[A7]
  exact this
 have ur:Hid (nb=AA hh l.length):=hf.bn
 have hlen:=hf.len
 have c0:=DP.cell 0
 have c1:=DP.cell 1
 have c2:=DP.cell 2
 have c3:=DP.cell 3
 simp only[List.getElem?_cons_zero,List.getElem?_cons_succ]at c0 c1 c2 c3
 clear h hi hf Dn hroom hn DP h0 hsz L3
 generalize PK:(fun(e:Ending) (w':World)=>∃v,e=.returned (.tuple #[v,.int .i64 0])∧Wd X (os++[MV X v l]) (m+nb) w')=FK at*
 replace PK:=Lib.hid PK
 go_enter_defers Tryz.func22,Tryz.ntmps22
 go_wp2_with fail
 refine PS.out.mono ?_
 rintro e w1 ⟨x,b,g,rfl,hok,Ou⟩
 obtain⟨hP,hJ,AD4⟩:=lM.out x b g w1 hok Ou
 have HP:=Lib.hid hP
 have HJ0:=Lib.hid hJ
 clear hok Ou hP hJ lM PS c0 c1 c2 c3
 have G9:Hid (∀v w',Wd X (os++[MV X v l]) (m+AA hh l.length) w'→FK (.returned (.tuple #[v,.int .i64 0])) w'):=fun v w' hw=>by
  rw[←PK.out];exact⟨v,rfl,by rw[ur.out];exact hw⟩
 have HX:Hid ((⟨X,os,m,x,⟨k,hh,first,nb,l.length,0,b,g⟩,l⟩:LP).x=x∧(⟨X,os,m,x,⟨k,hh,first,nb,l.length,0,b,g⟩,l⟩:LP).l=l∧(⟨X,os,m,x,⟨k,hh,first,nb,l.length,0,b,g⟩,l⟩:LP).X=X∧(⟨X,os,m,x,⟨k,hh,first,nb,l.length,0,b,g⟩,l⟩:LP).os=os∧(⟨X,os,m,x,⟨k,hh,first,nb,l.length,0,b,g⟩,l⟩:LP).m=m∧(⟨X,os,m,x,⟨k,hh,first,nb,l.length,0,b,g⟩,l⟩:LP).rt.h=hh):=⟨rfl,rfl,rfl,rfl,rfl,rfl⟩
 generalize hP:(⟨X,os,m,x,⟨k,hh,first,nb,l.length,0,b,g⟩,l⟩:LP)=P at*
 clear hP
 have R2:Hid (∀i v W,P.J i v W→i<l.length→Calls Tryz.prog 52 #[.pointer (some ⟨x,0,none⟩)] W fun e w'=>∃t:AB,e=.returned (.tuple #[.agg #[.int .i64 t.a,.int .i64 t.b,.int .i64 t.c,.int .i64 t.d,.int .i64 t.e],.bool true,.int .i64 0])∧l[i]?=some t∧P.J1 i v w'):=fun i v W h hi=>by
  have:=LP.next HP.out h (by rw[HX.out.2.1];exact hi)
  rw[HX.out.1,HX.out.2.1]at this;exact this
 have jL:Hid (∀v W,P.J l.length v W→Calls Tryz.prog 52 #[.pointer (some ⟨x,0,none⟩)] W fun e w'=>e=.returned (.tuple #[.agg #[.int .i64 0,.int .i64 0,.int .i64 0,.int .i64 0,.int .i64 0],.bool false,.int .i64 0])∧P.J l.length v w'):=fun v W h=>by
  have:=LP.end_ (P:=P) (v:=v) (W:=W) HP.out (by rw[HX.out.2.1];exact h)
  rw[HX.out.1,HX.out.2.1]at this;exact this
 have DJ:Hid (∀u v W,P.J l.length v W→CallsD Tryz.prog 51 #[.pointer (some ⟨x,0,none⟩)] u W fun e u' w'=>u'=u∧(e=.returned (.tuple #[])∧Wd X (os++[MV X v l]) (m+AA hh l.length) w')):=fun u v W h=>by
  obtain⟨q1,q2,q3,q4,q5,q6⟩:=HX.out
  have:=LP.close (P:=P) (v:=v) (W:=W) u (by rw[q2];exact h)
  rw[q1,q2,q3,q4,q5,q6]at this;exact this
 have Vf:Hid (∀i v W,P.J1 i v W→i≤l.length→W.ownsRow X.w0.heap.size 63 5 v i (AY (l.take i))∧X.w0.heap.size≤W.heap.size):=fun i v W h hi=>by
  obtain⟨q1,q2,q3,q4,q5,q6⟩:=HX.out
  have h1:=LP.own (P:=P) h (by rw[q2];exact hi)
  have h2:=Wd.size h
  rw[q3]at h1 h2;rw[q2]at h1;exact⟨h1,h2⟩
 have qZ:Hid (∀i v v' W W' t,P.J1 i v W→l[i]?=some t→AL (fun k=>v.ownBlock=some k) W W'→W'.ownsRow X.w0.heap.size 63 5 v' (i+1) (AY (l.take i++[t]))→(v'.ownBlock=v.ownBlock∨v'.ownBlock=some W.heap.size)→P.J (i+1) v' W'):=fun i v v' W W' t h ht hf ho hv=>by
  obtain⟨q1,q2,q3,q4,q5,q6⟩:=HX.out
  exact LP.push h (by rw[q2];exact ht) hf (by rw[q2,q3];exact ho) hv
 clear HX HP
 go_wp2_with fail
 go_loopw [8] (fun iv wr=>∃i:Nat,i≤l.length∧sliceLen iv=i∧Hid (P.J i iv wr)) (fun iv _=>l.length-sliceLen iv)
 case atStart=>exact⟨0,Nat.zero_le _,rfl,HJ0.out⟩
 case round=>
  obtain⟨i,hi,Pw,MS⟩:=hrel
  have og:=Lib.hid Pw
  clear Pw
  by_cases hlt:i<l.length
  ·have uq:=Lib.hid (R2.out _ _ _ MS.out hlt)
   clear MS
   go_wp2_with fail
   refine uq.out.mono ?_
   rintro e w5 ⟨t,rfl,ht,Bp⟩
   have Y2:=Lib.hid Bp
   have HT:=Lib.hid ht
   clear Bp ht uq
   obtain⟨ta,tb,tc,td,te⟩:=t
   have Qj:Hid (Below w5.heap.size w5 ((w5.alloc (.cells #[.int .i64 ta,.int .i64 tb,.int .i64 tc,.int .i64 td,.int .i64 te] 63)).alloc (.cells #[.int .i64 ta,.int .i64 tb,.int .i64 tc,.int .i64 td,.int .i64 te] 63))):=((Below.refl w5.heap.size w5).alloc (Nat.le_refl _) _).alloc ((Below.refl w5.heap.size w5).alloc (Nat.le_refl _) _).size _
   have jQ:=Lib.hid (Y2.out.below Qj.out)
   have hrw:Row ((w5.alloc (.cells #[.int .i64 ta,.int .i64 tb,.int .i64 tc,.int .i64 td,.int .i64 te] 63)).alloc (.cells #[.int .i64 ta,.int .i64 tb,.int .i64 tc,.int .i64 td,.int .i64 te] 63)) (w5.alloc (.cells #[.int .i64 ta,.int .i64 tb,.int .i64 tc,.int .i64 td,.int .i64 te] 63)).heap.size 63 (Ai ⟨ta,tb,tc,td,te⟩):=heap_alloc_new _ _
   rw[show (w5.alloc (.cells #[.int .i64 ta,.int .i64 tb,.int .i64 tc,.int .i64 td,.int .i64 te] 63)).heap.size=w5.heap.size+1 by simp]at hrw
   have O5:=Lib.hid hrw
   clear hrw
   go_wp2_with (with_reducible refine BN 37 ?_)
   unfold Hid
   obtain⟨kC,Co⟩:=Vf.out _ _ _ jQ.out (by omega)
   refine MT rfl _ _ rfl kC rfl ⟨w5.heap.size+1,0,none⟩ rfl ⟨ta,tb,tc,td,te⟩ (fun j u hj=>?_) (by omega) ?_ ?_
   ·rw[←hj]
    rw[Yu]
    exact O5.out.cell j
   ·exact Co
   intro v' W Ap Kq az
   have AB8:=Lib.hid (qZ.out _ _ _ _ _ _ jQ.out HT.out Kq Ap az)
   have u5:=Lib.hid (aO Ap)
   clear kC Co Ap Kq az
   go_wp2
   go_roundw
   case rel=>exact⟨i+1,by omega,u5.out,AB8.out⟩
   case measure=>have:=u5.out;have:=og.out;simp;omega
  ·obtain rfl:i=l.length:=by omega
   have vD:=Lib.hid (jL.out _ _ MS.out)
   clear MS
   go_wp2_with fail
   refine vD.out.mono ?_
   rintro e w5 ⟨rfl,tG⟩
   have jQ:=Lib.hid (LP.J.below tG ((Below.refl w5.heap.size w5).alloc (Nat.le_refl _) (.cells #[.int .i64 0,.int .i64 0,.int .i64 0,.int .i64 0,.int .i64 0] 63)))
   clear tG vD
   go_wp2
   refine leaves_cons (f:=51) (args:=#[.pointer (some ⟨x,0,none⟩)]) (by simp) (by simp[go_sem]) ?_
   refine(DJ.out _ _ _ jQ.out).mono ?_
   rintro e u' Cq ⟨rfl,rfl,hw⟩
   exact⟨_,by simp[results,Tryz.results22,go_sem],G9.out _ _ hw⟩
end
def Kg(u0:Nat):Nat:=8+u0%60
def Xq(u0 u1 u2:Nat):Nat:=u1%40*Kg u0+u2%Kg u0
def rE(n rm b:Nat):Fs:=⟨fresh n b,empty rm,Be 0 b⟩
theorem NI(u0 u1 u2 u3:Nat)(h2:u2≤255)(w:World):Calls Tryz.prog 10 #[.agg #[.int .u8 u0,.int .u8 u1,.int .u8 u2,.int .u8 u3]] w fun e w'=>
  ∃p G,e=.returned (.tuple #[.pointer (some ⟨p.w,0,none⟩),.int .i64 (Kg u0:Nat)])∧Sys w' G p (rE (Kg u0) (Xq u0 u1 u2) 4000) 0∧(∀k,G k→w.heap.size≤k)∧Below w.heap.size w w':=by
 obtain⟨n,hn⟩:∃n,n=Kg u0:=⟨_,rfl⟩
 obtain⟨rm,Ip⟩:∃rm,rm=Xq u0 u1 u2:=⟨_,rfl⟩
 rw[←hn,←Ip]
 unfold Xq Kg at*
 obtain⟨r0,DP⟩:∃r0,r0=u0%60:=⟨_,rfl⟩
 obtain⟨r1,Bl⟩:∃r1,r1=u1%40:=⟨_,rfl⟩
 obtain⟨r2,Av⟩:∃r2,r2=u2%n:=⟨_,rfl⟩
 obtain⟨q,hq⟩:∃q,q=r1*n:=⟨_,rfl⟩
 rw[←DP]at hn
 rw[←Bl,←DP,←hn,←Av,←hq]at Ip
 have l0:r0<60:=by rw[DP];exact Nat.mod_lt _ (by omega)
 have l1:r1<40:=by rw[Bl];exact Nat.mod_lt _ (by omega)
 have n8:8≤n∧n≤67:=by omega
 have l2:r2<n:=by rw[Av];exact Nat.mod_lt _ (by omega)
 have bN:q≤3000:=by rw[hq];exact Nat.le_trans (Nat.mul_le_mul (show r1≤39 by omega) n8.2) (by omega)
 have t0:Int.tmod (u0:Int) 60=(r0:Int):=by rw[DP];rfl
 have t1:Int.tmod (u1:Int) 40=(r1:Int):=by rw[Bl];rfl
 have t2:Int.tmod (u2:Int) (n:Int)=(r2:Int):=by rw[Av];rfl
 have m0:(u0:Int)%60=(r0:Int):=by rw[DP];rfl
 have m1:(u1:Int)%40=(r1:Int):=by rw[Bl];rfl
 have m2:(u2:Int)%(n:Int)=(r2:Int):=by rw[Av];rfl
 have s0:(8:Int)+(r0:Int)=(n:Int):=by omega
 have s1:(r1:Int)*(n:Int)=(q:Int):=by rw[hq];simp
 have s2:(q:Int)+(r2:Int)=(rm:Int):=by omega
 have nz:¬((n:Int)=0):=by omega
 have nz2:((n:Int)==0)=false:=by simp;omega
 have nz3:¬n=0:=by omega
 have hrow:Row (w.alloc (.cells #[.int .u8 u0,.int .u8 u1,.int .u8 u2,.int .u8 u3] 23)) w.heap.size 23 [.int .u8 u0,.int .u8 u1,.int .u8 u2,.int .u8 u3]:=heap_alloc_new _ _
 have hb0:Below w.heap.size w (w.alloc (.cells #[.int .u8 u0,.int .u8 u1,.int .u8 u2,.int .u8 u3] 23)):=(Below.refl w.heap.size w).alloc (Nat.le_refl _) _
 have HN:=Lib.hid (gA n 4000 (w.alloc (.cells #[.int .u8 u0,.int .u8 u1,.int .u8 u2,.int .u8 u3] 23)) (by omega) ⟨by omega,by omega⟩)
 have Hj:=Lib.hid hrow
 have GW:=Lib.hid hb0
 have c0:(w.alloc (.cells #[.int .u8 u0,.int .u8 u1,.int .u8 u2,.int .u8 u3] 23)).cell? ⟨w.heap.size,0,none⟩=some (.int .u8 u0):=hrow.cell 0
 have HAN:Hid (∀W,Calls Tryz.prog 31 #[.int .i64 rm] W fun e w'=>e=.returned (.pointer (some ⟨W.heap.size,0,none⟩))∧FO w' (fun k=>k=W.heap.size) W.heap.size (empty rm)∧Below W.heap.size W w'):=fun W=>by
  have:=Qc (rm:Int) W (by omega) (by omega)
  rw[Int.toNat_natCast]at this;exact this
 have dP:Hid (∀W,Calls Tryz.prog 32 #[.int .i64 0,.int .i64 4000] W fun e w'=>∃p G,e=.returned (.pointer (some ⟨p,0,none⟩))∧Es w' G p (Be 0 4000)∧(∀k,G k→W.heap.size≤k)∧Below W.heap.size W w'):=fun W=>XZ 0 4000 W (by omega) (by omega)
 have dj:Hid (∀W d a s,Calls Tryz.prog 30 #[.pointer (some ⟨d,0,none⟩),.pointer (some ⟨a,0,none⟩),.pointer (some ⟨s,0,none⟩)] W fun e w'=>e=.returned (.pointer (some ⟨W.heap.size,0,none⟩))∧w'=W.alloc (.cells #[ptr d,ptr a,ptr s] 70)):=fun W d a s=>TZ d a s W
 clear hrow hb0 DP Bl Av hn Ip hq
 go_enter Tryz.func10,Tryz.ntmps10
 go_wp2_with fail
 refine HN.out.mono ?_
 rintro e w1 ⟨d,Gd,rfl,hd,Py,Am⟩
 have HD:=Lib.hid hd
 have HGD:=Lib.hid Py
 have LG:=Lib.hid Am
 have wk:Hid (∀W,Below w1.heap.size w1 W→W.cell? ⟨w.heap.size,1,none⟩=some (.int .u8 u1)∧W.cell? ⟨w.heap.size,2,none⟩=some (.int .u8 u2)):=fun W hb=>by
  have hr:=(Hj.out.below Am Hj.out.lt)
  have Av:=hr.below hb hr.lt
  exact⟨Av.cell 1,Av.cell 2⟩
 have e1:=wk.out w1.drew (AG (Below.refl _ _))
 clear hd Py Am HN c0
 have Ew:(u2:Int)≤255:=by omega
 have Y9:IntKind.i64.wrap (r1:Int)=(r1:Int):=IntWalk.i64_in _ (by omega)
 have hwb:IntKind.i64.wrap (u2:Int)=(u2:Int):=IntWalk.i64_in _ (by omega)
 have hwc:IntKind.i64.wrap (q:Int)=(q:Int):=IntWalk.i64_in _ (by omega)
 have vh:IntKind.i64.wrap (r2:Int)=(r2:Int):=IntWalk.i64_in _ (by omega)
 have xm:IntKind.i64.wrap (rm:Int)=(rm:Int):=IntWalk.i64_in _ (by omega)
 have xk:IntKind.u8.wrap (r1:Int)=(r1:Int):=by unfold IntKind.wrap;simp[IntKind.signed,IntKind.bits];omega
 clear l0 l1 l2 n8 bN t0 m0 s0 Ew
 go_wp2
 go_region_held3 (fun w'=>w'.cell? ⟨w.heap.size,1,none⟩=some (.int .u8 u1)∧w'.cell? ⟨w.heap.size,2,none⟩=some (.int .u8 u2)) (first|with_reducible exact e1|with_reducible exact q2|with_reducible exact q3|with_reducible exact q4)
  (first
   |(go_at_call 31;(with_reducible refine(HAN.out _).mono ?_);rintro e w2 ⟨rfl,ha,AZ⟩;have cF:Below w1.heap.size w1 w2:=(AG (Below.refl _ _)).trans AZ;have q2:=wk.out w2 cF)
   |(go_at_call 32;(with_reducible refine(dP.out _).mono ?_);rintro e w3 ⟨s,Gs,rfl,hs,kN,A8⟩;have VB:Below w1.heap.size w1 w3:=cF.trans (A8.mono cF.size);have q3:=wk.out w3 VB)
   |(go_at_call 30;(with_reducible refine(dj.out _ _ _ _).mono ?_);rintro e w4 ⟨rfl,Us⟩;have q4:=wk.out (w3.alloc (.cells #[ptr d,ptr w1.heap.size,ptr s] 70)) (VB.alloc VB.size _)))
 have hsy:Sys w4 (fun k=>k=w3.heap.size∨Gd k∨k=w1.heap.size∨Gs k) ⟨w3.heap.size,d,w1.heap.size,s⟩ (rE n rm 4000) 0:=by
  rw[Us]
  exact ld HD.out (AG (Below.refl _ _)|>.trans AZ) ha (fun k hk=>by rw[hk];exact Nat.le_refl _) rfl A8 hs (fun k hk=>kN k hk)
 have HSY:=Lib.hid hsy
 have Dp:Below w1.heap.size w1 w4:=by rw[Us];exact VB.alloc VB.size _
 have qs:=Lib.hid ((GW.out.trans (LG.out.mono GW.out.size)).trans (Dp.mono (Nat.le_trans GW.out.size LG.out.size)))
 have HGA:Hid (∀k,(k=w3.heap.size∨Gd k∨k=w1.heap.size∨Gs k)→w.heap.size≤k):=by
  have z1:=GW.out.size
  have z2:=LG.out.size
  have z3:=VB.size
  have z4:=cF.size
  rintro k (rfl|h|rfl|h)
  ·omega
  ·exact Nat.le_trans z1 (HGD.out k h)
  ·omega
  ·have:=kN k h;omega
 subst Us
 clear hsy ha hs kN AZ A8 Dp cF VB q2 q3 q4
 go_wp2
 go_ret2
 exact⟨⟨w3.heap.size,d,w1.heap.size,s⟩,_,rfl,HSY.out,HGA.out,qs.out⟩
section
variable {w0 w : World} {G : Nat → Prop} {p : Wp} {n rm b k m c : Nat} {A : Option Addr} {l : List AB}
theorem gm(hk:0<k∧k≤5)(hn:8≤n∧n≤256):0<AH n k∧AH n k*k≤n-2∧AH n k≤254:=by
 unfold AH
 rw[if_neg (by omega),Int.toNat_natCast]
 have h1:k≤n-2:=by omega
 have h2:=(Nat.le_div_iff_mul_le hk.1).2 (show 1*k≤n-2 by omega)
 have h3:=Nat.div_mul_le_self (n-2) k
 have h4:=Nat.div_le_self (n-2) k
 exact⟨by omega,h3,by omega⟩
theorem rJ(hs:Sys w G p (rE n rm b) 0)(hG:∀k,G k→w0.heap.size≤k)(hb:Below w0.heap.size w0 w)(hl:BD w w.heap.size A m l)(vr:0<m→∀b off,A=some ⟨b,off,none⟩→¬G b)(hk:0<k∧k≤5)(hn:8≤n∧n≤256)(hlen:l.length≤1000)(Kw:AA (AH n k) l.length≤b∧b≤1000000)(hfit:∀u∈l,Af k u=true):
  Calls Tryz.prog 15 #[.pointer (some ⟨p.w,0,none⟩),.int .i64 k,.slice A m c] w fun e w'=>
   (rm<n∧e=.returned (.tuple #[.agg #[.int .i64 0,.int .i64 0,.int .i64 0,.int .i64 0],.int .i64 7])∧Below w0.heap.size w0 w')∨
   (n≤rm∧∃first nb:Nat,e=.returned (.tuple #[.agg #[.int .i64 first,.int .i64 nb,.int .i64 k,.int .i64 l.length],.int .i64 0])∧first=0∧NA first nb k (AH n k) l n∧Wd ⟨w0,p,Be 0 b,rm,n,b,True,l.length+1,nb,l.length+1⟩ [Cf first nb k (AH n k) l n] 0 w'):=by
 have hh:=gm hk hn
 refine(cN hs (k:Int) hl vr (by omega)).mono ?_
 intro e w' h
 have ha:Fo (rE n rm b) (k:Int) (l.length:Int):=⟨by show AH n k≠0;omega,by omega,by omega⟩
 by_cases hr:n≤rm
 ·refine .inr ⟨hr,?_⟩
  obtain⟨t,S1,he,hd,h1,h2,h3,h4,h5,h6⟩:=aZ h (Nq (by omega) Kw.2) (OG _ _) (by show ((0+b:Nat):Int)≤(b:Int);omega) ha (by show n≤rm-0;omega) ⟨0,Jt Kw.1⟩ (fun q hq u hu=>by
   obtain rfl:q=k:=by omega
   exact hfit u hu)
  have Fe:t.k=k:=by omega
  have vh:=eu hG hb Kw.2 hd h4
  have qO:t.h=AH n k:=h2
  rw[Fe,qO]at vh
  rw[Nat.zero_add]at vh
  unfold DA at he
  rw[Fe]at he
  exact⟨t.first,t.blocks,he,(Sn h4).1,⟨hk,hh,rfl,by rw[h3,qO],by omega,h5,fun u hu=>⟨hl.2.1 u hu,hfit u hu⟩⟩,vh⟩
 ·refine .inl ⟨by omega,?_⟩
  rcases h with⟨er,he,hw,El⟩|⟨t,S1,⟨_,h2,_⟩,_⟩
  ·have YT:er=7:=by
    rcases hw with⟨h0,h1⟩|⟨h0,_⟩|⟨h0,h1,h2,_⟩
    ·exact absurd ha h1
    ·exact h0
    ·exfalso
     have qO:n≤rm-0:=by first|exact h2|exact h1
     omega
   subst YT
   obtain⟨G',k1,k2,k3⟩:=El
   unfold DA at he
   exact⟨he,hb.trans (k2.below hb.size hG)⟩
  ·have qO:n≤rm-0:=h2
   omega
end
def FY(once:Bool)(o:AB)(l:List AB):List AB:=if once then Eu o [] l else Ev o [] l
theorem S3{once:Bool}{o:AB}{l s:List AB}(h1:Hl o s)(h2:Cl o l s):BG once o s=FY once o l:=by
 unfold BG FY
 rcases once with _| _
 ·exact cW h1 h2
 ·exact cV h1 h2
theorem Pn{j nb:Nat}(h:j=0∨2^(j-1)<nb)(hn:nb≤1024):j≤10:=by
 rcases Nat.lt_or_ge 10 j with h1|h1
 ·have:=Nat.pow_le_pow_right (show 0<2 by omega) (show 10≤j-1 by omega)
  rcases h with h|h<;>omega
 ·exact h1
theorem SV{X:Cx}{b first nb k hh:Nat}{l:List AB}{os:List AW}(hS:X.S0=Be 0 b)(hf:first=0)(hb:4*nb≤b)(hos:GX os):Rm X (Cf first nb k hh l X.sz::os) nb (3*nb):=fun z h1 h2=>by
 refine⟨?_,fun i a ha=>?_⟩
 ·rw[hS]
  have:=Jt (m:=b) (n:=b) (Nat.le_refl _) z (by omega) (by omega)
  exact this
 ·rcases i with _|i
  ·simp at ha
   subst ha
   intro hx
   have hx:first≤z∧z<first+nb:=hx
   omega
  ·have:=hos a (List.mem_of_getElem? (by simpa using ha))
   intro hx
   have h3:a.ex.1≤z∧z<a.ex.1+a.ex.2:=hx
   omega
section
variable {X : Cx} {os : List AW} {m i : Nat} {W : World} {first nb k hh count : Nat} {l : List AB} {o : AB} {once : Bool}
def dH(X:Cx)(os:List AW)(i m nb k hh:Nat)(l:List AB)(o:AB)(once:Bool)(e:Ending)(w':World):Prop:=
 ∃(F N C m' j:Nat),e=.returned (.tuple #[.agg #[.int .i64 (F:Nat),.int .i64 (N:Nat),.int .i64 k,.int .i64 (C:Nat)],.int .i64 0])∧(FY once o l).length=C∧NA F N k hh (FY once o l) X.sz∧(j=0∨2^(j-1)<nb)∧m'≤m+2*nb*(1+j)∧Wd X (os.set i Bi++[Cf F N k hh (FY once o l) X.sz]) m' w'
theorem Vz(h:Wd X os m W)(hi:os[i]?=some (Cf first nb k hh l X.sz))(hf:NA first nb k hh l X.sz)(hc:l.length=count)(LI:Fm o)(hroom:5*X.sz≤X.rm-Ac AW.gw os)(gX:X.rm≤1000000)(Hu:nb≤10000)(hn:X.N+m+40*nb+3*count+10≤1000000)(Dn:X.cm)(hz:∃z,Rm X os z (3*nb)):
  Calls Tryz.prog 20 #[.pointer (some ⟨X.p.w,0,none⟩),.agg #[.int .i64 first,.int .i64 nb,.int .i64 k,.int .i64 count],.agg #[.int .i64 o.a,.int .i64 o.b,.int .i64 o.c,.int .i64 o.d,.int .i64 o.e],.bool once] W (dH X os i m nb k hh l o once):=by
 refine(fA h hi hf hc LI hroom gX Hu hn).mono ?_
 rintro e w' (⟨F,N,C,l',m',j,he,⟨s,h1,h2,h3⟩,YS,hC,hj,hm,hw⟩|⟨er,_,⟨_,hno⟩|⟨_,hno⟩,_⟩)
 ·rw[S3 h1 h2]at h3
  subst h3
  exact⟨F,N,C,m',j,he,hC.symm,YS,hj,hm,hw⟩
 ·obtain⟨z,hz⟩:=hz
  exact absurd hz (hno z)
 ·exact absurd Dn hno
end
theorem XJ{X:Cx}{v:Value}{l:List AB}{W:World}(h:(MV X v l).A W)(h0:0<l.length):∃gl c,v=.slice (some ⟨gl,0,none⟩) l.length c∧∀(j:Nat) (u:Value),(AY l)[j]?=some u→W.cell? ⟨gl,j,none⟩=some u:=by
 obtain⟨h3,⟨h4,h5⟩|⟨gl,c,cs,h4,h5,h6,h7,h8,h9,FJ⟩⟩:=h
 ·omega
 ·refine⟨gl,c,h4,fun j u hj=>?_⟩
  have hlt:j<(AY l).length:=by
   rcases Nat.lt_or_ge j (AY l).length with h|h
   ·exact h
   ·rw[List.getElem?_eq_none h]at hj;cases hj
  have LJ:cs.toList[j]?=some u:=by
   rw[←hj,←FJ]
   rw[List.getElem?_take_of_lt (by rw[←FJ,List.length_take]at hlt;omega)]
  exact((show Row W gl 63 cs.toList from h6).cell j).trans LJ
def RL:List AB:=[⟨1,0,0,0,0⟩,⟨3,0,0,0,0⟩,⟨2,0,0,0,0⟩]
theorem Ub{W:World}{b:Nat}(h:Row W b 63 (AY RL)):BD W W.heap.size (some ⟨b,0,none⟩) 3 RL:=by
 have ho:W.ownsRow 0 63 5 (.slice (some ⟨b,0,none⟩) 3 3) 3 (AY RL):=⟨rfl,.inr ⟨b,3,(AY RL).toArray,rfl,Nat.zero_le _,h,Nat.le_refl _,by decide,rfl,rfl⟩⟩
 obtain⟨A,c,he,hr,_⟩:=Nh ho (fun u hu=>Zs (by
  simp[RL]at hu
  rcases hu with rfl|rfl|rfl<;>simp[AB.Bb]))
 injection he with e1 e2 e3
 subst e1
 exact hr
theorem fT:FY false ⟨-1,0,0,0,0⟩ RL=[⟨3,0,0,0,0⟩,⟨2,0,0,0,0⟩,⟨1,0,0,0,0⟩]:=by decide
theorem tX:Fm ⟨-1,0,0,0,0⟩:=by decide
theorem Tl(w:World):Calls Tryz.prog 11 #[] w fun e w'=>e=.returned (.bool true)∧Below w.heap.size w w':=by
 have HW:Hid (Calls Tryz.prog 10 #[.agg #[.int .u8 0,.int .u8 20,.int .u8 0,.int .u8 0]] w fun e w'=>
  ∃p G,e=.returned (.tuple #[.pointer (some ⟨p.w,0,none⟩),.int .i64 8])∧Sys w' G p (rE 8 160 4000) 0∧(∀k,G k→w.heap.size≤k)∧Below w.heap.size w w'):=NI 0 20 0 0 (by omega) w
 go_enter Tryz.func11,Tryz.ntmps11
 go_wp2_with fail
 refine HW.out.mono ?_
 rintro e w1 ⟨p,G,rfl,hs,hG,hb⟩
 have Ox:Below w1.heap.size w1 (w1.alloc (.cells #[.int .i64 1,.int .i64 0,.int .i64 0,.int .i64 0,.int .i64 0,.int .i64 3,.int .i64 0,.int .i64 0,.int .i64 0,.int .i64 0,.int .i64 2,.int .i64 0,.int .i64 0,.int .i64 0,.int .i64 0] 63)):=(Below.refl _ _).alloc (Nat.le_refl _) _
 have EL:Row (w1.alloc (.cells #[.int .i64 1,.int .i64 0,.int .i64 0,.int .i64 0,.int .i64 0,.int .i64 3,.int .i64 0,.int .i64 0,.int .i64 0,.int .i64 0,.int .i64 2,.int .i64 0,.int .i64 0,.int .i64 0,.int .i64 0] 63)) w1.heap.size 63 (AY RL):=heap_alloc_new _ _
 have HL:Hid (Calls Tryz.prog 15 #[.pointer (some ⟨p.w,0,none⟩),.int .i64 1,.slice (some ⟨w1.heap.size,0,none⟩) 3 3] (w1.alloc (.cells #[.int .i64 1,.int .i64 0,.int .i64 0,.int .i64 0,.int .i64 0,.int .i64 3,.int .i64 0,.int .i64 0,.int .i64 0,.int .i64 0,.int .i64 2,.int .i64 0,.int .i64 0,.int .i64 0,.int .i64 0] 63)) fun e w'=>
   ∃nb:Nat,e=.returned (.tuple #[.agg #[.int .i64 0,.int .i64 nb,.int .i64 1,.int .i64 3],.int .i64 0])∧nb≤3∧NA 0 nb 1 6 RL 8∧Wd ⟨w,p,Be 0 4000,160,8,4000,True,4,nb,4⟩ [Cf 0 nb 1 6 RL 8] 0 w'):=by
  refine(rJ (w0:=w) (rm:=160) (n:=8) (b:=4000) (k:=1) (hs.below Ox) hG (hb.trans (Ox.mono hb.size)) (Ub EL) (fun _ b off e hg=>by
   injection e with e;injection e with e _
   subst e
   exact Nat.lt_irrefl _ (hs.lt hg)) (by omega) (by omega) (by decide) (by decide) (by decide)).mono ?_
  rintro e w' (⟨hno,_⟩|⟨_,first,nb,he,hf,YS,hw⟩)
  ·omega
  ·subst hf
   refine⟨nb,he,?_,YS,hw⟩
   rw[YS.bn];exact BL _ _
 clear Ox EL hs hG hb HW
 go_wp2_with fail
 refine HL.out.mono ?_
 rintro e w2 ⟨nb,rfl,Hu,YS,Ek⟩
 have uP:Hid (∀W,Below w2.heap.size w2 W→Calls Tryz.prog 20 #[.pointer (some ⟨p.w,0,none⟩),.agg #[.int .i64 0,.int .i64 nb,.int .i64 1,.int .i64 3],.agg #[.int .i64 (-1),.int .i64 0,.int .i64 0,.int .i64 0,.int .i64 0],.bool false] W fun e w'=>
   ∃F N m',e=.returned (.tuple #[.agg #[.int .i64 (F:Nat),.int .i64 (N:Nat),.int .i64 1,.int .i64 3],.int .i64 0])∧NA F N 1 6 [⟨3,0,0,0,0⟩,⟨2,0,0,0,0⟩,⟨1,0,0,0,0⟩] 8∧m'≤1000∧Wd ⟨w,p,Be 0 4000,160,8,4000,True,4,nb,4⟩ [Bi,Cf F N 1 6 [⟨3,0,0,0,0⟩,⟨2,0,0,0,0⟩,⟨1,0,0,0,0⟩] 8] m' w'):=fun W hb=>by
  have hs:=Vz (X:=⟨w,p,Be 0 4000,160,8,4000,True,4,nb,4⟩) (once:=false) (o:=⟨-1,0,0,0,0⟩) (count:=3) (Ek.below hb) (i:=0) rfl YS rfl tX (by show 40≤160-0;omega) (by show 160≤1000000;omega) (by omega) (by show 4+0+40*nb+9+10≤1000000;omega) trivial ⟨nb,SV rfl rfl (by omega) (fun q hq=>by cases hq)⟩
  refine hs.mono ?_
  rintro e w' ⟨F,N,C,m',j,he,hC,hf,hj,hm,hw⟩
  rw[fT]at hC hf hw
  have hC:3=C:=hC
  subst hC
  have hj2:=Pn hj (by omega)
  refine⟨F,N,m',he,hf,?_,hw⟩
  have:2*nb*(1+j)≤6*11:=Nat.mul_le_mul (by omega) (by omega)
  omega
 have Bt:=Lib.hid Ek.size
 clear HL Hu YS Ek
 go_wp2_with fail
 refine(uP.out _ ((Below.refl _ _).alloc (Nat.le_refl _) _)).mono ?_
 rintro e w3 ⟨F,N,m',rfl,hf,hm,eD⟩
 have qd:Hid (∀W,Below w3.heap.size w3 W→Calls Tryz.prog 22 #[.pointer (some ⟨p.w,0,none⟩),.agg #[.int .i64 F,.int .i64 N,.int .i64 1,.int .i64 3]] W fun e w'=>∃gl c,e=.returned (.tuple #[.slice (some ⟨gl,0,none⟩) 3 c,.int .i64 0])∧w'.cell? ⟨gl,0,none⟩=some (.int .i64 3)∧w'.cell? ⟨gl,10,none⟩=some (.int .i64 1)∧Below w.heap.size w w'):=fun W hb=>by
  have hN:N≤3:=by rw[hf.bn];exact BL _ _
  refine(Vp (X:=⟨w,p,Be 0 4000,160,8,4000,True,4,nb,4⟩) (eD.below hb) (i:=1) rfl hf trivial (by show 8≤160-0;omega) (by show 4+m'+N+1≤1000000;omega) (c:=3) rfl).mono ?_
  rintro e w' ⟨v,he,hw⟩
  obtain⟨gl,c,hv,Bk⟩:=XJ (hw.at_ (i:=2) rfl) (by show 0<3;omega)
  subst hv
  exact⟨gl,c,he,Bk 0 _ rfl,Bk 10 _ rfl,hw.O3⟩
 clear hf hm eD uP Bt
 go_wp2_with fail
 refine(qd.out _ ((Below.refl _ _).alloc (Nat.le_refl _) _)).mono ?_
 rintro e w4 ⟨gl,c,rfl,c0,c10,Dp⟩
 have I9:=Lib.hid Dp
 clear Dp qd
 go_wp2
 go_ret
 exact⟨rfl,I9.out⟩
theorem Xp(u0 u1 u2:Nat):(8≤Kg u0∧Kg u0≤67)∧Xq u0 u1 u2≤3000:=by
 have h0:8≤Kg u0∧Kg u0≤67:=by
  unfold Kg;have:=Nat.mod_lt u0 (show 0<60 by omega);omega
 refine⟨h0,?_⟩
 have h1:=Nat.mod_lt u1 (show 0<40 by omega)
 have h2:=Nat.mod_lt u2 (show 0<Kg u0 by omega)
 have h3:u1%40*Kg u0≤39*67:=Nat.mul_le_mul (by omega) h0.2
 unfold Xq;omega
section
variable {X : Cx} {os : List AW} {m i : Nat} {W W' : World} {l : List AB} {v : Value}
theorem Wd.xH(hw:Wd X os m W)(hb:Below W.heap.size W W'){n:Nat}(ho:W'.ownsRow W.heap.size 63 5 v n (AY l))(hn:l.length=n):Wd X (os++[MV X v l]) m W':=by
 subst hn
 have WM:W'.ownsRow X.w0.heap.size 63 5 v l.length (AY l):=Lb ho hw.size
 have h1:=hw.grow.Ju (i:=os.length) (a:=Bi) (a':=MV X v l) (W':=W') (R:=fun _=>False) (RG os) (AL.AJ hb _) (fun k hk=>hk.elim) UI WM (fun k hk=>by
  obtain⟨cs,hr⟩:=UJ (X:=X) (v:=v) (l:=l) WM hk
  refine⟨.inr ?_,hr.lt⟩
  obtain⟨_,⟨h4,_⟩|⟨gl,c,c2,h4,h5,_⟩⟩:=ho
  ·have hk:v.ownBlock=some k:=hk
   rw[h4]at hk;cases hk
  ·have hk:v.ownBlock=some k:=hk
   rw[h4]at hk
   have hk:gl=k:=by injection hk
   omega) rfl rfl (fun _ _=>trivial)
 rw[Ct]at h1
 exact h1
end
theorem ID:∀l:List AB,(AY l).length=l.length*5
 |[]=>rfl
 |t::l=>by
  have:=ID l
  unfold AY at*
  simp[Ai]at*
  omega
theorem Pg{once:Bool}{o:AB}{l:List AB}:(FY once o l).length≤l.length:=by
 obtain⟨s,h1,h2⟩:∃s,Hl o s∧Cl o l s:=⟨Ev o [] l,Mq.1 (LY o l [] (Vy o)),NY o l []⟩
 rw[←S3 h1 h2]
 exact Nat.le_trans (Nv _ _ _) (Nat.le_of_eq h2.len.symm)
theorem Xg{w:World}(once:Bool)(o:AB){A0:Option Addr}{n c0:Nat}{l:List AB}(hl:BD w w.heap.size A0 n l)(hn:n≤1000000):Calls Tryz.prog 34 #[.slice A0 n c0,.agg #[.int .i64 o.a,.int .i64 o.b,.int .i64 o.c,.int .i64 o.d,.int .i64 o.e],.bool once] w fun e w'=>∃v,e=.returned v∧w'.ownsRow w.heap.size 63 5 v (FY once o l).length (AY (FY once o l))∧(∀u∈FY once o l,BX u)∧Below w.heap.size w w':=by
 rcases once with _| _
 ·refine(Xf o hl hn).mono ?_
  rintro e w' ⟨v,m,he,ho,_,hok,hb⟩
  have h1:=ho.1
  rw[ID]at h1
  obtain rfl:(Ev o [] l).length=m:=by omega
  exact⟨v,he,ho,hok,hb⟩
 ·refine(Ua o hl hn).mono ?_
  rintro e w' ⟨v,m,he,ho,_,hok,hb⟩
  have h1:=ho.1
  rw[ID]at h1
  obtain rfl:(Eu o [] l).length=m:=by omega
  exact⟨v,he,ho,hok,hb⟩
theorem oM{W:World}{g:Nat}{T:TypeId}{x0 x1 x2 x3 x4:Value}(h:Row W g T [x0,x1,x2,x3,x4]):W.cell? ⟨g,0,none⟩=some x0∧W.cell? ⟨g,1,none⟩=some x1∧W.cell? ⟨g,2,none⟩=some x2∧W.cell? ⟨g,3,none⟩=some x3∧W.cell? ⟨g,4,none⟩=some x4:=⟨h.cell 0,h.cell 1,h.cell 2,h.cell 3,h.cell 4⟩
theorem VQ{W:World}{g:Nat}{T:TypeId}{x0 x1 x2 x3:Value}(h:Row W g T [x0,x1,x2,x3]):W.cell? ⟨g,0,none⟩=some x0∧W.cell? ⟨g,1,none⟩=some x1∧W.cell? ⟨g,2,none⟩=some x2∧W.cell? ⟨g,3,none⟩=some x3:=⟨h.cell 0,h.cell 1,h.cell 2,h.cell 3⟩
theorem pY(u0 u1 u2 u3 wd:Nat)(b2:u2≤255)(o:AB)(once:Bool){A:Option Addr}{n c:Nat}{l:List AB}(w:World)(hl:BD w w.heap.size A n l)(hm:n≤maxLen):
  Calls Tryz.prog 9 #[.agg #[.int .u8 u0,.int .u8 u1,.int .u8 u2,.int .u8 u3],.int .u8 wd,.slice A n c,.agg #[.int .i64 o.a,.int .i64 o.b,.int .i64 o.c,.int .i64 o.d,.int .i64 o.e],.bool once] w fun e w'=>e=.returned (.bool true)∧Below w.heap.size w w':=by
 obtain⟨⟨B3,EX⟩,YD⟩:=Xp u0 u1 u2
 obtain⟨sz,hsz⟩:∃sz,sz=Kg u0:=⟨_,rfl⟩
 obtain⟨rm,Ip⟩:∃rm,rm=Xq u0 u1 u2:=⟨_,rfl⟩
 obtain⟨r,hr⟩:∃r,r=wd%5:=⟨_,rfl⟩
 obtain⟨k,hk⟩:∃k,k=1+r:=⟨_,rfl⟩
 have GS:r<5:=by rw[hr];exact Nat.mod_lt _ (by omega)
 have t1:Int.tmod (wd:Int) 5=(r:Int):=by rw[hr];rfl
 have m1:(wd:Int)%5=(r:Int):=by rw[hr];rfl
 have s1:(1:Int)+(r:Int)=(k:Int):=by omega
 have k5:0<k∧k≤5:=by omega
 obtain⟨W1,B8,Am,EK,r1,r2⟩:=OU w [.int .u8 u0,.int .u8 u1,.int .u8 u2,.int .u8 u3] [.int .i64 o.a,.int .i64 o.b,.int .i64 o.c,.int .i64 o.d,.int .i64 o.e] 23 26
 have Ef:=Lib.hid B8
 have LG:=Lib.hid Am
 have hwk:=NI u0 u1 u2 u3 b2 W1
 rw[←hsz,←Ip]at hwk
 have Qh:=Lib.hid hwk
 rw[←hsz]at B3 EX
 rw[←Ip]at YD
 have p0:W1.cell? ⟨w.heap.size,0,none⟩=some (.int .u8 u0):=r1.cell 0
 have p1:W1.cell? ⟨w.heap.size,1,none⟩=some (.int .u8 u1):=r1.cell 1
 have p2:W1.cell? ⟨w.heap.size,2,none⟩=some (.int .u8 u2):=r1.cell 2
 have p3:W1.cell? ⟨w.heap.size,3,none⟩=some (.int .u8 u3):=r1.cell 3
 have HO:Hid (∀W,Below W1.heap.size W1 W→W.cell? ⟨w.heap.size+1,0,none⟩=some (.int .i64 o.a)∧W.cell? ⟨w.heap.size+1,1,none⟩=some (.int .i64 o.b)∧W.cell? ⟨w.heap.size+1,2,none⟩=some (.int .i64 o.c)∧W.cell? ⟨w.heap.size+1,3,none⟩=some (.int .i64 o.d)∧W.cell? ⟨w.heap.size+1,4,none⟩=some (.int .i64 o.e)):=fun W hb=>oM (r2.below hb r2.lt)
 have HE:Hid (∀W,Below W1.heap.size W1 W→Below w.heap.size w W):=fun W hb=>Am.trans (hb.mono Am.size)
 have HL:Hid (∀W,Below W1.heap.size W1 W→BD W W.heap.size A n l):=fun W hb=>by
  have h1:=Am.trans (hb.mono Am.size)
  exact(hl.CL h1).mono h1.size
 have wY:Hid (∀G:Nat→Prop,(∀k,G k→W1.heap.size≤k)→0<n→∀b off,A=some ⟨b,off,none⟩→¬G b):=fun G hG h0 b off hA hg=>by
  obtain⟨b',Sk,qM,hlt,_⟩:=hl.2.2 h0
  rw[qM]at hA
  injection hA with hA;injection hA with hA _
  have:=hG b hg
  omega
 have Cg:Hid (l.length=n):=hl.1
 have HAW:Hid (∀W,Calls Tryz.prog 11 #[] W fun e w'=>e=.returned (.bool true)∧Below W.heap.size W w'):=fun W=>Tl W
 clear B8 Am EK r1 r2 hwk hr hk hl hsz Ip
 have hm2:n≤9223372036854775807:=by unfold maxLen at hm;omega
 have HM:=Lib.hid hm
 clear hm
 go_enter Tryz.func9,Tryz.ntmps9
 go_upto_region 1 with(fail)
 rw[←Ef.out]
 clear Ef
 go_wp2_with fail
 refine Qh.out.mono ?_
 rintro e w2 ⟨p,G,rfl,hs,hG,hb⟩
 have HS:=Lib.hid hs
 have HG:=Lib.hid hG
 have Bt:=Lib.hid hb
 clear hs hG hb Qh p0 p1 p2 p3
 go_wp2_with fail
 refine(HAW.out _).mono ?_;rintro e w3 ⟨rfl,hb⟩
 have Rr:=Lib.hid (HS.out.below hb)
 have BM:=Lib.hid (Bt.out.trans (hb.mono Bt.out.size))
 clear hb HS Bt
 by_cases h4:n≤400
 case neg=>
  have g5:decide ((n:Int)>400)=true:=by simp;omega
  go_wp2_with fail
  refine(HAW.out _).mono ?_;rintro e w4 ⟨rfl,hb⟩
  have I9:=Lib.hid (HE.out _ (BM.out.trans (hb.mono BM.out.size)))
  clear hb
  go_wp2
  go_ret
  exact⟨rfl,I9.out⟩
 case pos=>
 have g5:decide ((n:Int)>400)=false:=by simp;omega
 have Yy:=Lib.hid (aH A n c l k w3 (HL.out _ BM.out) k5.2 HM.out)
 by_cases Hw:l.all (Af k)=true
 case neg=>
  have Hw:l.all (Af k)=false:=by simpa using Hw
  rw[Hw]at Yy
  go_wp2_with fail
  refine Yy.out.mono ?_;rintro e w4 ⟨rfl,hb⟩
  have I9:=Lib.hid (BM.out.trans (hb.mono BM.out.size))
  clear hb
  go_wp2_with fail
  refine(HAW.out _).mono ?_;rintro e w5 ⟨rfl,hb⟩
  have BQ:=Lib.hid (HE.out _ (I9.out.trans (hb.mono I9.out.size)))
  clear hb
  go_wp2
  go_ret
  exact⟨rfl,BQ.out⟩
 case pos=>
 rw[Hw]at Yy
 have Tr:Hid (∀u∈l,Af k u=true):=fun u hu=>List.all_eq_true.1 Hw u hu
 clear Hw
 go_wp2_with fail
 refine Yy.out.mono ?_;rintro e w4 ⟨rfl,hb⟩
 have I9:=Lib.hid (BM.out.trans (hb.mono BM.out.size))
 have wX:=Lib.hid (rJ (w0:=W1) (c:=c) (Rr.out.below hb) HG.out I9.out (HL.out _ I9.out) (wY.out G HG.out) k5 (by omega) (by rw[Cg.out];omega) ⟨Nat.le_trans (BL _ _) (by rw[Cg.out];omega),by omega⟩ Tr.out)
 rw[Cg.out]at wX
 clear hb Yy Rr BM
 go_wp2_with fail
 refine wX.out.mono ?_
 rintro e w5 (⟨hlt,rfl,DD⟩|⟨hge,first,nb,rfl,qF,YS,EJ⟩)
 ·have Qj:=Lib.hid (HE.out _ (DD.alloc DD.size (.cells #[.int .i64 0,.int .i64 0,.int .i64 0,.int .i64 0] 39)))
  clear DD wX
  go_wp2
  go_ret
  exact⟨rfl,Qj.out⟩
 ·have HF0:=Lib.hid qF
  clear qF
  have Hu:nb≤400:=by rw[YS.bn];exact Nat.le_trans (BL _ _) (by rw[Cg.out];exact h4)
  obtain⟨w6,ZA⟩:∃w6,w6=w5.alloc (.cells #[.int .i64 first,.int .i64 nb,.int .i64 k,.int .i64 n] 39):=⟨_,rfl⟩
  have P9:Below w5.heap.size w5 w6:=by rw[ZA];exact(Below.refl _ _).alloc (Nat.le_refl _) _
  have Ez:Row w6 w5.heap.size 39 [.int .i64 first,.int .i64 nb,.int .i64 k,.int .i64 n]:=by rw[ZA];exact heap_alloc_new _ _
  have h6:=EJ.new P9 Ez (Nat.le_refl _)
  obtain⟨X,hX⟩:∃X:Cx,X=⟨W1,p,Be 0 4000,rm,sz,((4000:Nat):Int),True,n+1,nb,n+1⟩:=⟨_,rfl⟩
  obtain⟨hh,MJ⟩:∃hh,hh=AH sz k:=⟨_,rfl⟩
  have HX:Hid (X.w0=W1∧X.p=p∧X.S0=Be 0 4000∧X.rm=rm∧X.sz=sz∧X.cm∧X.N=n+1):=by rw[hX];exact⟨rfl,rfl,rfl,rfl,rfl,trivial,rfl⟩
  have HH0:Hid (hh=AH X.sz k∧0<hh):=by
   rw[HX.out.2.2.2.2.1];exact⟨MJ,by rw[MJ];exact YS.hh.1⟩
  rw[←hX,←MJ]at h6
  rw[←MJ]at YS
  have ZJ:Hid (NA first nb k hh l X.sz):=by rw[HX.out.2.2.2.2.1];exact YS
  have H6:Hid (Wd X [Cf first nb k hh l X.sz,AI w5.heap.size 39 [.int .i64 first,.int .i64 nb,.int .i64 k,.int .i64 n]] 0 w6):=by rw[HX.out.2.2.2.2.1];exact h6
  have PU:Hid (∀os m W,Wd X os m W→Below W1.heap.size W1 W):=fun os m W h=>by
   have:=h.O3
   rw[HX.out.1]at this;exact this
  have lO:Hid (∀os m W,Wd X os m W→Calls Tryz.prog 17 #[.pointer (some ⟨p.s,0,none⟩)] W fun e w'=>e=.returned (.int .i64 ((4000-Ac AW.xw os:Nat):Int))∧Wd X os m w'):=fun os m W h=>by
   have:=ZT h
   rw[HX.out.2.1,HX.out.2.2.1,Pq]at this;exact this
  have oZ:Hid (∀os m W,Wd X os m W→Calls Tryz.prog 16 #[.pointer (some ⟨p.w,0,none⟩)] W fun e w'=>e=.returned (.pointer (some ⟨p.s,0,none⟩))∧w'=W):=fun os m W h=>by
   have:=UF h
   rw[HX.out.2.1]at this;exact this
  have On:Hid (∀os m W,Wd X os m W→Calls Tryz.prog 13 #[.pointer (some ⟨p.w,0,none⟩)] W fun e w'=>e=.returned (.pointer (some ⟨p.a,0,none⟩))∧w'=W):=fun os m W h=>by
   have:=LR h
   rw[HX.out.2.1]at this;exact this
  have uN:Hid (∀os m W,Wd X os m W→Calls Tryz.prog 21 #[.pointer (some ⟨p.a,0,none⟩)] W fun e w'=>e=.returned (.int .i64 ((Ac AW.gw os:Nat):Int))∧w'=W):=fun os m W h=>by
   have:=eg h
   rw[HX.out.2.1]at this;exact this
  have dS:Hid (∀os m W,Wd X os m W→Calls Tryz.prog 14 #[.pointer (some ⟨p.a,0,none⟩)] W fun e w'=>e=.returned (.int .i64 (rm:Int))∧w'=W):=fun os m W h=>by
   have:=en h
   rw[HX.out.2.1,HX.out.2.2.2.1]at this;exact this
  have AC7:Hid (∀os m W,Wd X os m W→∃q:Nat,q≤rm∧Calls Tryz.prog 35 #[.pointer (some ⟨p.a,0,none⟩)] W fun e w'=>e=.returned (.int .i64 (q:Int))∧w'=W):=fun os m W h=>by
   have:=eo h
   rw[HX.out.2.1,HX.out.2.2.2.1]at this;exact this
  have HW6:=Lib.hid ZA
  have HP:Hid (X.p=p):=HX.out.2.1
  clear EJ ZA P9 Ez h6 hX MJ YS wX HG wY
  clear I9
  have uS:=Lib.hid (oZ.out _ _ _ H6.out)
  have jH:=Lib.hid (lO.out _ _ _ H6.out)
  have e4:(4000-Ac AW.xw [Cf first nb k hh l X.sz,AI w5.heap.size 39 [.int .i64 first,.int .i64 nb,.int .i64 k,.int .i64 n]]:Nat)=4000-nb:=by
   show 4000-(nb+(0+0))=4000-nb;omega
  rw[e4]at jH
  obtain⟨fr,TQ⟩:∃fr,fr=4000-nb:=⟨_,rfl⟩
  rw[←TQ]at jH
  clear e4
  go_wp2_with fail
  rw[←HW6.out]
  refine uS.out.mono ?_;rintro e w7 ⟨rfl,rfl⟩
  go_wp2_with fail
  refine jH.out.mono ?_;rintro e w8 ⟨rfl,h8⟩
  have H8:=Lib.hid h8
  obtain⟨f0,f1,f2,f3⟩:=VQ (h8.row (i:=1) rfl)
  obtain⟨o0,o1,o2,o3,o4⟩:=HO.out _ (PU.out _ _ _ h8)
  clear h8 uS jH H6 HW6
  have s5:(5:Int)*(sz:Int)=((5*sz:Nat):Int):=by simp
  obtain⟨z5,Tz⟩:∃z5,z5=5*sz:=⟨_,rfl⟩
  rw[←Tz]at s5
  have vW:rm<5*sz→rm<z5∧decide (rm<z5)=true:=fun h=>⟨by omega,by simp;omega⟩
  have vV:¬rm<5*sz→¬rm<z5∧decide (rm<z5)=false:=fun h=>⟨by omega,by simp;omega⟩
  by_cases IV:¬(Fm o∧5*sz≤rm)
  ·obtain⟨ST,TS⟩:∃ST:World→Prop,ST=fun W=>Wd X [Cf first nb k hh l X.sz,AI w5.heap.size 39 [.int .i64 first,.int .i64 nb,.int .i64 k,.int .i64 n]] 0 W:=⟨_,rfl⟩
   have h8:ST w8:=by rw[TS];exact H8.out
   have KB:Hid (∀W W',ST W→Below W.heap.size W W'→ST W'):=fun W W' h hb=>by rw[TS]at h⊢;exact Wd.below h hb
   have KO:Hid (∀W,ST W→W.cell? ⟨w.heap.size+1,0,none⟩=some (.int .i64 o.a)∧W.cell? ⟨w.heap.size+1,1,none⟩=some (.int .i64 o.b)∧W.cell? ⟨w.heap.size+1,2,none⟩=some (.int .i64 o.c)∧W.cell? ⟨w.heap.size+1,3,none⟩=some (.int .i64 o.d)∧W.cell? ⟨w.heap.size+1,4,none⟩=some (.int .i64 o.e)):=fun W h=>by rw[TS]at h;exact HO.out _ (PU.out _ _ _ h)
   have KE:Hid (∀W,ST W→Below w.heap.size w W):=fun W h=>by rw[TS]at h;exact HE.out _ (PU.out _ _ _ h)
   have xA:Hid (∀W,ST W→Calls Tryz.prog 16 #[.pointer (some ⟨p.w,0,none⟩)] W fun e w'=>e=.returned (.pointer (some ⟨p.s,0,none⟩))∧ST w'):=fun W h=>by
    have h':=h
    rw[TS]at h'
    exact(oZ.out _ _ _ h').mono fun e w' ⟨he,hw⟩=>⟨he,by rw[hw];exact h⟩
   have vS:Hid (∀W,ST W→Calls Tryz.prog 13 #[.pointer (some ⟨p.w,0,none⟩)] W fun e w'=>e=.returned (.pointer (some ⟨p.a,0,none⟩))∧ST w'):=fun W h=>by
    have h':=h
    rw[TS]at h'
    exact(On.out _ _ _ h').mono fun e w' ⟨he,hw⟩=>⟨he,by rw[hw];exact h⟩
   have wz:Hid (∀W,ST W→Calls Tryz.prog 21 #[.pointer (some ⟨p.a,0,none⟩)] W fun e w'=>e=.returned (.int .i64 0)∧ST w'):=fun W h=>by
    have h':=h
    rw[TS]at h'
    exact(uN.out _ _ _ h').mono fun e w' ⟨he,hw⟩=>⟨he,by rw[hw];exact h⟩
   have CRM:Hid (∀W,ST W→Calls Tryz.prog 14 #[.pointer (some ⟨p.a,0,none⟩)] W fun e w'=>e=.returned (.int .i64 (rm:Int))∧ST w'):=fun W h=>by
    have h':=h
    rw[TS]at h'
    exact(dS.out _ _ _ h').mono fun e w' ⟨he,hw⟩=>⟨he,by rw[hw];exact h⟩
   have xC:Hid (∀W,ST W→Calls Tryz.prog 17 #[.pointer (some ⟨p.s,0,none⟩)] W fun e w'=>e=.returned (.int .i64 (fr:Int))∧ST w'):=fun W h=>by
    rw[TS]at h⊢
    have:=lO.out _ _ _ h
    rw[show (4000-Ac AW.xw [Cf first nb k hh l X.sz,AI w5.heap.size 39 [.int .i64 first,.int .i64 nb,.int .i64 k,.int .i64 n]]:Nat)=fr by rw[TQ];show 4000-(nb+(0+0))=4000-nb;omega]at this
    exact this
   have qt:Hid (∀W,ST W→Calls Tryz.prog 33 #[.agg #[.int .i64 o.a,.int .i64 o.b,.int .i64 o.c,.int .i64 o.d,.int .i64 o.e]] W fun e w'=>e=.returned (.bool (decide (Fm o)))∧ST w'):=fun W h=>
    (Ih o W).mono fun e w' ⟨he,hb⟩=>⟨he,KB.out _ _ h hb⟩
   have xB:Hid (∀W,ST W→Calls Tryz.prog 20 #[.pointer (some ⟨p.w,0,none⟩),.agg #[.int .i64 first,.int .i64 nb,.int .i64 k,.int .i64 n],.agg #[.int .i64 o.a,.int .i64 o.b,.int .i64 o.c,.int .i64 o.d,.int .i64 o.e],.bool once] W fun e w'=>
     e=.returned (.tuple #[.agg #[.int .i64 0,.int .i64 0,.int .i64 0,.int .i64 0],.int .i64 (if Fm o then 7 else 1)])∧ST w'):=fun W h=>by
    by_cases LI:Fm o
    ·rw[if_pos LI]
     have h':=h
     rw[TS]at h'
     have hno:X.rm-Ac AW.gw [Cf first nb k hh l X.sz,AI w5.heap.size 39 [.int .i64 first,.int .i64 nb,.int .i64 k,.int .i64 n]]<5*X.sz:=by
      rw[HX.out.2.2.2.1,HX.out.2.2.2.2.1];show rm-0<5*sz
      have:¬5*sz≤rm:=fun h=>IV ⟨LI,h⟩
      omega
     have:=Qm (first:=first) (nb:=nb) (hh:=hh) (once:=once) h' LI HH0.out.1 HH0.out.2 (by rw[ZJ.out.bn,Cg.out]) (count:=n) (by omega) hno
     rw[HP.out]at this
     exact this.mono fun e w' ⟨he,hb⟩=>⟨he,KB.out _ _ h hb⟩
    ·rw[if_neg LI]
     have:=SA (X:=X) (W:=W) (first:=first) (nb:=nb) (k:=k) (count:=n) (once:=once) LI
     rw[HP.out]at this
     exact this.mono fun e w' ⟨he,hb⟩=>⟨he,KB.out _ _ h hb⟩
   clear TS H8 TQ
   by_cases LI:Fm o
   ·rw[decide_eq_true LI]at qt
    rw[if_pos LI]at xB
    have hlt:rm<5*sz:=by
     have:¬5*sz≤rm:=fun h=>IV ⟨LI,h⟩
     omega
    obtain⟨s5t,s5u⟩:=vW hlt
    clear IV LI hlt vW vV Tz
    go_wp2_with fail
    refine(xB.out _ h8).mono ?_;rintro e w9 ⟨rfl,h9⟩
    clear f0 f1 f2 f3 o0 o1 o2 o3 o4
    have FJ:=KB.out _ (w9.alloc (.cells #[.int .i64 0,.int .i64 0,.int .i64 0,.int .i64 0] 39)) h9 ((Below.refl _ _).alloc (Nat.le_refl _) _)
    obtain⟨o0,o1,o2,o3,o4⟩:=KO.out _ FJ
    have HC:=Lib.hid (qt.out _ FJ)
    go_wp2_with fail
    refine HC.out.mono ?_;rintro e xF ⟨rfl,LJ⟩
    clear o0 o1 o2 o3 o4 HC
    go_wp2_with fail
    refine(vS.out _ LJ).mono ?_;rintro e Bs ⟨rfl,Eo⟩
    go_wp2_with fail
    refine(CRM.out _ Eo).mono ?_;rintro e Vs ⟨rfl,J0⟩
    obtain⟨o0,o1,o2,o3,o4⟩:=KO.out _ J0
    go_wp2_with fail
    refine(qt.out _ J0).mono ?_;rintro e xE ⟨rfl,Jb⟩
    clear o0 o1 o2 o3 o4 Eo J0
    go_wp2_with fail
    refine(xA.out _ Jb).mono ?_;rintro e w20 ⟨rfl,oA⟩
    go_wp2_with fail
    refine(xC.out _ oA).mono ?_;rintro e w21 ⟨rfl,n9⟩
    go_wp2_with fail
    refine(vS.out _ n9).mono ?_;rintro e w22 ⟨rfl,ke⟩
    go_wp2_with fail
    refine(wz.out _ ke).mono ?_;rintro e w23 ⟨rfl,tU⟩
    have pP:=Lib.hid (KE.out _ tU)
    clear h8 h9 FJ LJ oA n9 ke tU
    go_wp2
    go_ret
    exact⟨rfl,pP.out⟩
   ·rw[decide_eq_false LI]at qt
    rw[if_neg LI]at xB
    clear IV LI vW vV Tz
    go_wp2_with fail
    refine(xB.out _ h8).mono ?_;rintro e w9 ⟨rfl,h9⟩
    clear f0 f1 f2 f3 o0 o1 o2 o3 o4
    have FJ:=KB.out _ (w9.alloc (.cells #[.int .i64 0,.int .i64 0,.int .i64 0,.int .i64 0] 39)) h9 ((Below.refl _ _).alloc (Nat.le_refl _) _)
    obtain⟨o0,o1,o2,o3,o4⟩:=KO.out _ FJ
    have HC:=Lib.hid (qt.out _ FJ)
    go_wp2_with fail
    refine HC.out.mono ?_;rintro e xF ⟨rfl,LJ⟩
    clear o0 o1 o2 o3 o4 HC
    obtain⟨o0,o1,o2,o3,o4⟩:=KO.out _ LJ
    go_wp2_with fail
    refine(qt.out _ LJ).mono ?_;rintro e xE ⟨rfl,Jb⟩
    clear o0 o1 o2 o3 o4
    go_wp2_with fail
    refine(xA.out _ Jb).mono ?_;rintro e w20 ⟨rfl,oA⟩
    go_wp2_with fail
    refine(xC.out _ oA).mono ?_;rintro e w21 ⟨rfl,n9⟩
    go_wp2_with fail
    refine(vS.out _ n9).mono ?_;rintro e w22 ⟨rfl,ke⟩
    go_wp2_with fail
    refine(wz.out _ ke).mono ?_;rintro e w23 ⟨rfl,tU⟩
    have pP:=Lib.hid (KE.out _ tU)
    clear h8 h9 FJ LJ oA n9 ke tU
    go_wp2
    go_ret
    exact⟨rfl,pP.out⟩
  ·obtain⟨LI,WJ⟩:=Classical.not_not.1 IV
   obtain⟨s5t,s5u⟩:=vV (by omega)
   have HSO:Hid (Calls Tryz.prog 20 #[.pointer (some ⟨p.w,0,none⟩),.agg #[.int .i64 first,.int .i64 nb,.int .i64 k,.int .i64 n],.agg #[.int .i64 o.a,.int .i64 o.b,.int .i64 o.c,.int .i64 o.d,.int .i64 o.e],.bool once] w8 (dH X [Cf first nb k hh l X.sz,AI w5.heap.size 39 [.int .i64 first,.int .i64 nb,.int .i64 k,.int .i64 n]] 0 0 nb k hh l o once)):=by
    have:=Vz (once:=once) (o:=o) H8.out (i:=0) rfl ZJ.out Cg.out LI (by rw[HX.out.2.2.2.1,HX.out.2.2.2.2.1];show 5*sz≤rm-0;omega) (by rw[HX.out.2.2.2.1];omega) (by omega) (by rw[HX.out.2.2.2.2.2.2];omega) HX.out.2.2.2.2.2.1 ⟨nb,SV HX.out.2.2.1 HF0.out (by omega) (fun q hq=>by simp at hq;subst hq;exact⟨rfl,rfl⟩)⟩
    rw[HP.out]at this;exact this
   have Eg:Hid (∀W,Calls Tryz.prog 33 #[.agg #[.int .i64 o.a,.int .i64 o.b,.int .i64 o.c,.int .i64 o.d,.int .i64 o.e]] W fun e w'=>e=.returned (.bool true)∧Below W.heap.size W w'):=fun W=>by
    have:=Ih o W
    rw[decide_eq_true LI]at this;exact this
   clear IV vW vV Tz LI H8 TQ
   have HRR:=Lib.hid WJ
   clear WJ
   go_wp2_with fail
   refine HSO.out.mono ?_
   rintro e w9 ⟨F,N,C,m',j,rfl,hC,zC,hj,hmm,pn⟩
   have pn:Wd X [Bi,AI w5.heap.size 39 [.int .i64 first,.int .i64 nb,.int .i64 k,.int .i64 n],Cf F N k hh (FY once o l) X.sz] m' w9:=pn
   have hNN:N≤400:=by
    have h1:=BL hh (FY once o l).length
    have h2:=Pg (once:=once) (o:=o) (l:=l)
    have h3:=zC.bn
    have h4:=Cg.out
    omega
   have yj:=Pn hj (by omega)
   have TN:m'≤10000:=by
    have:2*nb*(1+j)≤800*11:=Nat.mul_le_mul (by omega) (by omega)
    omega
   obtain⟨DS,ax⟩:∃DS,DS=w9.alloc (.cells #[.int .i64 F,.int .i64 N,.int .i64 k,.int .i64 C] 39):=⟨_,rfl⟩
   have tE:Below w9.heap.size w9 DS:=by rw[ax];exact(Below.refl _ _).alloc (Nat.le_refl _) _
   have YI:Row DS w9.heap.size 39 [.int .i64 F,.int .i64 N,.int .i64 k,.int .i64 C]:=by rw[ax];exact heap_alloc_new _ _
   have FJ:Wd X [Bi,AI w5.heap.size 39 [.int .i64 first,.int .i64 nb,.int .i64 k,.int .i64 n],Cf F N k hh (FY once o l) X.sz,AI w9.heap.size 39 [.int .i64 F,.int .i64 N,.int .i64 k,.int .i64 C]] m' DS:=pn.new tE YI (Nat.le_refl _)
   clear o0 o1 o2 o3 o4 f0 f1 f2 f3
   obtain⟨o0,o1,o2,o3,o4⟩:=HO.out _ (PU.out _ _ _ FJ)
   have wv:=Lib.hid FJ
   rw[ax]at o0 o1 o2 o3 o4
   have uM:=Lib.hid ax
   have HC:=Lib.hid hC
   have HFG:=Lib.hid zC
   clear pn ax tE YI FJ hC zC hj hmm yj HSO
   go_wp2_with fail
   rw[←uM.out]
   refine(Eg.out _).mono ?_;rintro e xF ⟨rfl,hb⟩
   have Ql:=Lib.hid (wv.out.below hb)
   clear hb wv uM o0 o1 o2 o3 o4
   have jU:=Lib.hid (On.out _ _ _ Ql.out)
   have Tv:=Lib.hid (dS.out _ _ _ Ql.out)
   obtain⟨o0,o1,o2,o3,o4⟩:=HO.out _ (PU.out _ _ _ Ql.out)
   have T7:=Lib.hid (Xg once o (c0:=c) (HL.out _ (PU.out _ _ _ Ql.out)) (by omega))
   go_wp2_with fail
   refine jU.out.mono ?_;rintro e Bs ⟨rfl,rfl⟩
   go_wp2_with fail
   refine Tv.out.mono ?_;rintro e Vs ⟨rfl,rfl⟩
   go_wp2_with fail
   refine T7.out.mono ?_
   rintro e xE ⟨v1,rfl,Ap,hok,hb⟩
   have Jb:=Ql.out.xH hb Ap rfl
   have Jb:Wd X [Bi,AI w5.heap.size 39 [.int .i64 first,.int .i64 nb,.int .i64 k,.int .i64 n],Cf F N k hh (FY once o l) X.sz,AI w9.heap.size 39 [.int .i64 F,.int .i64 N,.int .i64 k,.int .i64 C],MV X v1 (FY once o l)] m' xE:=Jb
   obtain⟨f0,f1,f2,f3⟩:=VQ (Jb.row (i:=3) rfl)
   have qd:=Lib.hid (Vp Jb (i:=2) rfl HFG.out HX.out.2.2.2.2.2.1 (by rw[HX.out.2.2.2.1,HX.out.2.2.2.2.1];show sz≤rm-0;omega) (by rw[HX.out.2.2.2.2.2.2];omega) HC.out)
   rw[HP.out]at qd
   have DY:=Lib.hid hok
   clear o0 o1 o2 o3 o4 Ap hok hb Jb T7 jU Tv Ql
   go_wp2_with fail
   refine qd.out.mono ?_
   rintro e pW ⟨v2,rfl,IW⟩
   have IW:Wd X [Bi,AI w5.heap.size 39 [.int .i64 first,.int .i64 nb,.int .i64 k,.int .i64 n],Cf F N k hh (FY once o l) X.sz,AI w9.heap.size 39 [.int .i64 F,.int .i64 N,.int .i64 k,.int .i64 C],MV X v1 (FY once o l),MV X v2 (FY once o l)] (m'+N) pW:=IW
   obtain⟨A1,c1,rfl,_,zE⟩:=IW.Vu (i:=4) rfl DY.out
   obtain⟨A2,c2,rfl,_,zD⟩:=IW.Vu (i:=5) rfl DY.out
   rw[HC.out]at IW⊢
   have H15:=Lib.hid IW
   obtain⟨q,hq,sK⟩:∃q:Nat,q≤rm∧∀W,Below pW.heap.size pW W→Calls Tryz.prog 35 #[.pointer (some ⟨p.a,0,none⟩)] W fun e w'=>e=.returned (.int .i64 (q:Int))∧w'=W:=by
    obtain⟨G',D',A',S',hw⟩:=IW
    refine⟨A'.CF,by rw[←HX.out.2.2.2.1,←hw.room];exact hw.sys.sound.CF.2,fun W hb=>?_⟩
    have:=(hw.below hb).sys.Sg
    rw[HP.out]at this;exact this
   obtain⟨ST,TS⟩:∃ST:World→Prop,ST=fun W=>Below pW.heap.size pW W:=⟨_,rfl⟩
   have hd:ST pW.drew:=by rw[TS];exact AG (Below.refl _ _)
   have KN:Hid (∀W W',ST W→Below W.heap.size W W'→ST W'):=fun W W' h hb=>by rw[TS]at h⊢;exact h.trans (hb.mono h.size)
   have KW:Hid (∀W,ST W→Wd X [Bi,AI w5.heap.size 39 [.int .i64 first,.int .i64 nb,.int .i64 k,.int .i64 n],Cf F N k hh (FY once o l) X.sz,AI w9.heap.size 39 [.int .i64 F,.int .i64 N,.int .i64 k,.int .i64 C],MV X (.slice A1 C c1) (FY once o l),MV X (.slice A2 C c2) (FY once o l)] (m'+N) W):=fun W h=>by rw[TS]at h;exact H15.out.below h
   have K0:Hid (∀W,ST W→W.cell? ⟨w9.heap.size,0,none⟩=some (.int .i64 F)∧W.cell? ⟨w9.heap.size,1,none⟩=some (.int .i64 N)∧W.cell? ⟨w9.heap.size,2,none⟩=some (.int .i64 k)∧W.cell? ⟨w9.heap.size,3,none⟩=some (.int .i64 C)):=fun W h=>VQ ((KW.out W h).row (i:=3) rfl)
   have KE:Hid (∀W,ST W→Below w.heap.size w W):=fun W h=>HE.out _ (PU.out _ _ _ (KW.out W h))
   have xA:Hid (∀W,ST W→Calls Tryz.prog 16 #[.pointer (some ⟨p.w,0,none⟩)] W fun e w'=>e=.returned (.pointer (some ⟨p.s,0,none⟩))∧ST w'):=fun W h=>(oZ.out _ _ _ (KW.out W h)).mono fun e w' ⟨he,hw⟩=>⟨he,by rw[hw];exact h⟩
   have vS:Hid (∀W,ST W→Calls Tryz.prog 13 #[.pointer (some ⟨p.w,0,none⟩)] W fun e w'=>e=.returned (.pointer (some ⟨p.a,0,none⟩))∧ST w'):=fun W h=>(On.out _ _ _ (KW.out W h)).mono fun e w' ⟨he,hw⟩=>⟨he,by rw[hw];exact h⟩
   have wz:Hid (∀W,ST W→Calls Tryz.prog 21 #[.pointer (some ⟨p.a,0,none⟩)] W fun e w'=>e=.returned (.int .i64 0)∧ST w'):=fun W h=>(uN.out _ _ _ (KW.out W h)).mono fun e w' ⟨he,hw⟩=>⟨he,by rw[hw];exact h⟩
   have CRM:Hid (∀W,ST W→Calls Tryz.prog 14 #[.pointer (some ⟨p.a,0,none⟩)] W fun e w'=>e=.returned (.int .i64 (rm:Int))∧ST w'):=fun W h=>(dS.out _ _ _ (KW.out W h)).mono fun e w' ⟨he,hw⟩=>⟨he,by rw[hw];exact h⟩
   have CPK:Hid (∀W,ST W→Calls Tryz.prog 35 #[.pointer (some ⟨p.a,0,none⟩)] W fun e w'=>e=.returned (.int .i64 (q:Int))∧ST w'):=fun W h=>by
    have h':=h
    rw[TS]at h'
    exact(sK W h').mono fun e w' ⟨he,hw⟩=>⟨he,by rw[hw];exact h⟩
   obtain⟨rs,eG⟩:∃rs,rs=4000-N:=⟨_,rfl⟩
   have xC:Hid (∀W,ST W→Calls Tryz.prog 17 #[.pointer (some ⟨p.s,0,none⟩)] W fun e w'=>e=.returned (.int .i64 (rs:Int))∧ST w'):=fun W h=>by
    obtain⟨G',D',A',S',hw⟩:=KW.out W h
    obtain⟨Gs,hsp,_⟩:=hw.sys.pX
    have JN:=hw.sum
    rw[HX.out.2.2.1,Pq]at JN
    have e4:Az S'.fr=rs:=by
     have:Az S'.fr+(0+(0+(N+(0+(0+(0+0))))))=4000:=JN
     omega
    have:=TY X.p.s S' Gs W hsp
    rw[HP.out]at this
    exact this.mono fun e w' ⟨he,hb⟩=>⟨by rw[he];show Ending.returned (.int .i64 ((Az S'.fr:Nat):Int))= _;rw[e4],KN.out _ _ h hb⟩
   have CSA:Hid (∀W,ST W→Calls Tryz.prog 24 #[.slice A2 C c2,.slice A1 C c1] W fun e w'=>e=.returned (.bool true)∧ST w'):=fun W h=>by
    obtain⟨A3,c3,e3,Cn,_⟩:=(KW.out W h).Vu (i:=4) rfl DY.out
    obtain⟨A4,c4,e4,FH,_⟩:=(KW.out W h).Vu (i:=5) rfl DY.out
    rw[HC.out]at e3 e4 Cn FH
    injection e3 with e3 _ _
    injection e4 with e4 _ _
    subst e3;subst e4
    have hCm:C≤maxLen:=by
     have h2:=Pg (once:=once) (o:=o) (l:=l)
     have h3:=HC.out
     have h5:=Cg.out
     have h6:=HM.out
     omega
    refine(Xh A2 A1 C C c2 c1 (FY once o l) (FY once o l) W FH Cn hCm hCm).mono ?_
    rintro e w' ⟨he,q',rfl⟩
    exact⟨by rw[he,decide_eq_true rfl],KN.out _ _ h (AF (Below.refl _ _) q')⟩
   have q1:decide (q≤rm)=true:=by simp;exact hq
   have q2:decide ((q:Int)≤(rm:Int))=true:=by simp;exact hq
   have Li:(4000:Int)-(N:Int)=(rs:Int):=by omega
   have hrb:rs≤5000:=by omega
   have Io:IntKind.i64.wrap (rs:Int)=(rs:Int):=IntWalk.i64_in _ (by clear Li;omega)
   clear TS IW sK eG f0 f1 f2 f3 qd zE zD
   go_wp2
   go_region_held3 (fun W=>W.cell? ⟨w9.heap.size,0,none⟩=some (.int .i64 F)∧W.cell? ⟨w9.heap.size,1,none⟩=some (.int .i64 N)∧W.cell? ⟨w9.heap.size,2,none⟩=some (.int .i64 k)∧W.cell? ⟨w9.heap.size,3,none⟩=some (.int .i64 C)) (first|with_reducible exact K0.out _ (by assumption))
    (first
     |(go_at_call 24;first|((with_reducible refine(CSA.out _ (by assumption)).mono ?_);rintro e w16 ⟨rfl,wK⟩))
     |(go_at_call 13;first|((with_reducible refine(vS.out _ (by assumption)).mono ?_);rintro e w17 ⟨rfl,h17⟩))
     |(go_at_call 21;first|((with_reducible refine(wz.out _ (by assumption)).mono ?_);rintro e w18 ⟨rfl,h18⟩))
     |(go_at_call 35;first|((with_reducible refine(CPK.out _ (by assumption)).mono ?_);rintro e w19 ⟨rfl,h19⟩))
     |(go_at_call 14;first|((with_reducible refine(CRM.out _ (by assumption)).mono ?_);rintro e w20 ⟨rfl,oA⟩))
     |(go_at_call 16;first|((with_reducible refine(xA.out _ (by assumption)).mono ?_);rintro e w21 ⟨rfl,n9⟩))
     |(go_at_call 17;first|((with_reducible refine(xC.out _ (by assumption)).mono ?_);rintro e w22 ⟨rfl,ke⟩)))
   have HEE:=Lib.hid (KE.out _ ke)
   clear hd wK h17 h18 h19 oA n9 ke
   go_wp2
   go_ret
   exact⟨rfl,HEE.out⟩
end Go.Proofs.YteldegofbbfaeaaGreat
