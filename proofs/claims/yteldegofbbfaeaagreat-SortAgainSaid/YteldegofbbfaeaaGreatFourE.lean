/- What the laws stand on. -/
import Derived.Test.YteldegofbbfaeaaGreatFourD
namespace Go.Proofs.YteldegofbbfaeaaGreat
set_option linter.unusedVariables false
set_option maxRecDepth 100000
set_option maxHeartbeats 8000000
open Go.ChangeShapes Go.WideShapes Go.ChangeAt Go.RowKit
open Go.Joins Go.Deep
open Go.ChangeShapes Go.WideShapes Go.ChangeAt Go.RowKit Go.Maps
open Go.ChangeMaps (setBlock heap_setBlock_same heap_setBlock_other)
theorem Ae{a b:List AU}{i:Nat}{v:AU}(h:a[i]?=some v):(a++b)[i]?=some v:=by rw[List.getElem?_append_left (IT h)];exact h
theorem Dp{a b:List AU}{i:Nat}{u v:AU}(h:a[i]?=some u):(a++b).set i v=a.set i v++b:=List.set_append_left _ _ (IT h)
theorem AL(a b:List AU)(j:Nat):(a++b)[a.length+j]?=b[j]?:=by rw[List.getElem?_append_right (by omega),Nat.add_sub_cancel_left]
theorem Wd.forget{X:Cx}{a b:List AU}{m:Nat}{W:World}(h:Wd X (a++b) m W)(hb:GP b):Wd X a m W:=by
 have h1:Wd X (a++b++[]) m W:=by rw[List.append_nil];exact h
 have h2:=h1.fh b hb
 rwa [List.append_nil]at h2
theorem DL(g:Nat)(t:TypeId)(cs:List Value):(AI g t cs).gr=none∧(AI g t cs).ex.2=0:=⟨rfl,rfl⟩
theorem AM{a:AU}{l:List AU}(ha:a.gr=none∧a.ex.2=0)(hl:GP l):GP (a::l):=fun q hq=>(List.mem_cons.1 hq).elim (fun e=>by rw[e];exact ha) (hl q)
theorem BQ:GP []:=fun q hq=>by cases hq
section
variable {X : Cx} {os : List AU} {m iz ig ip : Nat} {W W' : World} {sx k b g M p0 x0 : Nat} {o t nx : AB} {lv : Value} {hp : List (Nat × Nat)} {cur l : List AB} {rt : Rt}
theorem Oe{W:World}{b:Nat}{u t:AB}(hr:Row W b 63 (An u)):Row (((((W.setCell ⟨b,0,none⟩ (.int .i64 t.a)).setCell ⟨b,1,none⟩ (.int .i64 t.b)).setCell ⟨b,2,none⟩ (.int .i64 t.c)).setCell ⟨b,3,none⟩ (.int .i64 t.d)).setCell ⟨b,4,none⟩ (.int .i64 t.e)) b 63 (An t)∧
  AK (fun k=>k=b) W (((((W.setCell ⟨b,0,none⟩ (.int .i64 t.a)).setCell ⟨b,1,none⟩ (.int .i64 t.b)).setCell ⟨b,2,none⟩ (.int .i64 t.c)).setCell ⟨b,3,none⟩ (.int .i64 t.d)).setCell ⟨b,4,none⟩ (.int .i64 t.e)):=by
 refine⟨((((hr.set 0 _).set 1 _).set 2 _).set 3 _).set 4 _,?_⟩
 exact((((((AK.refl (fun k=>k=b) W).set (p:=⟨b,0,none⟩) (.inl rfl) _).set (p:=⟨b,1,none⟩) (.inl rfl) _).set (p:=⟨b,2,none⟩) (.inl rfl) _).set (p:=⟨b,3,none⟩) (.inl rfl) _).set (p:=⟨b,4,none⟩) (.inl rfl) _)
theorem Iu{z:List AU}{W w':World}{s0:Nat}{u t:AB}(h:Wd X (os++AI s0 63 (An u)::z) m W)(hz:GP z)(hw:w'=(((((W.setCell ⟨s0,0,none⟩ (.int .i64 t.a)).setCell ⟨s0,1,none⟩ (.int .i64 t.b)).setCell ⟨s0,2,none⟩ (.int .i64 t.c)).setCell ⟨s0,3,none⟩ (.int .i64 t.d)).setCell ⟨s0,4,none⟩ (.int .i64 t.e))):
  (w'.cell? ⟨s0,0,none⟩=some (.int .i64 t.a)∧w'.cell? ⟨s0,1,none⟩=some (.int .i64 t.b)∧w'.cell? ⟨s0,2,none⟩=some (.int .i64 t.c)∧w'.cell? ⟨s0,3,none⟩=some (.int .i64 t.d)∧w'.cell? ⟨s0,4,none⟩=some (.int .i64 t.e))∧Hid (Wd X os m w'):=by
 subst hw
 have h1:Wd X ((os++[AI s0 63 (An u)])++z) m W:=by rw[List.append_assoc];exact h
 have h2:=h1.forget hz
 have Bp:(os++[AI s0 63 (An u)])[os.length]?=some (AI s0 63 (An u)):=by rw[List.getElem?_append_right (Nat.le_refl _),Nat.sub_self];rfl
 obtain⟨h3,h4⟩:=Oe (t:=t) (h2.row Bp)
 have h5:=h2.Jz Bp (by decide) h4 h3
 rw[DI]at h5
 exact⟨⟨h3.cell 0,h3.cell 1,h3.cell 2,h3.cell 3,h3.cell 4⟩,h5.forget (AM (DL _ _ _) BQ)⟩
theorem TX(h:Wd X os m W)(hs:os[iz]?=some (JA X sx k g M o lv [])):Calls Tryz.prog 165 #[.pointer (some ⟨sx,0,none⟩)] W fun e w'=>e=.returned (.tuple #[I2 AD,.bool false,.int .i64 0])∧Wd X os m w':=by
 obtain⟨W1,B2⟩:∃W1,W1=W.alloc (.cells #[.int .i64 0,.int .i64 0,.int .i64 0,.int .i64 0,.int .i64 0] 63):=⟨_,rfl⟩
 have Aj:Below W.heap.size W W1:=by rw[B2];exact(Below.refl _ _).alloc (Nat.le_refl _) _
 have BS:Row W1 W.heap.size 63 [.int .i64 0,.int .i64 0,.int .i64 0,.int .i64 0,.int .i64 0]:=by rw[B2];exact heap_alloc_new _ _
 have h1:Hid (Wd X (os++[AI W.heap.size 63 (An AD)]) m W1):=h.new Aj (g:=W.heap.size) (t:=63) (cs:=An AD) BS (Nat.le_refl _)
 obtain⟨A,c,rfl⟩:=Iv (h.at_ hs).2
 have HL:Hid (Calls Tryz.prog 130 #[.pointer (some ⟨sx,0,none⟩)] W1 fun e w'=>e=.returned (.int .i64 0)∧w'=W1):=J3 (h1.out.at_ (Ae hs)).1
 have ER:=Lib.hid B2
 have c0:W1.cell? ⟨W.heap.size,0,none⟩=some (.int .i64 0):=BS.cell 0
 have c1:W1.cell? ⟨W.heap.size,1,none⟩=some (.int .i64 0):=BS.cell 1
 have c2:W1.cell? ⟨W.heap.size,2,none⟩=some (.int .i64 0):=BS.cell 2
 have c3:W1.cell? ⟨W.heap.size,3,none⟩=some (.int .i64 0):=BS.cell 3
 have c4:W1.cell? ⟨W.heap.size,4,none⟩=some (.int .i64 0):=BS.cell 4
 have d0:W1.frozen? ⟨W.heap.size,0,none⟩=false:=BS.free 0
 have d1:W1.frozen? ⟨W.heap.size,1,none⟩=false:=BS.free 1
 have d2:W1.frozen? ⟨W.heap.size,2,none⟩=false:=BS.free 2
 have d3:W1.frozen? ⟨W.heap.size,3,none⟩=false:=BS.free 3
 have d4:W1.frozen? ⟨W.heap.size,4,none⟩=false:=BS.free 4
 generalize YD:W.heap.size=s0 at*
 clear h hs Aj B2 BS
 go_enter Tryz.func165,Tryz.ntmps165
 go_upto_region 1 with(fail)
 rw[←ER.out]
 clear ER
 go_wp2_with fail
 refine HL.out.mono ?_
 rintro e w2 ⟨rfl,rfl⟩
 clear HL YD
 go_wp2
 have h9:=Iu (t:=⟨0,0,0,0,0⟩) h1.out BQ rfl
 dsimp only at h9
 generalize(((((w2.setCell ⟨s0,0,none⟩ (.int .i64 0)).setCell ⟨s0,1,none⟩ (.int .i64 0)).setCell ⟨s0,2,none⟩ (.int .i64 0)).setCell ⟨s0,3,none⟩ (.int .i64 0)).setCell ⟨s0,4,none⟩ (.int .i64 0))=w9 at*
 obtain⟨⟨q0,q1,q2,q3,q4⟩,H9⟩:=h9
 exact bodyPost_ret (v:=.tuple #[.agg #[.int .i64 0,.int .i64 0,.int .i64 0,.int .i64 0,.int .i64 0],.bool false,.int .i64 0]) (by simp[results,Tryz.results165,go_sem,q0,q1,q2,q3,q4]) rfl ⟨rfl,H9.out⟩
theorem Rl{hp:List (Nat×Nat)}(oM:(hp.map (·.1)).Nodup){i j:Nat}(hi:i<hp.length)(hj:j<hp.length)(Fa:i≠j):(hp.getD i (0,0)).1≠(hp.getD j (0,0)).1:=fun e=>by
 have e1:∀{i:Nat} (h:i<hp.length),(hp.getD i (0,0)).1=(hp.map (·.1))[i]'(by rw[List.length_map];exact h):=fun {i} h=>by
  rw[List.getElem_map,List.getD_eq_getElem?_getD,List.getElem?_eq_getElem h];rfl
 rw[e1 hi,e1 hj]at e
 have hpw:=List.pairwise_iff_getElem.1 oM
 rcases Nat.lt_or_gt_of_ne Fa with h|h
 ·exact hpw i j _ _ h e
 ·exact hpw j i _ _ h e.symm
theorem XO(oM:(hp.map (·.1)).Nodup)(hne:0<hp.length)(h0:hp.getD 0 (0,0)=(p0,x0))(fB:p0≤cur.length)(hh:Hp (Lt o fun p=>cur.getD p AD) (fun i=>hp.getD i (0,0)) hp.length):Xo (Lt o fun p=>(DR cur p0 nx).getD p AD) (fun i=>hp.getD i (0,0)) hp.length 0:=by
 refine Hp.jG fun j NK hj qc=>?_
 have h1:=hh j NK hj
 have h2:=IQ NK
 have h3:=Rl oM hj hne (by omega)
 have h4:=Rl oM (show par j<hp.length by omega) hne qc
 rw[h0]at h3 h4
 unfold Lt at h1⊢
 simp only[J7 fB]
 rw[if_neg h3,if_neg h4]
 exact h1
theorem Y1(a:Nat×Nat)(w:World):Sem.run Tryz.prog (Instr.field 202 (.agg #[.int .i64 (a.1:Nat),.pointer (some ⟨a.2,0,none⟩)]) 1) w=.ok (.pointer (some ⟨a.2,0,none⟩)) w:=by kernel_rfl
theorem WR(h:Wd X os m W)(hg:os[ig]?=some (CN b g M k cur))(hs:os[iz]?=some (JA X sx k g M o lv hp))(hr:os[ip]?=some (DQ X.p x0 rt X.sz l))(hd:ig≠iz∧ip≠ig∧ip≠iz)
    (hne:0<hp.length∧hp.length≤100000) (h0:hp.getD 0 (0,0)=(p0,x0)) (hk:0<k∧k≤5) (hM:cur.length*k≤M∧M≤1000000) (hf:Dg k cur) (Dy:∀a∈hp,a.1<cur.length) (oM:(hp.map (·.1)).Nodup)
    (hh:Hp (Lt o fun p=>cur.getD p AD) (fun i=>hp.getD i (0,0)) hp.length) (hok:gB rt X.sz l) (hn:X.N+m<1000000) (Bv:Src os X.sz rt.first rt.k rt.h l) (hrk:rt.k=k) (ht:cur.getD p0 AD=t):
    Calls Tryz.prog 165 #[.pointer (some ⟨sx,0,none⟩)] W fun e w'=>
      (e=.returned (.tuple #[I2 t,.bool true,.int .i64 0])∧
        ((∃ nx cP FI,rt.pos<rt.count∧l[rt.pos]?=some nx∧Hp (Lt o fun p=>(DR cur p0 nx).getD p AD) (fun i=>cP.getD i (0,0)) cP.length∧cP.Perm hp∧
            Wd X (((os.set ip (DQ X.p x0 {rt with pos:=rt.pos+1} X.sz l)).set ig (CN b g M k (DR cur p0 nx))).set iz (JA X sx k g M o FI cP)) (m+(AA rt.h (rt.pos+1)-AA rt.h rt.pos)) w')∨
         (∃ cP FI,rt.pos=rt.count∧Hp (Lt o fun p=>cur.getD p AD) (fun i=>cP.getD i (0,0)) cP.length∧((p0,x0)::cP).Perm hp∧
            Wd X ((os.set ip (N3 X.p x0 rt)).set iz (JA X sx k g M o FI cP)) m w')))∨
      (e=.returned (.tuple #[I2 AD,.bool false,.int .i64 6])∧¬X.cm∧Wd X (os.set ip (N3 X.p x0 rt)) (m+1) w'):=by
  obtain⟨gl,c,cs,rfl,h3,h4,h5,h6,h7,h8⟩:=E4 (h.at_ hs).2 hne.1
  have hm0:=(Bs hne.1).1
  rw[h0]at hm0
  have fB:p0<cur.length:=by
    have:=Dy _ (Bs hne.1).2
    rw[h0]at this;exact this
  have Df:Hid (∀(os' z:List AU) m' W',os'[iz]?=some (JA X sx k g M o (.slice (some ⟨gl,0,none⟩) hp.length c) hp)→Wd X (os'++z) m' W'→Row W' sx 187 (GX k g M M o (.slice (some ⟨gl,0,none⟩) hp.length c))∧W'.cell? ⟨gl,0,none⟩=some (.int .i64 (p0:Nat))∧W'.cell? ⟨gl,1,none⟩=some (.pointer (some ⟨x0,0,none⟩))):=fun os' z m' W' hi hw=>by
    obtain⟨k1,k2⟩:=hw.at_ (Ae hi)
    obtain⟨gl2,c2,cs2,e2,_,k4,k5,_,k7,k8⟩:=E4 k2 hne.1
    injection e2 with e2 _ e3
    injection e2 with e2
    injection e2 with e2
    subst e2
    obtain⟨m1,m2⟩:=Cp hm0
    refine⟨k1,?_,?_⟩
    · rw[k4.cell,←m1,←k8,List.getElem?_take,if_pos (by omega),Nat.zero_mul]
    · rw[k4.cell,←m2,←k8,List.getElem?_take,if_pos (by omega),Nat.zero_mul]
  have Q7:Hid (∀W4 z,Wd X (os++z) m W4→Calls Tryz.prog 52 #[.pointer (some ⟨x0,0,none⟩)] W4 fun e w'=>
      (∃ na nb nc nd ne,e=.returned (.tuple #[.agg #[.int .i64 na,.int .i64 nb,.int .i64 nc,.int .i64 nd,.int .i64 ne],.bool true,.int .i64 0])∧rt.pos<rt.count∧l[rt.pos]?=some ⟨na,nb,nc,nd,ne⟩∧Wd X (os.set ip (DQ X.p x0 {rt with pos:=rt.pos+1} X.sz l)++z) (m+(AA rt.h (rt.pos+1)-AA rt.h rt.pos)) w')∨
      (e=.returned (.tuple #[.agg #[.int .i64 0,.int .i64 0,.int .i64 0,.int .i64 0,.int .i64 0],.bool false,.int .i64 0])∧rt.pos=rt.count∧Wd X (os++z) m w')∨
      (e=.returned (.tuple #[.agg #[.int .i64 0,.int .i64 0,.int .i64 0,.int .i64 0,.int .i64 0],.bool false,.int .i64 6])∧¬X.cm∧Wd X (os.set ip (N3 X.p x0 rt)++z) (m+1) w')):=fun W4 z h4=>by
    have hrz:(os++z)[ip]?=some (DQ X.p x0 rt X.sz l):=Ae hr
    rcases Nat.eq_or_lt_of_le hok.ok.count.2 with he|hlt
    · refine(LQ h4 hrz hok.ok he).mono ?_
      exact fun e w' ⟨h1,h2⟩=>.inr (.inl ⟨h1,he,h2⟩)
    · obtain⟨nx,K0⟩:∃nx,l[rt.pos]?=some nx:=⟨_,List.getElem?_eq_getElem (by rw[hok.cnt];exact hlt)⟩
      have hsz:Src (os++z) X.sz rt.first rt.k rt.h l:=by
        obtain⟨j,f,k1,k2,k3⟩:=Bv
        exact⟨j,f,Ae k1,k2,k3⟩
      refine(MD h4 hrz hok hn hlt hsz K0).mono ?_
      rintro e w' (⟨h1,h2⟩|⟨h1,h2,h3⟩)
      · rw[Dp hr]at h2
        exact .inl ⟨nx.a,nx.b,nx.c,nx.d,nx.e,h1,hlt,K0,h2⟩
      · rw[Dp hr]at h3
        exact .inr (.inr ⟨h1,h2,h3⟩)
  clear h3 h4 h5 h6 h7 h8
  generalize uS:hp.length=n at*
  obtain⟨W1,B2⟩:∃W1,W1=W.alloc (.cells #[.int .i64 0,.int .i64 0,.int .i64 0,.int .i64 0,.int .i64 0] 63):=⟨_,rfl⟩
  have Aj:Below W.heap.size W W1:=by rw[B2];exact(Below.refl _ _).alloc (Nat.le_refl _) _
  have H1:Hid (Wd X (os++[AI W.heap.size 63 (An AD)]) m W1):=h.new Aj (by rw[B2];exact heap_alloc_new _ _) (Nat.le_refl _)
  have ER:=Lib.hid B2
  clear B2 Aj
  generalize YD:W.heap.size=s0 at*
  obtain⟨W2,S4⟩:∃W2,W2=W1.alloc (.cells #[.int .i64 (p0:Nat),.pointer (some ⟨x0,0,none⟩)] 202):=⟨_,rfl⟩
  have AX:Below W1.heap.size W1 W2:=by rw[S4];exact(Below.refl _ _).alloc (Nat.le_refl _) _
  have H2:Hid (Wd X (os++[AI s0 63 (An AD),AI W1.heap.size 202 (G9 (p0,x0))]) m W2):=by
    have h9:=H1.out.new AX (g:=W1.heap.size) (t:=202) (cs:=G9 (p0,x0)) (by rw[S4];exact heap_alloc_new _ _) (Nat.le_refl _)
    rw[List.append_assoc]at h9;exact h9
  have m9:=Lib.hid S4
  clear S4 AX
  generalize hS1:W1.heap.size=s1 at*
  have BS:=Df.out os _ _ _ hs H1.out
  have HL:=Lib.hid (J3 BS.1)
  have c7:W1.cell? ⟨sx,7,none⟩=some (.slice (some ⟨gl,0,none⟩) n c):=BS.1.cell 7
  have l0:=BS.2.1
  have l1:=BS.2.2
  have n1:(0:Int)<(n:Int):=by omega
  have n2:((n:Int)==0)=false:=by simp;omega
  clear BS
  go_enter Tryz.func165,Tryz.ntmps165
  go_upto_region 1 with(fail)
  rw[←ER.out]
  clear ER
  go_wp2_with fail
  refine HL.out.mono ?_
  rintro e w2 ⟨rfl,rfl⟩
  clear HL
  go_upto_region 4 with(fail)
  rw[←m9.out]
  clear m9 c7 l0 l1 YD hS1
  have tO:=H2.out.drewN 1
  rw[show W2.drewN 1=W2.drew from rfl]at tO
  have Ap:=Df.out os _ _ _ hs tO
  have c0:W2.drew.cell? ⟨sx,0,none⟩=some (.int .i64 k):=Ap.1.cell 0
  have c1:W2.drew.cell? ⟨sx,1,none⟩=some (.slice (some ⟨g,0,none⟩) M M):=Ap.1.cell 1
  have e0:W2.drew.cell? ⟨s1,0,none⟩=some (.int .i64 (p0:Nat)):=(tO.row (AL os _ 1)).cell 0
  have HG:=Lib.hid (QY tO (Ae hg) hk hM hf fB)
  rw[ht]at HG
  have HK:Hid (∀w3,Below W2.heap.size W2 w3→(w3.cell? ⟨sx,0,none⟩=some (.int .i64 k)∧w3.cell? ⟨sx,1,none⟩=some (.slice (some ⟨g,0,none⟩) M M)∧w3.cell? ⟨s1,0,none⟩=some (.int .i64 (p0:Nat)))):=fun w3 hb=>by
    have h9:=H2.out.below hb
    have h8:=Df.out os _ _ _ hs h9
    exact⟨h8.1.cell 0,h8.1.cell 1,(h9.row (AL os _ 1)).cell 0⟩
  clear Ap tO
  obtain⟨W3,Q0⟩:∃W3,W3=W2.alloc (.cells #[.int .i64 0,.int .i64 0,.int .i64 0,.int .i64 0,.int .i64 0] 63):=⟨_,rfl⟩
  have A9:Below W2.heap.size W2 W3.drew:=by rw[Q0];exact((Below.refl _ _).alloc (Nat.le_refl _) _).drew
  have H3:Hid (Wd X (os++[AI s0 63 (An AD),AI s1 202 (G9 (p0,x0)),AI W2.heap.size 63 (An AD)]) m W3.drew):=by
    have h9:=H2.out.new A9 (g:=W2.heap.size) (t:=63) (cs:=An AD) (by rw[Q0];exact heap_alloc_new _ _) (Nat.le_refl _)
    rw[List.append_assoc]at h9;exact h9
  have YI:=Lib.hid (QY H3.out (Ae hg) hk hM hf fB)
  rw[ht]at YI
  have b3:=HK.out _ A9
  have Bq:Hid (∀w3,Below W3.drew.heap.size W3.drew w3→Below W2.heap.size W2 w3∧Hid (Wd X (os++[AI s0 63 (An AD),AI s1 202 (G9 (p0,x0)),AI W2.heap.size 63 (An AD)]) m w3)):=fun w3 hb=>⟨A9.trans (hb.mono A9.size),H3.out.below hb⟩
  have Um:Hid (∀w3,Wd X (os++[AI s0 63 (An AD),AI s1 202 (G9 (p0,x0)),AI W2.heap.size 63 (An AD)]) m w3→(w3.cell? ⟨W2.heap.size,0,none⟩=some (.int .i64 0)∧w3.cell? ⟨W2.heap.size,1,none⟩=some (.int .i64 0)∧w3.cell? ⟨W2.heap.size,2,none⟩=some (.int .i64 0)∧w3.cell? ⟨W2.heap.size,3,none⟩=some (.int .i64 0)∧w3.cell? ⟨W2.heap.size,4,none⟩=some (.int .i64 0))∧
      (w3.frozen? ⟨W2.heap.size,0,none⟩=false∧w3.frozen? ⟨W2.heap.size,1,none⟩=false∧w3.frozen? ⟨W2.heap.size,2,none⟩=false∧w3.frozen? ⟨W2.heap.size,3,none⟩=false∧w3.frozen? ⟨W2.heap.size,4,none⟩=false)):=fun w3 h9=>by
    have hr:=h9.row (AL os _ 2)
    exact⟨⟨hr.cell 0,hr.cell 1,hr.cell 2,hr.cell 3,hr.cell 4⟩,hr.free 0,hr.free 1,hr.free 2,hr.free 3,hr.free 4⟩
  have Cd:Hid (∀w3,Below W2.drew.heap.size W2.drew w3→Below W2.heap.size W2 w3∧Hid (Wd X (os++[AI s0 63 (An AD),AI s1 202 (G9 (p0,x0))]) m w3)):=fun w3 hb=>⟨(AH (Below.refl _ _)).trans hb,H2.out.below ((AH (Below.refl _ _)).trans hb)⟩
  rw[Q0]at YI b3 Bq
  clear Q0 A9 H3
  go_region_held3 (fun w'=>w'.cell? ⟨sx,0,none⟩=some (.int .i64 k)∧w'.cell? ⟨sx,1,none⟩=some (.slice (some ⟨g,0,none⟩) M M)∧w'.cell? ⟨s1,0,none⟩=some (.int .i64 (p0:Nat))) (first|with_reducible exact⟨c0,c1,e0⟩|with_reducible exact b3|with_reducible exact q3|with_reducible exact q4|with_reducible exact q5)
    (first
      | (go_at_call 163;(with_reducible refine HG.out.mono ?_);rintro e w3 ⟨rfl,A9⟩;obtain⟨Dz,H9⟩:=Cd.out w3 A9;have q3:=HK.out w3 Dz;have q4:=HK.out _ (Dz.alloc Dz.size (.cells #[.int .i64 0,.int .i64 0,.int .i64 0,.int .i64 0,.int .i64 0] 63));have q5:=HK.out _ (Dz.alloc Dz.size (.cells #[.int .i64 t.a,.int .i64 t.b,.int .i64 t.c,.int .i64 t.d,.int .i64 t.e] 63)))
      | (go_at_call 163;(with_reducible refine YI.out.mono ?_);rintro e w3 ⟨rfl,A9⟩;obtain⟨Dz,H9⟩:=Bq.out w3 A9;have q3:=HK.out w3 Dz;obtain⟨⟨z0,z1,z2,z3,z4⟩,⟨y0,y1,y2,y3,y4⟩⟩:=Um.out w3 H9.out;have q4:=HK.out _ (((((Dz.setCell (p:=⟨W2.heap.size,0,none⟩) (Nat.le_refl _) (.int .i64 t.a)).setCell (p:=⟨W2.heap.size,1,none⟩) (Nat.le_refl _) (.int .i64 t.b)).setCell (p:=⟨W2.heap.size,2,none⟩) (Nat.le_refl _) (.int .i64 t.c)).setCell (p:=⟨W2.heap.size,3,none⟩) (Nat.le_refl _) (.int .i64 t.d)).setCell (p:=⟨W2.heap.size,4,none⟩) (Nat.le_refl _) (.int .i64 t.e));have q5:=q4))
  all_goals
    first
      | (have hx:Wd X (os++[AI s0 63 (An AD),AI s1 202 (G9 (p0,x0)),AI w3.heap.size 63 (An t)]) m (w3.alloc (.cells #[.int .i64 t.a,.int .i64 t.b,.int .i64 t.c,.int .i64 t.d,.int .i64 t.e] 63)):=by
           have h9:=H9.out.new ((Below.refl _ _).alloc (Nat.le_refl _) _) (g:=w3.heap.size) (t:=63) (cs:=An t) (heap_alloc_new w3 (.cells #[.int .i64 t.a,.int .i64 t.b,.int .i64 t.c,.int .i64 t.d,.int .i64 t.e] 63)) (Nat.le_refl _)
           rw[List.append_assoc]at h9;exact h9
         clear q3 q4 q5 A9 Dz
         generalize w3.alloc (.cells #[.int .i64 t.a,.int .i64 t.b,.int .i64 t.c,.int .i64 t.d,.int .i64 t.e] 63)=W4 at*
         generalize w3.heap.size=s3 at*)
      | (have hx:Wd X (os++[AI s0 63 (An AD),AI s1 202 (G9 (p0,x0)),AI W2.heap.size 63 (An t)]) m (((((w3.setCell ⟨W2.heap.size,0,none⟩ (.int .i64 t.a)).setCell ⟨W2.heap.size,1,none⟩ (.int .i64 t.b)).setCell ⟨W2.heap.size,2,none⟩ (.int .i64 t.c)).setCell ⟨W2.heap.size,3,none⟩ (.int .i64 t.d)).setCell ⟨W2.heap.size,4,none⟩ (.int .i64 t.e)):=by
           have Bp:(os++[AI s0 63 (An AD),AI s1 202 (G9 (p0,x0)),AI W2.heap.size 63 (An AD)])[os.length+2]?=some (AI W2.heap.size 63 (An AD)):=AL os _ 2
           obtain⟨h3,h4⟩:=Oe (t:=t) (H9.out.row Bp)
           have h9:=H9.out.Jz Bp (by decide) h4 h3
           rw[List.set_append_right _ _ (by omega),show os.length+2-os.length=2 by omega]at h9
           exact h9
         clear q3 q4 q5 A9 Dz z0 z1 z2 z3 z4 y0 y1 y2 y3 y4
         generalize((((w3.setCell ⟨W2.heap.size,0,none⟩ (.int .i64 t.a)).setCell ⟨W2.heap.size,1,none⟩ (.int .i64 t.b)).setCell ⟨W2.heap.size,2,none⟩ (.int .i64 t.c)).setCell ⟨W2.heap.size,3,none⟩ (.int .i64 t.d)).setCell ⟨W2.heap.size,4,none⟩ (.int .i64 t.e)=W4 at*
         generalize W2.heap.size=s3 at*)
    have H4:=Lib.hid hx
    have e1:W4.cell? ⟨s1,1,none⟩=some (.pointer (some ⟨x0,0,none⟩)):=(hx.row (AL os _ 1)).cell 1
    have uu:=Lib.hid (Q7.out W4 _ hx)
    clear hx H9 c0 c1 e0 b3 HG YI Bq Cd Um HK H2 H1
    go_wp2_with fail
    refine uu.out.mono ?_
    rintro e w5 (⟨na,nb,nc,nd,ne,rfl,hlt,K0,h5⟩|⟨rfl,oK,h5⟩|⟨rfl,DP,h5⟩)
    · obtain⟨X7,aD⟩:∃X7,X7=os.set ip (DQ X.p x0 {rt with pos:=rt.pos+1} X.sz l):=⟨_,rfl⟩
      obtain⟨m1,Qy⟩:∃m1,m1=m+(AA rt.h (rt.pos+1)-AA rt.h rt.pos):=⟨_,rfl⟩
      rw[←aD,←Qy]at h5
      have Qw:X7[iz]?=some (JA X sx k g M o (.slice (some ⟨gl,0,none⟩) n c) hp):=by rw[aD];exact B4 hs hd.2.2
      have UC:X7[ig]?=some (CN b g M k cur):=by rw[aD];exact B4 hg hd.2.1
      have hnf:=hok.fit _ (List.mem_of_getElem? K0)
      rw[hrk]at hnf
      have h6:Wd X (X7++[AI s0 63 (An AD),AI s1 202 (G9 (p0,x0)),AI s3 63 (An t),AI w5.heap.size 63 (An ⟨na,nb,nc,nd,ne⟩)]) m1 (w5.alloc (.cells #[.int .i64 na,.int .i64 nb,.int .i64 nc,.int .i64 nd,.int .i64 ne] 63)):=by
        have h9:=h5.new ((Below.refl _ _).alloc (Nat.le_refl _) _) (g:=w5.heap.size) (t:=63) (cs:=An ⟨na,nb,nc,nd,ne⟩) (heap_alloc_new w5 (.cells #[.int .i64 na,.int .i64 nb,.int .i64 nc,.int .i64 nd,.int .i64 ne] 63)) (Nat.le_refl _)
        rw[List.append_assoc]at h9;exact h9
      have HOS:=Lib.hid aD
      have nU:=Lib.hid Qy
      have HNF:=Lib.hid hnf
      have Jv:=Lib.hid hlt
      have zB:=Lib.hid K0
      clear h5 uu H4 aD Qy hnf K0 e1
      go_upto_region 10 with(fail)
      generalize w5.alloc (.cells #[.int .i64 na,.int .i64 nb,.int .i64 nc,.int .i64 nd,.int .i64 ne] 63)=w6 at*
      generalize w5.heap.size=s5 at*
      have PD:=h6.drewN 1
      rw[show w6.drewN 1=w6.drew from rfl]at PD
      have FJ:=Df.out X7 _ _ _ Qw PD
      have c0:w6.drew.cell? ⟨sx,0,none⟩=some (.int .i64 k):=FJ.1.cell 0
      have c1:w6.drew.cell? ⟨sx,1,none⟩=some (.slice (some ⟨g,0,none⟩) M M):=FJ.1.cell 1
      have e0:w6.drew.cell? ⟨s1,0,none⟩=some (.int .i64 (p0:Nat)):=(PD.row (AL _ _ 1)).cell 0
      have d0:w6.drew.cell? ⟨s5,0,none⟩=some (.int .i64 na):=(PD.row (AL _ _ 3)).cell 0
      have d1:w6.drew.cell? ⟨s5,1,none⟩=some (.int .i64 nb):=(PD.row (AL _ _ 3)).cell 1
      have d2:w6.drew.cell? ⟨s5,2,none⟩=some (.int .i64 nc):=(PD.row (AL _ _ 3)).cell 2
      have d3:w6.drew.cell? ⟨s5,3,none⟩=some (.int .i64 nd):=(PD.row (AL _ _ 3)).cell 3
      have d4:w6.drew.cell? ⟨s5,4,none⟩=some (.int .i64 ne):=(PD.row (AL _ _ 3)).cell 4
      have hpk:p0*k+k≤M:=by
        have h1:=Nat.mul_le_mul_right k (show p0+1≤cur.length from fB)
        rw[Nat.add_mul,Nat.one_mul]at h1;omega
      have Uh:Hid (Calls Tryz.prog 112 #[.agg #[.int .i64 k,.slice (some ⟨g,0,none⟩) M M],.int .i64 (p0:Nat),.agg #[.int .i64 na,.int .i64 nb,.int .i64 nc,.int .i64 nd,.int .i64 ne]] w6.drew fun e w'=>e=.returned (.tuple #[])∧Wd X (X7.set ig (CN b g M k (DR cur p0 ⟨na,nb,nc,nd,ne⟩))++[AI s0 63 (An AD),AI s1 202 (G9 (p0,x0)),AI s3 63 (An t),AI s5 63 (An ⟨na,nb,nc,nd,ne⟩)]) m1 w'):=by
        refine(TM PD (Ae UC) hk p0 ⟨na,nb,nc,nd,ne⟩ (by omega) hpk ⟨Nat.le_refl _,hM.2⟩ hM.1).mono ?_
        rintro e w' ⟨h1,h2,_⟩
        rw[Dp UC]at h2
        exact⟨h1,h2⟩
      have tE:Hid (∀w',Wd X (X7.set ig (CN b g M k (DR cur p0 ⟨na,nb,nc,nd,ne⟩))++[AI s0 63 (An AD),AI s1 202 (G9 (p0,x0)),AI s3 63 (An t),AI s5 63 (An ⟨na,nb,nc,nd,ne⟩)]) m1 w'→(w'.cell? ⟨sx,0,none⟩=some (.int .i64 k)∧w'.cell? ⟨sx,1,none⟩=some (.slice (some ⟨g,0,none⟩) M M)∧w'.cell? ⟨s1,0,none⟩=some (.int .i64 (p0:Nat))∧w'.cell? ⟨s5,0,none⟩=some (.int .i64 na)∧w'.cell? ⟨s5,1,none⟩=some (.int .i64 nb)∧w'.cell? ⟨s5,2,none⟩=some (.int .i64 nc)∧w'.cell? ⟨s5,3,none⟩=some (.int .i64 nd)∧w'.cell? ⟨s5,4,none⟩=some (.int .i64 ne))):=fun w' h9=>by
        have N5:=Df.out _ _ _ _ (B4 Qw hd.1) h9
        exact⟨N5.1.cell 0,N5.1.cell 1,(h9.row (AL _ _ 1)).cell 0,(h9.row (AL _ _ 3)).cell 0,(h9.row (AL _ _ 3)).cell 1,(h9.row (AL _ _ 3)).cell 2,(h9.row (AL _ _ 3)).cell 3,(h9.row (AL _ _ 3)).cell 4⟩
      have H6:=Lib.hid h6
      clear h6 PD FJ hpk
      go_region_held3 (fun w'=>w'.cell? ⟨sx,0,none⟩=some (.int .i64 k)∧w'.cell? ⟨sx,1,none⟩=some (.slice (some ⟨g,0,none⟩) M M)∧w'.cell? ⟨s1,0,none⟩=some (.int .i64 (p0:Nat))∧w'.cell? ⟨s5,0,none⟩=some (.int .i64 na)∧w'.cell? ⟨s5,1,none⟩=some (.int .i64 nb)∧w'.cell? ⟨s5,2,none⟩=some (.int .i64 nc)∧w'.cell? ⟨s5,3,none⟩=some (.int .i64 nd)∧w'.cell? ⟨s5,4,none⟩=some (.int .i64 ne)) (first|with_reducible exact⟨c0,c1,e0,d0,d1,d2,d3,d4⟩|with_reducible exact q7)
        ((go_at_call 112;(with_reducible refine Uh.out.mono ?_);rintro e w7 ⟨rfl,h7⟩;have q7:=tE.out w7 h7))
      have SD:(X7.set ig (CN b g M k (DR cur p0 ⟨na,nb,nc,nd,ne⟩)))[iz]?=some (JA X sx k g M o (.slice (some ⟨gl,0,none⟩) n c) hp):=B4 Qw hd.1
      have oR:(X7.set ig (CN b g M k (DR cur p0 ⟨na,nb,nc,nd,ne⟩)))[ig]?=some (CN b g M k (DR cur p0 ⟨na,nb,nc,nd,ne⟩)):=Mn X7 UC _
      have Dv:(DR cur p0 ⟨na,nb,nc,nd,ne⟩).length=cur.length:=by rw[J6 (by omega)];omega
      have hFX:Calls Tryz.prog 168 #[.iface 184 (.pointer (some ⟨sx,0,none⟩)),.int .i64 0] w7 fun e w'=>e=.returned (.tuple #[])∧∃h' FI,Hp (Lt o fun p=>(DR cur p0 ⟨na,nb,nc,nd,ne⟩).getD p AD) (fun i=>h'.getD i (0,0)) h'.length∧h'.Perm hp∧
          Wd X ((X7.set ig (CN b g M k (DR cur p0 ⟨na,nb,nc,nd,ne⟩))).set iz (JA X sx k g M o FI h')++[AI s0 63 (An AD),AI s1 202 (G9 (p0,x0)),AI s3 63 (An t),AI s5 63 (An ⟨na,nb,nc,nd,ne⟩)]) m1 w':=by
        have hC:=Km (X:=X) (m:=m1) (o:=o) (sx:=sx) (Ae (b:=[AI s0 63 (An AD),AI s1 202 (G9 (p0,x0)),AI s3 63 (An t),AI s5 63 (An ⟨na,nb,nc,nd,ne⟩)]) oR) (fun e=>hd.1 e.symm) (IT (Ae SD)) hk ⟨by rw[Dv];exact hM.1,hM.2⟩ (Rj hf HNF.out)
        refine(aN (h:=hp) hC (KE _ _) ⟨fun a ha=>by rw[Dv];exact Dy a ha,by omega,.slice (some ⟨gl,0,none⟩) n c,by rw[EI (Ae SD)];exact h7⟩ (by omega) ?_).mono ?_
        · exact XO oM (by omega) h0 (by omega) (by rw[uS];exact hh)
        · rintro e w' ⟨h1,h',h2,h3,_,_,FI,h5⟩
          rw[Dp SD]at h5
          exact⟨h1,h',FI,by rw[h3.length_eq];exact h2,h3,h5⟩
      have HFX:=Lib.hid hFX
      clear hFX h7 q7 H6 Uh tE c0 c1 e0 d0 d1 d2 d3 d4
      go_wp2_with fail
      refine HFX.out.mono ?_
      rintro e w8 ⟨rfl,h',FI,k1,k2,h8⟩
      have jX:=Lib.hid k1
      have gQ:=Lib.hid k2
      clear k1 k2 HFX
      have Ec:=h8.row (AL _ _ 0)
      have W8:=h8.row (AL _ _ 2)
      have y0:w8.cell? ⟨s0,0,none⟩=some (.int .i64 0):=Ec.cell 0
      have y1:w8.cell? ⟨s0,1,none⟩=some (.int .i64 0):=Ec.cell 1
      have y2:w8.cell? ⟨s0,2,none⟩=some (.int .i64 0):=Ec.cell 2
      have y3:w8.cell? ⟨s0,3,none⟩=some (.int .i64 0):=Ec.cell 3
      have y4:w8.cell? ⟨s0,4,none⟩=some (.int .i64 0):=Ec.cell 4
      have zq:w8.frozen? ⟨s0,0,none⟩=false:=Ec.free 0
      have zo:w8.frozen? ⟨s0,1,none⟩=false:=Ec.free 1
      have zn:w8.frozen? ⟨s0,2,none⟩=false:=Ec.free 2
      have zm:w8.frozen? ⟨s0,3,none⟩=false:=Ec.free 3
      have zl:w8.frozen? ⟨s0,4,none⟩=false:=Ec.free 4
      have v0:w8.cell? ⟨s3,0,none⟩=some (.int .i64 t.a):=W8.cell 0
      have v1:w8.cell? ⟨s3,1,none⟩=some (.int .i64 t.b):=W8.cell 1
      have v2:w8.cell? ⟨s3,2,none⟩=some (.int .i64 t.c):=W8.cell 2
      have v3:w8.cell? ⟨s3,3,none⟩=some (.int .i64 t.d):=W8.cell 3
      have v4:w8.cell? ⟨s3,4,none⟩=some (.int .i64 t.e):=W8.cell 4
      have H8:=Lib.hid h8
      clear h8 Ec W8
      go_wp2
      have h9:=Iu (t:=t) H8.out (AM (DL _ _ _) (AM (DL _ _ _) (AM (DL _ _ _) BQ))) rfl
      generalize(((((w8.setCell ⟨s0,0,none⟩ (.int .i64 t.a)).setCell ⟨s0,1,none⟩ (.int .i64 t.b)).setCell ⟨s0,2,none⟩ (.int .i64 t.c)).setCell ⟨s0,3,none⟩ (.int .i64 t.d)).setCell ⟨s0,4,none⟩ (.int .i64 t.e))=w9 at*
      obtain⟨⟨q0,q1,q2,q3,q4⟩,H9⟩:=h9
      exact bodyPost_ret (v:=.tuple #[I2 t,.bool true,.int .i64 0]) (by simp[results,Tryz.results165,go_sem,q0,q1,q2,q3,q4,I2]) rfl (.inl ⟨rfl,.inl ⟨⟨na,nb,nc,nd,ne⟩,h',FI,Jv.out,zB.out,jX.out,gQ.out,by rw[←HOS.out,←nU.out];exact H9.out⟩⟩)
    · have h6:=h5.below ((Below.refl _ _).alloc (Nat.le_refl _) (.cells #[.int .i64 0,.int .i64 0,.int .i64 0,.int .i64 0,.int .i64 0] 63))
      have L4:Calls Tryz.prog 169 #[.iface 184 (.pointer (some ⟨sx,0,none⟩))] (w5.alloc (.cells #[.int .i64 0,.int .i64 0,.int .i64 0,.int .i64 0,.int .i64 0] 63)) fun e w'=>e=.returned (.iface 202 (.agg #[.int .i64 (p0:Nat),.pointer (some ⟨x0,0,none⟩)]))∧∃h' FI,Hp (Lt o fun p=>cur.getD p AD) (fun i=>h'.getD i (0,0)) h'.length∧((p0,x0)::h').Perm hp∧
          Wd X (os.set iz (JA X sx k g M o FI h')++[AI s0 63 (An AD),AI s1 202 (G9 (p0,x0)),AI s3 63 (An t)]) m w':=by
        have hC:=Km (X:=X) (m:=m) (o:=o) (sx:=sx) (Ae (b:=[AI s0 63 (An AD),AI s1 202 (G9 (p0,x0)),AI s3 63 (An t)]) hg) (fun e=>hd.1 e.symm) (IT (Ae hs)) hk hM hf
        refine(aB (h:=hp) (enc:=jx) hC (KE _ _) ⟨Dy,by omega,.slice (some ⟨gl,0,none⟩) n c,by rw[EI (Ae hs)];exact h6⟩ (by omega) (by omega) (by rw[uS];exact hh) fun h W hr hne=>dY (IT (Ae hs)) h W hr hne).mono ?_
        rintro e w' ⟨h1,h',h2,h3,h4,_,_,FI,h5⟩
        rw[h0]at h1 h4
        rw[Dp hs]at h5
        exact⟨h1,h',FI,by rw[h3];exact h2,h4,h5⟩
      have gN:=Lib.hid L4
      have wJ:=Mp (p0,x0)
      have hfd:=Y1 (p0,x0)
      dsimp only at wJ hfd
      have HPE:=Lib.hid oK
      clear L4 h5 h6 uu H4 oK e1
      go_wp2_with fail
      refine gN.out.mono ?_
      rintro e w7 ⟨rfl,h',FI,k1,k2,h7⟩
      have hCL:Calls Tryz.prog 51 #[.pointer (some ⟨x0,0,none⟩)] w7 fun e w'=>e=.returned (.tuple #[])∧Wd X ((os.set ip (N3 X.p x0 rt)).set iz (JA X sx k g M o FI h')++[AI s0 63 (An AD),AI s1 202 (G9 (p0,x0)),AI s3 63 (An t)]) m w':=by
        have Bp:(os.set iz (JA X sx k g M o FI h'))[ip]?=some (DQ X.p x0 rt X.sz l):=B4 hr fun e=>hd.2.2 e.symm
        refine(Oc h7 (Ae Bp)).mono ?_
        rintro e w' ⟨h1,h2⟩
        rw[Dp Bp,List.set_comm _ _ (fun e=>hd.2.2 e.symm)]at h2
        exact⟨h1,h2⟩
      have Ct:=Lib.hid hCL
      have jX:=Lib.hid k1
      have gQ:=Lib.hid k2
      clear hCL k1 k2 h7 gN
      go_wp2_with fail
      refine Ct.out.mono ?_
      rintro e w8 ⟨rfl,h8⟩
      clear Ct wJ hfd
      have Ec:=h8.row (AL _ _ 0)
      have W8:=h8.row (AL _ _ 2)
      have y0:w8.cell? ⟨s0,0,none⟩=some (.int .i64 0):=Ec.cell 0
      have y1:w8.cell? ⟨s0,1,none⟩=some (.int .i64 0):=Ec.cell 1
      have y2:w8.cell? ⟨s0,2,none⟩=some (.int .i64 0):=Ec.cell 2
      have y3:w8.cell? ⟨s0,3,none⟩=some (.int .i64 0):=Ec.cell 3
      have y4:w8.cell? ⟨s0,4,none⟩=some (.int .i64 0):=Ec.cell 4
      have zq:w8.frozen? ⟨s0,0,none⟩=false:=Ec.free 0
      have zo:w8.frozen? ⟨s0,1,none⟩=false:=Ec.free 1
      have zn:w8.frozen? ⟨s0,2,none⟩=false:=Ec.free 2
      have zm:w8.frozen? ⟨s0,3,none⟩=false:=Ec.free 3
      have zl:w8.frozen? ⟨s0,4,none⟩=false:=Ec.free 4
      have v0:w8.cell? ⟨s3,0,none⟩=some (.int .i64 t.a):=W8.cell 0
      have v1:w8.cell? ⟨s3,1,none⟩=some (.int .i64 t.b):=W8.cell 1
      have v2:w8.cell? ⟨s3,2,none⟩=some (.int .i64 t.c):=W8.cell 2
      have v3:w8.cell? ⟨s3,3,none⟩=some (.int .i64 t.d):=W8.cell 3
      have v4:w8.cell? ⟨s3,4,none⟩=some (.int .i64 t.e):=W8.cell 4
      have H8:=Lib.hid h8
      clear h8 Ec W8
      go_wp2
      have h9:=Iu (t:=t) H8.out (AM (DL _ _ _) (AM (DL _ _ _) BQ)) rfl
      generalize(((((w8.setCell ⟨s0,0,none⟩ (.int .i64 t.a)).setCell ⟨s0,1,none⟩ (.int .i64 t.b)).setCell ⟨s0,2,none⟩ (.int .i64 t.c)).setCell ⟨s0,3,none⟩ (.int .i64 t.d)).setCell ⟨s0,4,none⟩ (.int .i64 t.e))=w9 at*
      obtain⟨⟨q0,q1,q2,q3,q4⟩,H9⟩:=h9
      exact bodyPost_ret (v:=.tuple #[I2 t,.bool true,.int .i64 0]) (by simp[results,Tryz.results165,go_sem,q0,q1,q2,q3,q4,I2]) rfl (.inl ⟨rfl,.inr ⟨h',FI,HPE.out,jX.out,gQ.out,H9.out⟩⟩)
    · have h6:=h5.below ((Below.refl _ _).alloc (Nat.le_refl _) (.cells #[.int .i64 0,.int .i64 0,.int .i64 0,.int .i64 0,.int .i64 0] 63))
      have FJ:=h6.row (AL _ _ 0)
      have H6:=Lib.hid h6
      have y0:(w5.alloc (.cells #[.int .i64 0,.int .i64 0,.int .i64 0,.int .i64 0,.int .i64 0] 63)).cell? ⟨s0,0,none⟩=some (.int .i64 0):=FJ.cell 0
      have y1:(w5.alloc (.cells #[.int .i64 0,.int .i64 0,.int .i64 0,.int .i64 0,.int .i64 0] 63)).cell? ⟨s0,1,none⟩=some (.int .i64 0):=FJ.cell 1
      have y2:(w5.alloc (.cells #[.int .i64 0,.int .i64 0,.int .i64 0,.int .i64 0,.int .i64 0] 63)).cell? ⟨s0,2,none⟩=some (.int .i64 0):=FJ.cell 2
      have y3:(w5.alloc (.cells #[.int .i64 0,.int .i64 0,.int .i64 0,.int .i64 0,.int .i64 0] 63)).cell? ⟨s0,3,none⟩=some (.int .i64 0):=FJ.cell 3
      have y4:(w5.alloc (.cells #[.int .i64 0,.int .i64 0,.int .i64 0,.int .i64 0,.int .i64 0] 63)).cell? ⟨s0,4,none⟩=some (.int .i64 0):=FJ.cell 4
      have zq:(w5.alloc (.cells #[.int .i64 0,.int .i64 0,.int .i64 0,.int .i64 0,.int .i64 0] 63)).frozen? ⟨s0,0,none⟩=false:=FJ.free 0
      have zo:(w5.alloc (.cells #[.int .i64 0,.int .i64 0,.int .i64 0,.int .i64 0,.int .i64 0] 63)).frozen? ⟨s0,1,none⟩=false:=FJ.free 1
      have zn:(w5.alloc (.cells #[.int .i64 0,.int .i64 0,.int .i64 0,.int .i64 0,.int .i64 0] 63)).frozen? ⟨s0,2,none⟩=false:=FJ.free 2
      have zm:(w5.alloc (.cells #[.int .i64 0,.int .i64 0,.int .i64 0,.int .i64 0,.int .i64 0] 63)).frozen? ⟨s0,3,none⟩=false:=FJ.free 3
      have zl:(w5.alloc (.cells #[.int .i64 0,.int .i64 0,.int .i64 0,.int .i64 0,.int .i64 0] 63)).frozen? ⟨s0,4,none⟩=false:=FJ.free 4
      have cr:=Lib.hid DP
      clear h5 uu H4 h6 FJ DP
      go_upto_region 8 with(fail)
      generalize w5.alloc (.cells #[.int .i64 0,.int .i64 0,.int .i64 0,.int .i64 0,.int .i64 0] 63)=w6 at*
      go_wp2
      have h9:=Iu (t:=⟨0,0,0,0,0⟩) H6.out (AM (DL _ _ _) (AM (DL _ _ _) BQ)) rfl
      dsimp only at h9
      generalize(((((w6.setCell ⟨s0,0,none⟩ (.int .i64 0)).setCell ⟨s0,1,none⟩ (.int .i64 0)).setCell ⟨s0,2,none⟩ (.int .i64 0)).setCell ⟨s0,3,none⟩ (.int .i64 0)).setCell ⟨s0,4,none⟩ (.int .i64 0))=w9 at*
      obtain⟨⟨q0,q1,q2,q3,q4⟩,H9⟩:=h9
      exact bodyPost_ret (v:=.tuple #[.agg #[.int .i64 0,.int .i64 0,.int .i64 0,.int .i64 0,.int .i64 0],.bool false,.int .i64 6]) (by simp[results,Tryz.results165,go_sem,q0,q1,q2,q3,q4]) rfl (.inr ⟨rfl,cr.out,H9.out⟩)
end
section
variable {W : World} {sx k g M n c : Nat} {o : AB} {A : Option Addr}
theorem Tf{J:Nat→World→Prop}{hf:Nat→Nat×Nat}(fm:FrameMode)(hn:n≤1000000)
  (hrow:∀i W,J i W→Row W sx 187 (GX k g M M o (.slice A n c)))
  (Be:∀i W,J i W→i<n→∃gl,A=some ⟨gl,0,none⟩∧W.cell? ⟨gl,i*2,none⟩=some (.int .i64 ((hf i).1:Nat))∧W.cell? ⟨gl,i*2+1,none⟩=some (.pointer (some ⟨(hf i).2,0,none⟩)))
  (Dv:∀i W,i<n→J i W→Calls Tryz.prog 51 #[.pointer (some ⟨(hf i).2,0,none⟩)] W fun e w'=>e=.returned (.tuple #[])∧J (i+1) w')
  (hb:∀i W W',J i W→Below W.heap.size W W'→J i W') (h:J 0 W):
  CallsD Tryz.prog 114 #[.pointer (some ⟨sx,0,none⟩)] fm W fun e u' w'=>u'=fm∧(e=.returned (.tuple #[])∧J n w'):=by
 have c7:W.cell? ⟨sx,7,none⟩=some (.slice A n c):=(hrow 0 W h).cell 7
 have HJ:=Lib.hid h
 have HC:=Lib.hid Be
 have Ct:=Lib.hid Dv
 have HB:=Lib.hid hb
 clear h hrow Be Dv hb
 go_enter_d Tryz.func114,Tryz.ntmps114
 go_wp2_with fail
 go_loopw [9] (fun iv wr=>∃i:Nat,i≤n∧iv=.int .i64 (i:Int)∧Hid (J i wr)) (fun iv _=>n-(intOf iv).toNat)
 case atStart=>exact⟨0,Nat.zero_le _,rfl,HJ.out⟩
 case round=>
  obtain⟨i,hi,rfl,HI⟩:=hrel
  clear HJ
  by_cases hlt:i<n
  ·obtain⟨gl,rfl,e1,e2⟩:=HC.out i wr HI.out hlt
   have i1:(0:Int)≤(i:Int):=by omega
   have i2:(i:Int)<(n:Int):=by omega
   have HX:=Lib.hid (Ct.out i _ hlt (HB.out i wr (wr.alloc (.cells #[.int .i64 ((hf i).1:Nat),.pointer (some ⟨(hf i).2,0,none⟩)] 202)) HI.out ((Below.refl _ _).alloc (Nat.le_refl _) _)))
   generalize(hf i).1=p at*
   generalize(hf i).2=x at*
   go_wp2_with fail
   refine HX.out.mono ?_
   rintro e w3 ⟨rfl,h3⟩
   have H3:=Lib.hid h3
   clear h3
   go_wp2
   go_roundw
   case rel=>exact⟨i+1,by omega,by go_num,H3.out⟩
   case measure=>simp[intOf];omega
  ·obtain rfl:i=n:=by omega
   go_wp2
   go_end0
   exact⟨rfl,HI.out⟩
end
structure Sr where
 x:Nat
 rt:Rt
 l:List AB
 op:Bool
def X6(X:Cx)(r:Sr):AU:=if r.op then DQ X.p r.x r.rt X.sz r.l else N3 X.p r.x r.rt
def Dk(cur:List AB)(q:List Sr)(p:Nat):List AB:=match q[p]?with
 |some r=>if r.op then cur.getD p AD::r.l.drop r.rt.pos else []
 |none=>[]
def Tj(q:List Sr):Nat:=Aa (fun r:Sr=>AA r.rt.h r.rt.pos) q
def zu(q:List Sr):Nat:=Aa (fun r:Sr=>AA r.rt.h r.rt.count) q
structure MP where
 X:Cx
 AO:List AU
 Z:List AB→List AU
 o:AB
 once:Bool
 k:Nat
 hh:Nat
 bd:Nat
 xw:Nat
 tT:Nat
 fP:Nat
 vT:Value
 n:Nat
 m:Nat
 s0:List AB
 bx:AU
 b:Nat
 g:Nat
 M:Nat
 sx:Nat
 rs:List (List AB)
def MP.os(P:MP)(z:List AU)(cur:List AB)(st:AU)(q:List Sr):List AU:=P.AO++z++(P.bx::CN P.b P.g P.M P.k cur::st::q.map (X6 P.X))
def MP.st(P:MP)(lv:Value)(h:List (Nat×Nat)):AU:=JA P.X P.sx P.k P.g P.M P.o lv h
def MP.mm(P:MP)(q:List Sr)(s:List AB):Nat:=P.m+Tj q+ES P.once P.o P.hh s
structure MP.Ok (P:MP):Prop where
 S:bM P.X P.o P.once P.k P.hh P.bd P.xw P.tT P.fP P.vT P.Z P.n
 kk:0<P.k∧P.k≤5
 M:P.rs.length*P.k≤P.M∧P.M≤1000000
 len:P.rs.length≤100000
 asc:∀l∈P.rs,Gz P.o l
 fit:∀l∈P.rs,Dg P.k l
 bx:P.bx.gr=none∧P.bx.ex.2=0
 bd:P.s0.length+P.rs.flatten.length≤P.bd
 n:P.X.N+P.m+Aa (fun l:List AB=>AA P.hh l.length) P.rs+P.bd+3≤1000000
structure MP.Rd (P:MP) (r:Sr):Prop where
 ok:gB r.rt P.X.sz r.l
 src:Src P.AO P.X.sz r.rt.first r.rt.k r.rt.h r.l
 k:r.rt.k=P.k
 h:r.rt.h=P.hh
 pos:0<r.rt.pos∧r.rt.pos≤r.rt.count
 shut:r.op=false→r.rt.pos=r.rt.count
structure MP.St (P:MP) (cur:List AB) (q:List Sr) (h:List (Nat×Nat)):Prop where
 cl:cur.length=q.length
 ql:q.map (·.l)=P.rs.take q.length
 fit:Dg P.k cur
 rd:∀r∈q,P.Rd r
 hp:Hp (Lt P.o fun p=>cur.getD p AD) (fun i=>h.getD i (0,0)) h.length
 nd:(h.map (·.1)).Nodup
 mem:∀a,a∈h↔∃r,q[a.1]?=some r∧r.op=true∧r.x=a.2
structure HQ (q:List Sr) (h:List (Nat×Nat)):Prop where
 len:h.length≤100000
 m1:∀a∈h,∃r,q[a.1]?=some r∧r.x=a.2
 m2:∀(p:Nat) (r:Sr),q[p]?=some r→r.op=true→(p,r.x)∈h
def MP.No(P:MP)(W:World):Prop:=¬P.X.cm∧∃z cur lv h q m',L6 P.X P.xw P.bd P.n P.Z z∧HQ q h∧Wd P.X (P.os z cur (P.st lv h) q) m' W
section
variable {P : MP} {cur : List AB} {q : List Sr} {h : List (Nat × Nat)} {z : List AU} {st : AU} {W : World} {lv : Value} {m : Nat}
theorem J2{X:Cx}{r:Sr}(h:r.op=true):X6 X r=DQ X.p r.x r.rt X.sz r.l:=by unfold X6;rw[if_pos h]
theorem It{X:Cx}{r:Sr}(h:r.op=false):X6 X r=N3 X.p r.x r.rt:=by unfold X6;rw[h];rfl
theorem MP.bI:(P.os z cur st q)[P.AO.length+z.length+1]?=some (CN P.b P.g P.M P.k cur):=By (j:=1) rfl
theorem MP.PY:(P.os z cur st q)[P.AO.length+z.length+2]?=some st:=By (j:=2) rfl
theorem MP.jJ{p:Nat}{r:Sr}(hr:q[p]?=some r):(P.os z cur st q)[P.AO.length+z.length+(3+p)]?=some (X6 P.X r):=by
 unfold MP.os
 rw[By rfl,show 3+p=p+1+1+1 by omega,List.getElem?_cons_succ,List.getElem?_cons_succ,List.getElem?_cons_succ,List.getElem?_map,hr];rfl
theorem MP.Yv{c2:List AB}:(P.os z cur st q).set (P.AO.length+z.length+1) (CN P.b P.g P.M P.k c2)=P.os z c2 st q:=by
 unfold MP.os;rw[CY rfl];rfl
theorem MP.Ta{s2:AU}:(P.os z cur st q).set (P.AO.length+z.length+2) s2=P.os z cur s2 q:=by
 unfold MP.os;rw[CY rfl];rfl
theorem MP.Pu{p:Nat}{r:Sr}:(P.os z cur st q).set (P.AO.length+z.length+(3+p)) (X6 P.X r)=P.os z cur st (q.set p r):=by
 unfold MP.os
 rw[CY rfl,show 3+p=p+1+1+1 by omega,List.set_cons_succ,List.set_cons_succ,List.set_cons_succ,List.map_set]
theorem DF{α:Type}{l:List α}{i:Nat}{a:α}(h:l[i]?=some a):i<l.length:=by
 rcases Nat.lt_or_ge i l.length with hl|hl
 ·exact hl
 ·rw[List.getElem?_eq_none hl]at h;cases h
theorem Oo{α:Type}{l:List α}{i:Nat}{a:α}(h:l[i]?=some a):l.set i a=l:=by
 refine List.ext_getElem? fun j=>?_
 rw[List.getElem?_set]
 by_cases Fa:i=j
 ·subst Fa;rw[if_pos rfl,if_pos (DF h),h]
 ·rw[if_neg Fa]
theorem Src.app{AO os1:List AU}{sz first k hh:Nat}{l:List AB}(hs:Src AO sz first k hh l):Src (AO++os1) sz first k hh l:=by
 obtain⟨j,f,h1,h2,h3⟩:=hs
 refine⟨j,f,?_,h2,h3⟩
 rw[List.getElem?_append_left (IT h1)];exact h1
theorem MP.src{sz first k hh:Nat}{l:List AB}(hs:Src P.AO sz first k hh l):Src (P.os z cur st q) sz first k hh l:=hs.app.app
theorem Uy{α:Type}{f g:α→Nat}:∀(l:List α) (_:∀a∈l,f a≤g a),Aa f l≤Aa g l
 |[],_=>Nat.le_refl _
 |a::l,h=>by
  rw[BZ,BZ]
  exact Nat.add_le_add (h a List.mem_cons_self) (Uy l fun b hb=>h b (List.mem_cons_of_mem _ hb))
theorem dV{α:Type}{f g:α→Nat}(l:List α)(h:∀a∈l,f a=g a):Aa f l=Aa g l:=by
 unfold Aa;rw[List.map_congr_left h]
theorem Mj{α β:Type}{f:α→Nat}{g:β→Nat}{e:α→β}:∀(l:List α) (_:∀a∈l,f a=g (e a)),Aa f l=Aa g (l.map e)
 |[],_=>rfl
 |a::l,h=>by
  rw[BZ,List.map_cons,BZ,h a List.mem_cons_self,Mj l fun b hb=>h b (List.mem_cons_of_mem _ hb)]
def OK(q:List Sr):Nat:=Aa (fun r:Sr=>if r.op then 1+(r.rt.count-r.rt.pos)else 0) q
theorem P9(hq:∀r∈q,P.Rd r):Tj q≤zu q:=Uy q fun r hr=>Am (hq r hr).ok.ok.h.1 (hq r hr).pos.2
theorem Ti(hq:∀r∈q,P.Rd r):zu q=Aa (fun l:List AB=>AA P.hh l.length) (q.map (·.l)):=Mj q fun r hr=>by rw[(hq r hr).h,(hq r hr).ok.cnt]
theorem mem_set{α:Type}{l:List α}{i:Nat}{a b:α}(h:b∈l.set i a):b=a∨b∈l:=by
 rcases List.mem_or_eq_of_mem_set h with h|h
 ·exact .inr h
 ·exact .inl h
def Sr.step(r:Sr):Sr:={r with rt:={r.rt with pos:=r.rt.pos+1}}
def Sr.shut(r:Sr):Sr:={r with op:=false}
theorem MP.Rd.step{r:Sr}(h:P.Rd r)(hp:r.rt.pos<r.rt.count)(ho:r.op=true):P.Rd r.step:=
 ⟨⟨⟨h.ok.ok.k,h.ok.ok.h,h.ok.ok.sz,⟨h.ok.ok.count.1,hp⟩,h.ok.ok.first⟩,h.ok.cnt,h.ok.fit⟩,h.src,h.k,h.h,⟨Nat.succ_pos _,hp⟩,fun hf=>absurd (ho.symm.trans hf) (by decide)⟩
theorem MP.Rd.pU{r:Sr}(h:P.Rd r)(hp:r.rt.pos=r.rt.count):P.Rd r.shut:=⟨h.ok,h.src,h.k,h.h,h.pos,fun _=>hp⟩
theorem ZI{p:Nat}{r:Sr}(hr:q[p]?=some r):Tj (q.set p r.step)+AA r.rt.h r.rt.pos=Tj q+AA r.rt.h (r.rt.pos+1):=FF _ _ _ r r.step hr
theorem ZJ{p:Nat}{r:Sr}(hr:q[p]?=some r):Tj (q.set p r.shut)=Tj q:=by
 have h1:Tj (q.set p r.shut)+AA r.rt.h r.rt.pos=Tj q+AA r.rt.h r.rt.pos:=FF (fun r:Sr=>AA r.rt.h r.rt.pos) q p r r.shut hr
 omega
theorem WZ{p:Nat}{r:Sr}(hr:q[p]?=some r)(ho:r.op=true)(hp:r.rt.pos<r.rt.count):OK (q.set p r.step)+1=OK q:=by
 have h1:=FF (fun r:Sr=>if r.op then 1+(r.rt.count-r.rt.pos)else 0) q p r r.step hr
 simp only[show r.step.op=true from ho,ho,if_pos]at h1
 have h2:r.step.rt.count=r.rt.count:=rfl
 have h3:r.step.rt.pos=r.rt.pos+1:=rfl
 unfold OK;omega
theorem Wa{p:Nat}{r:Sr}(hr:q[p]?=some r)(ho:r.op=true)(hp:r.rt.pos=r.rt.count):OK (q.set p r.shut)+1=OK q:=by
 have h1:=FF (fun r:Sr=>if r.op then 1+(r.rt.count-r.rt.pos)else 0) q p r r.shut hr
 simp only[show r.shut.op=false from rfl,ho,if_pos]at h1
 unfold OK
 simp only[Bool.false_eq_true,if_false]at h1
 omega
theorem MP.St.get(hs:P.St cur q h){a:Nat×Nat}(ha:a∈h):∃r,q[a.1]?=some r∧r.op=true∧r.x=a.2∧P.Rd r:=by
 obtain⟨r,h1,h2,h3⟩:=(hs.mem a).1 ha
 exact⟨r,h1,h2,h3,hs.rd r (List.mem_of_getElem? h1)⟩
theorem MP.St.lt(hs:P.St cur q h):∀a∈h,a.1<cur.length:=fun a ha=>by
 obtain⟨r,h1,_⟩:=hs.get ha
 rw[hs.cl];exact DF h1
theorem MP.St.more(hs:P.St cur q h){p0:Nat}{r0:Sr}{nx:AB}{h':List (Nat×Nat)}(hr:q[p0]?=some r0)(ho:r0.op=true)(hp:r0.rt.pos<r0.rt.count)(K0:CQ nx∧Ac P.k nx=true)
  (hh:Hp (Lt P.o fun p=>(DR cur p0 nx).getD p AD) (fun i=>h'.getD i (0,0)) h'.length) (oJ:h'.Perm h):P.St (DR cur p0 nx) (q.set p0 r0.step) h' where
 cl:=by
  have h1:p0<cur.length:=by rw[hs.cl];exact DF hr
  rw[J6 (by omega),List.length_set,←hs.cl];omega
 ql:=by
  rw[List.length_set,←hs.ql,List.map_set]
  exact Oo (by rw[List.getElem?_map,hr];rfl)
 fit:=Rj hs.fit K0
 rd:=fun r h1=>(mem_set h1).elim (fun e=>by rw[e];exact(hs.rd r0 (List.mem_of_getElem? hr)).step hp ho) (hs.rd r)
 hp:=hh
 nd:=(oJ.map (·.1)).nodup_iff.2 hs.nd
 mem:=fun a=>by
  rw[oJ.mem_iff,hs.mem a]
  by_cases he:p0=a.1
  ·subst he
   rw[List.getElem?_set,if_pos rfl,if_pos (DF hr)]
   refine⟨fun⟨r,h1,h2,h3⟩=>⟨_,rfl,ho,?_⟩,fun⟨r,h1,h2,h3⟩=>⟨r0,hr,ho,?_⟩⟩
   ·rw[hr]at h1;injection h1 with h1;rw[←h3,←h1];rfl
   ·injection h1 with h1;rw[←h3,←h1];rfl
  ·rw[List.getElem?_set,if_neg he]
theorem MP.St.less(hs:P.St cur q h){p0:Nat}{r0:Sr}{h':List (Nat×Nat)}(hr:q[p0]?=some r0)(hp:r0.rt.pos=r0.rt.count)
  (hh:Hp (Lt P.o fun p=>cur.getD p AD) (fun i=>h'.getD i (0,0)) h'.length) (oJ:((p0,r0.x)::h').Perm h):P.St cur (q.set p0 r0.shut) h' where
 cl:=by rw[List.length_set];exact hs.cl
 ql:=by
  rw[List.length_set,←hs.ql,List.map_set]
  exact Oo (by rw[List.getElem?_map,hr];rfl)
 fit:=hs.fit
 rd:=fun r h1=>(mem_set h1).elim (fun e=>by rw[e];exact(hs.rd r0 (List.mem_of_getElem? hr)).pU hp) (hs.rd r)
 hp:=hh
 nd:=by
  have h1:=(oJ.map (·.1)).nodup_iff.2 hs.nd
  rw[List.map_cons,List.nodup_cons]at h1
  exact h1.2
 mem:=fun a=>by
  have h1:=(oJ.map (·.1)).nodup_iff.2 hs.nd
  rw[List.map_cons,List.nodup_cons]at h1
  have h2:=hs.mem a
  rw[←oJ.mem_iff,List.mem_cons]at h2
  by_cases he:p0=a.1
  ·subst he
   rw[List.getElem?_set,if_pos rfl,if_pos (DF hr)]
   refine⟨fun ha=>absurd (List.mem_map.2 ⟨a,ha,rfl⟩) h1.1,fun⟨r,h3,h4,_⟩=>?_⟩
   injection h3 with h3
   rw[←h3]at h4;cases h4
  ·rw[List.getElem?_set,if_neg he]
   refine⟨fun ha=>h2.1 (.inr ha),fun ha=>(h2.2 ha).elim (fun e=>absurd (by rw[e]) he) id⟩
theorem eL(o:AB)(cur:Nat→AB)(a:Nat×Nat):Lt o cur a a=false:=by
 cases h:Lt o cur a a with
 |false=>rfl
 |true=>have:=(KE o cur).asym a a h;rw[h]at this;cases this
theorem MP.St.least(hs:P.St cur q h){a:Nat×Nat}(ha:a∈h):Lt P.o (fun p=>cur.getD p AD) a (h.getD 0 (0,0))=false:=by
 obtain⟨j,hj,rfl⟩:=List.getElem_of_mem ha
 have h1:=hs.hp.least (KE _ _) (eL _ _) j hj
 have e:h.getD j (0,0)=h[j]:=by rw[List.getD_eq_getElem?_getD,List.getElem?_eq_getElem hj];rfl
 rw[←e];exact h1
theorem MP.St.told(hs:P.St cur q h){out:List AB}{N:Nat}(hN:N=q.length){p0 x0:Nat}{r0:Sr}(h0:h.getD 0 (0,0)=(p0,x0))(hr:q[p0]?=some r0)(ho:r0.op=true)
  (hm:S8 P.o N (Dk cur q) P.rs.flatten out) {live':Nat→List AB} (Jc:live' p0=r0.l.drop r0.rt.pos) (QT:∀p,p≠p0→live' p=Dk cur q p):S8 P.o N live' P.rs.flatten (out++[cur.getD p0 AD]):=by
 refine hm.step (by rw[hN];exact DF hr) (r:=r0.l.drop r0.rt.pos) (by unfold Dk;rw[hr];show (if r0.op then _ else _)= _;rw[if_pos ho]) (fun p u us hp hl=>?_) Jc QT
 unfold Dk at hl
 cases hq:q[p]?with
 |none=>rw[hq]at hl;cases hl
 |some r=>
  rw[hq]at hl
  have hl:(if r.op then cur.getD p AD::r.l.drop r.rt.pos else [])=u::us:=hl
  cases hro:r.op with
  |false=>rw[hro]at hl;cases hl
  |true=>
   rw[hro,if_pos rfl]at hl
   injection hl with hl _
   have h1:=hs.least ((hs.mem (p,r.x)).2 ⟨r,hq,hro,rfl⟩)
   rw[h0]at h1
   unfold Lt at h1
   simp only[Bool.or_eq_false_iff,Bool.and_eq_false_iff,decide_eq_false_iff_not]at h1
   have h2:=Ag P.o (cur.getD p0 AD) (cur.getD p AD)
   rw[←hl]
   omega
def MP.J(P:MP)(n:Nat)(W:World):Prop:=∃cur q h lv out,P.St cur q h∧q.length=P.rs.length∧S8 P.o P.rs.length (Dk cur q) P.rs.flatten out∧OK q=n∧Wd P.X (P.os (P.Z (P.s0++out)) cur (P.st lv h) q) (P.mm q (P.s0++out)) W
def MP.Jm(P:MP)(t:AB)(n:Nat)(W:World):Prop:=∃cur q h lv out,P.St cur q h∧q.length=P.rs.length∧S8 P.o P.rs.length (Dk cur q) P.rs.flatten (out++[t])∧OK q=n∧Ac P.k t=true∧(out++[t]).length≤P.rs.flatten.length∧Wd P.X (P.os (P.Z (P.s0++out)) cur (P.st lv h) q) (P.mm q (P.s0++out)) W
def MP.E(P:MP)(W:World):Prop:=∃cur q lv out,P.St cur q []∧q.length=P.rs.length∧S8 P.o P.rs.length (Dk cur q) P.rs.flatten out∧Wd P.X (P.os (P.Z (P.s0++out)) cur (P.st lv []) q) (P.mm q (P.s0++out)) W
theorem S8.len{o:AB}{N:Nat}{live:Nat→List AB}{X8 out:List AB}(h:S8 o N live X8 out):out.length≤X8.length:=by
 have h1:Cl o (out++(List.range N).flatMap live) X8:=fun c=>by
  rw[List.filter_append,←h.cl c]
  unfold Rz
  rw[List.filter_flatMap]
 have h2:=h1.len
 rw[List.length_append]at h2;omega
theorem MP.St.P9(hs:P.St cur q h)(N6:q.length=P.rs.length):Tj q≤Aa (fun l:List AB=>AA P.hh l.length) P.rs:=by
 have h1:=hs.ql
 rw[N6,List.take_length]at h1
 rw[←h1,←Ti hs.rd]
 exact Go.Proofs.YteldegofbbfaeaaGreat.P9 hs.rd
theorem MP.iD(hP:P.Ok)(hs:P.St cur q h)(N6:q.length=P.rs.length){out:List AB}(ho:out.length≤P.rs.flatten.length):P.X.N+P.mm q (P.s0++out)+3≤1000000:=by
 have h1:=hs.P9 N6
 have h2:=JR P.once P.o P.hh (P.s0++out)
 have h3:=hP.n
 have h4:=hP.bd
 rw[List.length_append]at h2
 unfold MP.mm;omega
theorem MP.St.hlen(hs:P.St cur q h):h.length≤q.length:=by
 have h1:(h.map (·.1)).length≤(List.range q.length).length:=hs.nd.length_le_of_subset fun p hp=>by
  obtain⟨a,ha,rfl⟩:=List.mem_map.1 hp
  obtain⟨r,h1,_⟩:=hs.get ha
  exact List.mem_range.2 (DF h1)
 rwa [List.length_map,List.length_range]at h1
theorem MP.St.kM(hs:P.St cur q h):q.length≤P.rs.length:=by
 have h1:=congrArg List.length hs.ql
 rw[List.length_map,List.length_take]at h1;omega
theorem MP.St.hq(hP:P.Ok)(hs:P.St cur q h):HQ q h:=⟨by have:=hs.hlen;have:=hs.kM;have:=hP.len;omega,fun a ha=>by
 obtain⟨r,h1,_,h3,_⟩:=hs.get ha
 exact⟨r,h1,h3⟩,fun p r hr ho=>(hs.mem (p,r.x)).2 ⟨r,hr,ho,rfl⟩⟩
theorem MP.St.VI(hP:P.Ok)(hs:P.St cur q h){p0:Nat}{r0:Sr}(hr:q[p0]?=some r0):HQ (q.set p0 r0.shut) h:=⟨by have:=hs.hlen;have:=hs.kM;have:=hP.len;omega,fun a ha=>by
 obtain⟨r,h1,_,h3,_⟩:=hs.get ha
 by_cases he:p0=a.1
 ·subst he
  refine⟨r0.shut,by rw[List.getElem?_set,if_pos rfl,if_pos (DF hr)],?_⟩
  rw[hr]at h1;injection h1 with h1;rw[←h3,←h1];rfl
 ·exact⟨r,by rw[List.getElem?_set,if_neg he];exact h1,h3⟩,fun p r hq ho=>by
 rw[List.getElem?_set]at hq
 split at hq
 ·split at hq
  ·injection hq with hq;rw[←hq]at ho;cases ho
  ·cases hq
 ·exact(hs.mem (p,r.x)).2 ⟨r,hq,ho,rfl⟩⟩
theorem MP.next(hP:P.Ok):jM 165 (.pointer (some ⟨P.sx,0,none⟩)) P.J P.Jm P.E P.No:=by
 rintro n W ⟨cur,q,h,lv,out,hs,N6,hm,lE,hw⟩
 have hz:=hP.S.len (P.s0++out)
 have hlo:=hm.len
 have O4:(P.s0++out).length≤P.bd:=by rw[List.length_append];have:=hP.bd;omega
 rcases Nat.eq_zero_or_pos h.length with hl|hl
 ·have hl:=List.length_eq_zero_iff.1 hl
  subst hl
  refine(TX hw MP.PY).mono ?_
  rintro e w' ⟨he,h1⟩
  exact .inr (.inl ⟨he,cur,q,lv,out,hs,N6,hm,h1⟩)
 ·obtain⟨p0,x0,h0⟩:∃p0 x0,h.getD 0 (0,0)=(p0,x0):=⟨_,_,rfl⟩
  have hmem:=(Bs hl).2
  rw[h0]at hmem
  obtain⟨r0,hr,ho,hx,hrd⟩:=hs.get hmem
  have hx:r0.x=x0:=hx
  subst hx
  have hr:q[p0]?=some r0:=hr
  have fB:=DF hr
  have Bp:=MP.jJ (P:=P) (z:=P.Z (P.s0++out)) (cur:=cur) (st:=P.st lv h) hr
  rw[J2 ho]at Bp
  have hM:cur.length*P.k≤P.M∧P.M≤1000000:=⟨by rw[hs.cl,N6];exact hP.M.1,hP.M.2⟩
  have hmm:=MP.iD hP hs N6 hlo
  have ld:h.length≤100000:=by have:=hs.hlen;have:=hs.kM;have:=hP.len;omega
  have Bv:Src (P.os (P.Z (P.s0++out)) cur (P.st lv h) q) P.X.sz r0.rt.first r0.rt.k r0.rt.h r0.l:=MP.src hrd.src
  have qB:=hs.fit _ (Iz (i:=p0) (by rw[hs.cl];exact fB))
  refine(WR hw MP.bI MP.PY Bp ⟨by omega,by omega,by omega⟩ ⟨hl,ld⟩ h0 hP.kk hM hs.fit hs.lt hs.nd hs.hp hrd.ok (by omega) Bv hrd.k rfl).mono ?_
  rintro e w' (⟨he,(⟨nx,h',FI,Dy,K0,h1,h2,h3⟩|⟨h',FI,oK,h1,h2,h3⟩)⟩|⟨he,DP,h3⟩)
  ·have hnf:=hrd.ok.fit nx (List.mem_of_getElem? K0)
   rw[hrd.k]at hnf
   have hs':=hs.more hr ho Dy hnf h1 h2
   have h4:Wd P.X (P.os (P.Z (P.s0++out)) (DR cur p0 nx) (P.st FI h') (q.set p0 r0.step)) (P.mm q (P.s0++out)+(AA r0.rt.h (r0.rt.pos+1)-AA r0.rt.h r0.rt.pos)) w':=by
    rw[←MP.Ta (P:=P) (st:=P.st lv h),←MP.Yv (P:=P) (cur:=cur),←MP.Pu,J2 (X:=P.X) (r:=r0.step) ho];exact h3
   have h5:P.mm (q.set p0 r0.step) (P.s0++out)=P.mm q (P.s0++out)+(AA r0.rt.h (r0.rt.pos+1)-AA r0.rt.h r0.rt.pos):=by
    have h6:=ZI hr
    have h7:=Am (h:=r0.rt.h) (c:=r0.rt.pos) (c':=r0.rt.pos+1) hrd.ok.ok.h.1 (by omega)
    unfold MP.mm;omega
   have hm':=hs.told (N:=P.rs.length) N6.symm h0 hr ho hm (live':=Dk (DR cur p0 nx) (q.set p0 r0.step)) (by
    unfold Dk;rw[List.getElem?_set,if_pos rfl,if_pos fB]
    show (if r0.step.op then (DR cur p0 nx).getD p0 AD::r0.l.drop (r0.rt.pos+1)else [])= _
    have MJ:r0.rt.pos<r0.l.length:=by rw[hrd.ok.cnt];exact Dy
    rw[show r0.step.op=true from ho,if_pos rfl,J7 (by rw[hs.cl];omega),if_pos rfl,List.drop_eq_getElem_cons MJ]
    rw[List.getElem?_eq_getElem MJ]at K0
    injection K0 with K0
    rw[K0]) (fun p hp=>by
    unfold Dk;rw[List.getElem?_set,if_neg (fun e=>hp e.symm),J7 (by rw[hs.cl];omega),if_neg hp])
   refine .inl ⟨_,OK (q.set p0 r0.step),he,?_,_,_,h',FI,out,hs',by rw[List.length_set];exact N6,hm',rfl,qB.2,hm'.len,by rw[h5];exact h4⟩
   have:=WZ hr ho Dy;omega
  ·have hs':=hs.less hr oK h1 h2
   have h4:Wd P.X (P.os (P.Z (P.s0++out)) cur (P.st FI h') (q.set p0 r0.shut)) (P.mm q (P.s0++out)) w':=by
    rw[←MP.Ta (P:=P) (st:=P.st lv h),←MP.Pu,It (X:=P.X) (r:=r0.shut) rfl];exact h3
   have h5:P.mm (q.set p0 r0.shut) (P.s0++out)=P.mm q (P.s0++out):=by unfold MP.mm;rw[ZJ hr]
   have hm':=hs.told (N:=P.rs.length) N6.symm h0 hr ho hm (live':=Dk cur (q.set p0 r0.shut)) (by
    unfold Dk;rw[List.getElem?_set,if_pos rfl,if_pos fB]
    have XG:r0.l.drop r0.rt.pos=[]:=List.drop_eq_nil_of_le (by rw[hrd.ok.cnt,oK];exact Nat.le_refl _)
    rw[XG];rfl) (fun p hp=>by
    unfold Dk;rw[List.getElem?_set,if_neg (fun e=>hp e.symm)])
   refine .inl ⟨_,OK (q.set p0 r0.shut),he,?_,cur,q.set p0 r0.shut,h',FI,out,hs',by rw[List.length_set];exact N6,hm',rfl,qB.2,hm'.len,by rw[h5];exact h4⟩
   have:=Wa hr ho oK;omega
  ·refine .inr (.inr ⟨he,DP,P.Z (P.s0++out),cur,lv,h,q.set p0 r0.shut,P.mm q (P.s0++out)+1,.inl ⟨_,O4,rfl⟩,hs.VI hP hr,?_⟩)
   rw[←MP.Pu,It (X:=P.X) (r:=r0.shut) rfl];exact h3
theorem MP.put(hP:P.Ok):sC P.fP P.vT P.J P.Jm P.No:=by
 rintro t n W ⟨cur,q,h,lv,out,hs,N6,hm,lE,rA,hlo,hw⟩
 have lR:out.length≤P.rs.flatten.length:=by rw[List.length_append]at hlo;omega
 have hmm:=MP.iD hP hs N6 lR
 refine(hP.S.put P.AO _ _ (P.s0++out) t W hw rA (by rw[List.length_append]at hlo⊢;have:=hP.bd;simp only[List.length_cons,List.length_nil]at hlo;omega) (by omega)).mono ?_
 rintro e w' (⟨he,h1⟩|⟨he,DP,z,m',hz,h1⟩)
 ·refine .inl ⟨he,cur,q,h,lv,out++[t],hs,N6,hm,lE,?_⟩
  have h2:P.mm q (P.s0++out)+((BC P.once P.o (P.s0++out++[t])).length/P.hh-(BC P.once P.o (P.s0++out)).length/P.hh)=P.mm q (P.s0++(out++[t])):=by
   unfold MP.mm;rw[RC,List.append_assoc]
  rw[h2,List.append_assoc P.s0 out [t]]at h1
  exact h1
 ·exact .inr ⟨he,DP,z,cur,lv,h,q,m',.inr hz,hs.hq hP,h1⟩
theorem WK(x:Nat)(w:World):Sem.run Tryz.prog (method 335 184 (.pointer (some ⟨x,0,none⟩)) "Next") w=.ok (165,.pointer (some ⟨x,0,none⟩)) w:=by kernel_rfl
theorem MP.Jm.below{t:AB}{n:Nat}{W':World}(h:P.Jm t n W)(hb:Below W.heap.size W W'):P.Jm t n W':=by
 obtain⟨cur,q,h,lv,out,h1,h2,h3,h4,h5,h6,h7⟩:=h
 exact⟨cur,q,h,lv,out,h1,h2,h3,h4,h5,h6,h7.below hb⟩
theorem MP.E.below{W':World}(h:P.E W)(hb:Below W.heap.size W W'):P.E W':=by
 obtain⟨cur,q,lv,out,h1,h2,h3,h4⟩:=h
 exact⟨cur,q,lv,out,h1,h2,h3,h4.below hb⟩
theorem MP.No.below{W':World}(h:P.No W)(hb:Below W.heap.size W W'):P.No W':=by
 obtain⟨hc,z,cur,lv,h,q,m',h1,h2,h3⟩:=h
 exact⟨hc,z,cur,lv,h,q,m',h1,h2,h3.below hb⟩
theorem MP.J.kO{n:Nat}(hP:P.Ok)(h:P.J n W):Calls Tryz.prog 71 #[.iface 184 (.pointer (some ⟨P.sx,0,none⟩)),.iface P.tT P.vT] W fun e w'=>(e=.returned (.int .i64 0)∧P.E w')∨(e=.returned (.int .i64 6)∧P.No w'):=
 Rk (WK P.sx) hP.S.mm (fun args w=>by kernel_rfl) hP.S.me (MP.next hP) (MP.put hP) (fun _ _ _ _ h hb=>h.below hb) (fun _ _ h hb=>h.below hb) (fun _ _ h hb=>h.below hb) h
def MP.Fin(P:MP)(er:Int)(z:List AU)(m':Nat):Prop:=(er=0∧∃out,z=P.Z (P.s0++out)∧Gz P.o out∧Cl P.o P.rs.flatten out∧m'=P.m+Aa (fun l:List AB=>AA P.hh l.length) P.rs+ES P.once P.o P.hh (P.s0++out))∨(er=6∧¬P.X.cm∧L6 P.X P.xw P.bd P.n P.Z z)
def MP.G0(P:MP)(er:Int)(W:World):Prop:=∃z cur lv h q m',P.Fin er z m'∧HQ q h∧Wd P.X (P.os z cur (P.st lv h) q) m' W
def MP.G1(P:MP)(er:Int)(W:World):Prop:=∃z cur lv h q m',P.Fin er z m'∧(∀r∈q,r.op=false)∧Wd P.X (P.os z cur (P.st lv h) q) m' W
def MP.G2(P:MP)(er:Int)(W:World):Prop:=∃z m',P.Fin er z m'∧Wd P.X (P.AO++z) m' W
theorem MP.G0.below{er:Int}{W':World}(h:P.G0 er W)(hb:Below W.heap.size W W'):P.G0 er W':=by
 obtain⟨z,cur,lv,h,q,m',h1,h2,h3⟩:=h
 exact⟨z,cur,lv,h,q,m',h1,h2,h3.below hb⟩
theorem MP.No.fin(h:P.No W):P.G0 6 W:=by
 obtain⟨hc,z,cur,lv,h,q,m',h1,h2,h3⟩:=h
 exact⟨z,cur,lv,h,q,m',.inr ⟨rfl,hc,h1⟩,h2,h3⟩
theorem Ws(hs:P.St cur q [])(p:Nat):Dk cur q p=[]:=by
 unfold Dk
 cases hq:q[p]?with
 |none=>rfl
 |some r=>
  cases ho:r.op with
  |false=>simp[ho]
  |true=>exact absurd ((hs.mem (p,r.x)).2 ⟨r,hq,ho,rfl⟩) (by simp)
theorem MP.E.fin(hP:P.Ok)(h:P.E W):P.G0 0 W:=by
 obtain⟨cur,q,lv,out,hs,N6,hm,hw⟩:=h
 obtain⟨h1,h2⟩:=hm.done fun p _=>Ws hs p
 have h3:Tj q=Aa (fun l:List AB=>AA P.hh l.length) P.rs:=by
  have h4:=hs.ql
  rw[N6,List.take_length]at h4
  rw[←h4,←Ti hs.rd]
  refine dV q fun r hr=>?_
  obtain⟨p,hp,rfl⟩:=List.getElem_of_mem hr
  cases ho:q[p].op with
  |false=>rw[(hs.rd _ hr).shut ho]
  |true=>exact absurd ((hs.mem (p,q[p].x)).2 ⟨q[p],List.getElem?_eq_getElem hp,ho,rfl⟩) (by simp)
 exact⟨_,cur,lv,[],q,_,.inl ⟨rfl,out,rfl,h2,h1,by unfold MP.mm;rw[h3]⟩,hs.hq hP,hw⟩
theorem PS{h:List (Nat×Nat)}{i:Nat}{a b:Nat×Nat}(ha:h[i]?=some a)(hb:b∈h.drop i):b=a∨b∈h.drop (i+1):=by
 rw[List.drop_eq_getElem_cons (DF ha)]at hb
 rw[List.getElem?_eq_getElem (DF ha)]at ha
 injection ha with ha
 rcases List.mem_cons.1 hb with hb|hb
 ·exact .inl (hb.trans ha)
 ·exact .inr hb
theorem MP.G0.close{er:Int}(u:FrameMode)(h:P.G0 er W):CallsD Tryz.prog 114 #[.pointer (some ⟨P.sx,0,none⟩)] u W fun e u' w'=>u'=u∧(e=.returned (.tuple #[])∧P.G1 er w'):=by
 obtain⟨z,cur,lv,h,q,m',hf,hq,hw⟩:=h
 obtain⟨A,c,rfl⟩:=Iv (hw.at_ MP.PY).2
 refine(Tf (n:=h.length) (c:=c) (A:=A) (o:=P.o) (k:=P.k) (g:=P.g) (M:=P.M) (hf:=fun i=>h.getD i (0,0)) u (by have:=hq.len;omega)
  (J:=fun i w=>∃q',(∀a∈h,∃r,q'[a.1]?=some r∧r.x=a.2)∧(∀(p:Nat) (r:Sr),q'[p]?=some r→r.op=true→(p,r.x)∈h.drop i)∧Wd P.X (P.os z cur (P.st (.slice A h.length c) h) q') m' w) ?_ ?_ ?_ ?_ ⟨q,hq.m1,fun p r h1 h2=>by rw[List.drop_zero];exact hq.m2 p r h1 h2,hw⟩).mono ?_
 ·rintro i w ⟨q',_,_,h3⟩
  exact(h3.at_ MP.PY).1
 ·rintro i w ⟨q',_,_,h3⟩ hi
  have h4:=(h3.at_ MP.PY).2
  obtain⟨gl,c2,cs,e1,_,k1,_,_,_,k2⟩:=E4 h4 (by omega)
  injection e1 with e1 _ _
  obtain⟨m1,_⟩:=Bs hi
  obtain⟨m2,m3⟩:=Cp m1
  refine⟨gl,e1,?_,?_⟩
  ·rw[k1.cell,←m2,←k2,List.getElem?_take,if_pos (by omega)]
  ·rw[k1.cell,←m3,←k2,List.getElem?_take,if_pos (by omega)]
 ·rintro i w hi ⟨q',h1,h2,h3⟩
  obtain⟨m1,m2⟩:=Bs hi
  obtain⟨r,hr,hx⟩:=h1 _ m2
  have Bp:=MP.jJ (P:=P) (z:=z) (cur:=cur) (st:=P.st (.slice A h.length c) h) hr
  cases ho:r.op with
  |true=>
   rw[J2 ho]at Bp
   have h4:=Oc h3 Bp
   rw[hx]at h4
   refine h4.mono ?_
   rintro e w' ⟨he,h5⟩
   refine⟨he,q'.set (h.getD i (0,0)).1 r.shut,fun a ha=>?_,fun p r2 hp aG=>?_,?_⟩
   ·obtain⟨r3,k1,k2⟩:=h1 a ha
    by_cases he:(h.getD i (0,0)).1=a.1
    ·refine⟨r.shut,by rw[←he,List.getElem?_set,if_pos rfl,if_pos (DF hr)],?_⟩
     rw[←he,hr]at k1
     injection k1 with k1
     rw[←k2,←k1];rfl
    ·exact⟨r3,by rw[List.getElem?_set,if_neg he];exact k1,k2⟩
   ·rw[List.getElem?_set]at hp
    split at hp
    ·split at hp
     ·injection hp with hp;rw[←hp]at aG;cases aG
     ·cases hp
    ·rename_i hne
     exact(PS m1 (h2 p r2 hp aG)).elim (fun e=>absurd (by rw[←e]) hne) id
   ·rw[←MP.Pu,It (X:=P.X) (r:=r.shut) rfl]
    rw[←hx]at h5;exact h5
  |false=>
   rw[It ho]at Bp
   have h4:=Ls (h3.at_ Bp)
   rw[hx]at h4
   refine h4.mono ?_
   rintro e w' ⟨he,h5⟩
   refine⟨he,q',h1,fun p r2 hp aG=>(PS m1 (h2 p r2 hp aG)).elim (fun e=>?_) id,by rw[h5];exact h3⟩
   have e1:(h.getD i (0,0)).1=p:=by rw[←e]
   rw[e1,hp]at hr
   injection hr with hr
   rw[hr]at aG;rw[ho]at aG;cases aG
 ·rintro i w w' ⟨q',h1,h2,h3⟩ hb
  exact⟨q',h1,h2,h3.below hb⟩
 ·rintro e u' w' ⟨hu,he,q',h1,h2,h3⟩
  refine⟨hu,he,z,cur,_,h,q',m',hf,fun r hr=>?_,h3⟩
  obtain⟨p,hp,rfl⟩:=List.getElem_of_mem hr
  cases ho:q'[p].op with
  |false=>rfl
  |true=>
   have h4:=h2 p _ (List.getElem?_eq_getElem hp) ho
   rw[List.drop_length]at h4;cases h4
theorem MP.Fin.len(hP:P.Ok){er:Int}{m':Nat}(h:P.Fin er z m'):z.length=P.n:=by
 rcases h with⟨_,out,rfl,_⟩|⟨_,_,(⟨s,_,rfl⟩|⟨t,r,rfl,hl,_⟩)⟩
 ·exact hP.S.len _
 ·exact hP.S.len _
 ·exact hl
theorem MP.G1.release(hP:P.Ok){er:Int}(u:FrameMode)(h:P.G1 er W):CallsD Tryz.prog 80 #[.pointer (some ⟨P.X.p.a,0,none⟩),.pointer (some ⟨P.b,0,none⟩)] u W fun e u' w'=>u'=u∧(e=.returned (.bool true)∧P.G2 er w'):=by
 obtain⟨z,cur,lv,h,q,m',hf,hq,hw⟩:=h
 refine(II u hw MP.bI (b:=P.b) (g:=P.g) (M:=P.M) (fun k=>Iff.rfl) rfl rfl).mono ?_
 rintro e u' w' ⟨hu,he,h1⟩
 refine⟨hu,he,z,m',hf,?_⟩
 have h2:(P.os z cur (P.st lv h) q).set (P.AO.length+z.length+1) Bl=P.AO++z++(P.bx::Bl::P.st lv h::q.map (X6 P.X)):=by
  unfold MP.os;rw[CY rfl];rfl
 rw[h2]at h1
 refine h1.forget (AM hP.bx (AM ⟨rfl,rfl⟩ (AM ⟨rfl,rfl⟩ fun a ha=>?_)))
 obtain⟨r,hr,rfl⟩:=List.mem_map.1 ha
 rw[It (hq r hr)]
 exact⟨rfl,rfl⟩
end
section
variable {X : Cx} {os : List AU} {m iz ig : Nat} {W W' : World} {sx k b g M first nb hh count : Nat} {o t : AB} {lv : Value} {hp : List (Nat × Nat)} {cur l : List AB}
theorem XN(Dy:∀a∈hp,a.1<cur.length)(hH:Hp (Lt o fun p=>cur.getD p AD) (fun i=>hp.getD i (0,0)) hp.length):Hp (Lt o fun p=>(cur++[t]).getD p AD) (fun i=>hp.getD i (0,0)) hp.length:=fun j NK hj=>by
 have h1:=hH j NK hj
 have h2:=IQ NK
 have h3:=Dy _ (Bs hj).2
 have h4:=Dy _ (Bs (show par j<hp.length by omega)).2
 unfold Lt at h1⊢
 simp only[List.getD_eq_getElem?_getD]at h1 h3 h4⊢
 rw[List.getElem?_append_left h3,List.getElem?_append_left h4]
 exact h1
theorem Yy(h:Wd X os m W)(hg:os[ig]?=some (CN b g M k cur))(hs:os[iz]?=some (JA X sx k g M o lv hp))(hd:ig≠iz)(hl:hp.length=cur.length)(aI:hp.length+1≤100000)(hk:0<k∧k≤5)(hM:(cur.length+1)*k≤M∧M≤1000000)
  (hf:Dg k cur) (hH:Hp (Lt o fun p=>cur.getD p AD) (fun i=>hp.getD i (0,0)) hp.length) (Dy:∀a∈hp,a.1<cur.length) (JG:hh=AE X.sz k) (DO:0<hh) (Hz:nb=AA hh count) (FM:0<count∧count≤100000) (NL:first≤2000000)
  (hroom:X.sz+Aa AU.gw os≤X.rm) (hlen:l.length=count) (hfit:Dg k l) (Bv:Src os X.sz first k hh l) (hn:X.N+m<1000000) (ht:l[0]?=some t):
  Calls Tryz.prog 115 #[.pointer (some ⟨sx,0,none⟩),.pointer (some ⟨X.p.w,0,none⟩),.agg #[.int .i64 first,.int .i64 nb,.int .i64 k,.int .i64 count]] W fun e w'=>
   (e=.returned (.int .i64 0)∧∃x rt h' FI,gB rt X.sz l∧(rt.pos=1∧rt.count=count∧rt.first=first∧rt.k=k∧rt.h=hh)∧Hp (Lt o fun p=>(cur++[t]).getD p AD) (fun i=>h'.getD i (0,0)) h'.length∧h'.Perm (hp++[(cur.length,x)])∧
    Wd X ((os.set ig (CN b g M k (cur++[t]))).set iz (JA X sx k g M o FI h')++[DQ X.p x rt X.sz l]) (m+1) w')∨
   (e=.returned (.int .i64 6)∧¬X.cm∧∃x rt,Wd X (os++[N3 X.p x rt]) (m+1) w'):=by
 obtain⟨W1,B2⟩:∃W1,W1=W.alloc (.cells #[.int .i64 first,.int .i64 nb,.int .i64 k,.int .i64 count] 39):=⟨_,rfl⟩
 have Aj:Below W.heap.size W W1:=by rw[B2];exact(Below.refl _ _).alloc (Nat.le_refl _) _
 have BS:Row W1 W.heap.size 39 [.int .i64 first,.int .i64 nb,.int .i64 k,.int .i64 count]:=by rw[B2];exact heap_alloc_new _ _
 have Nu:=Lib.hid (Pg (h.below Aj) first nb k hh count l JG DO Hz FM.2 NL hroom)
 have Q7:Hid (∀x b' g' W2,Fc ⟨k,hh,first,nb,count,0,b',g'⟩ X.sz→Wd X (os++[DQ X.p x ⟨k,hh,first,nb,count,0,b',g'⟩ X.sz l]) m W2→Calls Tryz.prog 52 #[.pointer (some ⟨x,0,none⟩)] W2 fun e w'=>
   (e=.returned (.tuple #[.agg #[.int .i64 t.a,.int .i64 t.b,.int .i64 t.c,.int .i64 t.d,.int .i64 t.e],.bool true,.int .i64 0])∧Wd X (os++[DQ X.p x ⟨k,hh,first,nb,count,1,b',g'⟩ X.sz l]) (m+1) w')∨
   (e=.returned (.tuple #[.agg #[.int .i64 0,.int .i64 0,.int .i64 0,.int .i64 0,.int .i64 0],.bool false,.int .i64 6])∧¬X.cm∧Wd X (os++[N3 X.p x ⟨k,hh,first,nb,count,0,b',g'⟩]) (m+1) w')):=fun x b' g' W2 EC h2=>by
  have Bp:(os++[DQ X.p x ⟨k,hh,first,nb,count,0,b',g'⟩ X.sz l])[os.length]?=some (DQ X.p x ⟨k,hh,first,nb,count,0,b',g'⟩ X.sz l):=by rw[List.getElem?_append_right (Nat.le_refl _),Nat.sub_self];rfl
  refine(MD h2 Bp ⟨EC,hlen,hfit⟩ hn FM.1 (Bv.snoc _) ht).mono ?_
  rintro e w' (⟨h3,h4⟩|⟨h3,h4,h5⟩)
  ·rw[DI]at h4
   have e1:AA hh (0+1)-AA hh 0=1:=by
    have h6:=Aw hh
    have h7:=Bd DO (show 0<0+1 by omega)
    have h8:=FU DO 0 1
    rw[h6]at h8⊢;omega
   have h6:Wd X (os++[DQ X.p x ⟨k,hh,first,nb,count,1,b',g'⟩ X.sz l]) (m+(AA hh (0+1)-AA hh 0)) w':=h4
   rw[e1]at h6
   exact .inl ⟨h3,h6⟩
  ·rw[DI]at h5
   exact .inr ⟨h3,h4,h5⟩
 have hrow:∀(z:List AU) m' W',Wd X (os++z) m' W'→Row W' sx 187 (GX k g M M o lv):=fun z m' W' hw=>(hw.at_ (Ae hs)).1
 obtain⟨A,c,KG⟩:=Iv (h.at_ hs).2
 have Df:Hid (∀(z:List AU) m' W',Wd X (os++z) m' W'→Row W' sx 187 (GX k g M M o (.slice A hp.length c))):=fun z m' W' hw=>by rw[←KG];exact hrow z m' W' hw
 have ER:=Lib.hid B2
 have b0:W1.cell? ⟨W.heap.size,0,none⟩=some (.int .i64 first):=BS.cell 0
 have b1:W1.cell? ⟨W.heap.size,1,none⟩=some (.int .i64 nb):=BS.cell 1
 have b2:W1.cell? ⟨W.heap.size,2,none⟩=some (.int .i64 k):=BS.cell 2
 have b3:W1.cell? ⟨W.heap.size,3,none⟩=some (.int .i64 count):=BS.cell 3
 have HLV:=Lib.hid KG
 have HHL:=Lib.hid hl
 have OF:=Lib.hid hlen
 clear B2 Aj BS h hrow KG Hz JG hl hlen
 generalize YD:W.heap.size=s0 at*
 go_enter Tryz.func115,Tryz.ntmps115
 go_upto_region 1 with(fail)
 rw[←ER.out]
 clear ER YD
 go_wp2_with fail
 refine Nu.out.mono ?_
 rintro e w2 ⟨x,b',g',rfl,EC,h2⟩
 have gO:=Lib.hid (Q7.out x b' g' w2 EC h2)
 have De:=Lib.hid EC
 clear Nu h2 b0 b1 b2 b3 EC
 go_wp2_with fail
 refine gO.out.mono ?_
 rintro e w3 (⟨rfl,h3⟩|⟨rfl,DP,h3⟩)
 ·have h4:Wd X (os++[DQ X.p x ⟨k,hh,first,nb,count,1,b',g'⟩ X.sz l]++[AI w3.heap.size 63 (An t)]) (m+1) (w3.alloc (.cells #[.int .i64 t.a,.int .i64 t.b,.int .i64 t.c,.int .i64 t.d,.int .i64 t.e] 63)):=
   h3.new ((Below.refl _ _).alloc (Nat.le_refl _) _) (g:=w3.heap.size) (t:=63) (cs:=An t) (heap_alloc_new w3 (.cells #[.int .i64 t.a,.int .i64 t.b,.int .i64 t.c,.int .i64 t.d,.int .i64 t.e] 63)) (Nat.le_refl _)
  rw[List.append_assoc]at h4
  have Ew:=Lib.hid (J3 (Df.out _ _ _ h4))
  have H4:=Lib.hid h4
  clear h3 h4 gO
  go_wp2_with fail
  refine Ew.out.mono ?_
  rintro e w4 ⟨rfl,Ty⟩
  generalize w3.alloc (.cells #[.int .i64 t.a,.int .i64 t.b,.int .i64 t.c,.int .i64 t.d,.int .i64 t.e] 63)=w5 at*
  subst Ty
  generalize w3.heap.size=s5 at*
  have PD:=H4.out.drewN 1
  rw[show w4.drewN 1=w4.drew from rfl]at PD
  have FJ:=Df.out _ _ _ PD
  have c0:w4.drew.cell? ⟨sx,0,none⟩=some (.int .i64 k):=FJ.cell 0
  have c1:w4.drew.cell? ⟨sx,1,none⟩=some (.slice (some ⟨g,0,none⟩) M M):=FJ.cell 1
  have d0:w4.drew.cell? ⟨s5,0,none⟩=some (.int .i64 t.a):=(PD.row (AL _ _ 1)).cell 0
  have d1:w4.drew.cell? ⟨s5,1,none⟩=some (.int .i64 t.b):=(PD.row (AL _ _ 1)).cell 1
  have d2:w4.drew.cell? ⟨s5,2,none⟩=some (.int .i64 t.c):=(PD.row (AL _ _ 1)).cell 2
  have d3:w4.drew.cell? ⟨s5,3,none⟩=some (.int .i64 t.d):=(PD.row (AL _ _ 1)).cell 3
  have d4:w4.drew.cell? ⟨s5,4,none⟩=some (.int .i64 t.e):=(PD.row (AL _ _ 1)).cell 4
  have oS:(os++[DQ X.p x ⟨k,hh,first,nb,count,1,b',g'⟩ X.sz l,AI s5 63 (An t)])[ig]?=some (CN b g M k cur):=Ae hg
  have hl:=HHL.out
  have Uh:Hid (Calls Tryz.prog 112 #[.agg #[.int .i64 k,.slice (some ⟨g,0,none⟩) M M],.int .i64 (hp.length:Nat),.agg #[.int .i64 t.a,.int .i64 t.b,.int .i64 t.c,.int .i64 t.d,.int .i64 t.e]] w4.drew fun e w'=>e=.returned (.tuple #[])∧Wd X (os.set ig (CN b g M k (cur++[t]))++[DQ X.p x ⟨k,hh,first,nb,count,1,b',g'⟩ X.sz l,AI s5 63 (An t)]) (m+1) w'):=by
   have xz:=hM.1
   rw[Nat.add_mul,Nat.one_mul]at xz
   refine(TM PD oS hk hp.length t (by omega) (by rw[hl];omega) ⟨Nat.le_refl _,hM.2⟩ (by omega)).mono ?_
   rintro e w' ⟨h1,h2,_⟩
   rw[hl,Ri,Dp hg]at h2
   exact⟨h1,h2⟩
  have tE:Hid (∀w',Wd X (os.set ig (CN b g M k (cur++[t]))++[DQ X.p x ⟨k,hh,first,nb,count,1,b',g'⟩ X.sz l,AI s5 63 (An t)]) (m+1) w'→(w'.cell? ⟨sx,0,none⟩=some (.int .i64 k)∧w'.cell? ⟨sx,1,none⟩=some (.slice (some ⟨g,0,none⟩) M M)∧w'.cell? ⟨s5,0,none⟩=some (.int .i64 t.a)∧w'.cell? ⟨s5,1,none⟩=some (.int .i64 t.b)∧w'.cell? ⟨s5,2,none⟩=some (.int .i64 t.c)∧w'.cell? ⟨s5,3,none⟩=some (.int .i64 t.d)∧w'.cell? ⟨s5,4,none⟩=some (.int .i64 t.e))):=fun w' h9=>by
   have N5:=(h9.at_ (Ae (B4 hs hd))).1
   exact⟨N5.cell 0,N5.cell 1,(h9.row (AL _ _ 1)).cell 0,(h9.row (AL _ _ 1)).cell 1,(h9.row (AL _ _ 1)).cell 2,(h9.row (AL _ _ 1)).cell 3,(h9.row (AL _ _ 1)).cell 4⟩
  clear PD FJ H4 Ew hl
  go_wp2_with fail
  go_region_held3 (fun w'=>w'.cell? ⟨sx,0,none⟩=some (.int .i64 k)∧w'.cell? ⟨sx,1,none⟩=some (.slice (some ⟨g,0,none⟩) M M)∧w'.cell? ⟨s5,0,none⟩=some (.int .i64 t.a)∧w'.cell? ⟨s5,1,none⟩=some (.int .i64 t.b)∧w'.cell? ⟨s5,2,none⟩=some (.int .i64 t.c)∧w'.cell? ⟨s5,3,none⟩=some (.int .i64 t.d)∧w'.cell? ⟨s5,4,none⟩=some (.int .i64 t.e)) (first|with_reducible exact⟨c0,c1,d0,d1,d2,d3,d4⟩|with_reducible exact q7)
   ((go_at_call 112;(with_reducible refine Uh.out.mono ?_);rintro e w7 ⟨rfl,h7⟩;have q7:=tE.out w7 h7))
  have SD:(os.set ig (CN b g M k (cur++[t])))[iz]?=some (JA X sx k g M o lv hp):=B4 hs hd
  have oR:(os.set ig (CN b g M k (cur++[t])))[ig]?=some (CN b g M k (cur++[t])):=Mn os hg _
  have hl:=HHL.out
  have hlen:=OF.out
  have Dv:(cur++[t]).length=cur.length+1:=by rw[List.length_append];rfl
  have hPU:Calls Tryz.prog 131 #[.iface 184 (.pointer (some ⟨sx,0,none⟩)),.iface 202 (.agg #[.int .i64 (hp.length:Nat),.pointer (some ⟨x,0,none⟩)])] w7 fun e w'=>e=.returned (.tuple #[])∧∃h' FI,Hp (Lt o fun p=>(cur++[t]).getD p AD) (fun i=>h'.getD i (0,0)) h'.length∧h'.Perm (hp++[(cur.length,x)])∧
    Wd X ((os.set ig (CN b g M k (cur++[t]))).set iz (JA X sx k g M o FI h')++[DQ X.p x ⟨k,hh,first,nb,count,1,b',g'⟩ X.sz l,AI s5 63 (An t)]) (m+1) w':=by
   have hC:=Km (X:=X) (m:=m+1) (o:=o) (sx:=sx) (Ae (b:=[DQ X.p x ⟨k,hh,first,nb,count,1,b',g'⟩ X.sz l,AI s5 63 (An t)]) oR) (fun e=>hd e.symm) (IT (Ae SD)) hk ⟨by rw[Dv];exact hM.1,hM.2⟩ (fun u hu=>(List.mem_append.1 hu).elim (hf u) fun hu=>by rw[List.mem_singleton.1 hu];exact hfit t (List.mem_of_getElem? ht))
   have hR:oo X (os.set ig (CN b g M k (cur++[t]))++[DQ X.p x ⟨k,hh,first,nb,count,1,b',g'⟩ X.sz l,AI s5 63 (An t)]) (m+1) iz sx k g M o (cur++[t]).length hp w7:=⟨fun a ha=>by rw[Dv];have:=Dy a ha;omega,by omega,lv,by rw[EI (Ae SD)];exact h7⟩
   have hpu:=Yl (IT (Ae SD)) hR (hp.length,x) (by rw[Dv];omega) aI
   refine(XC (h:=hp) (a:=(hp.length,x)) hC (KE _ _) (by omega) (XN Dy hH) hpu).mono ?_
   rintro e w' ⟨h1,h',h2,h3,_,_,FI,h5⟩
   rw[Dp SD]at h5
   have h6:=h3.length_eq
   rw[List.length_append]at h6
   exact⟨h1,h',FI,by rw[h6];exact h2,by rw[←hl];exact h3,h5⟩
  have ow:=Lib.hid hPU
  clear hl hlen Dv hPU h7 q7 Uh tE c0 c1 d0 d1 d2 d3 d4
  go_wp2_with fail
  refine ow.out.mono ?_
  rintro e w8 ⟨rfl,h',FI,k1,k2,h8⟩
  have h9:Wd X ((os.set ig (CN b g M k (cur++[t]))).set iz (JA X sx k g M o FI h')++[DQ X.p x ⟨k,hh,first,nb,count,1,b',g'⟩ X.sz l]) (m+1) w8:=by
   have ID:Wd X (((os.set ig (CN b g M k (cur++[t]))).set iz (JA X sx k g M o FI h')++[DQ X.p x ⟨k,hh,first,nb,count,1,b',g'⟩ X.sz l])++[AI s5 63 (An t)]) (m+1) w8:=by rw[List.append_assoc];exact h8
   exact ID.forget (AM (DL _ _ _) BQ)
  have H9:=Lib.hid h9
  have jX:=Lib.hid k1
  have gQ:=Lib.hid k2
  clear h8 h9 k1 k2 ow
  go_wp2
  go_ret
  refine .inl ⟨rfl,x,⟨k,hh,first,nb,count,1,b',g'⟩,h',FI,⟨⟨De.out.k,De.out.h,De.out.sz,⟨De.out.count.1,FM.1⟩,De.out.first⟩,OF.out,hfit⟩,⟨rfl,rfl,rfl,rfl,rfl⟩,jX.out,gQ.out,H9.out⟩
 ·have H9:=Lib.hid (h3.below ((Below.refl _ _).alloc (Nat.le_refl _) (.cells #[.int .i64 0,.int .i64 0,.int .i64 0,.int .i64 0,.int .i64 0] 63)))
  have cr:=Lib.hid DP
  clear h3 gO DP
  go_wp2
  go_ret
  exact .inr ⟨rfl,cr.out,x,_,H9.out⟩
end
section
variable {os : List AU} {sz first k hh : Nat} {l : List AB} {q rb P pa pb i : Nat}
theorem Gf(i rb hh:Nat):i*(rb*hh)=i*rb*hh:=(Nat.mul_assoc _ _ _).symm
theorem GA(DO:0<hh)(a:Nat):AA hh (a*hh)=a:=by
 unfold AA
 rw[Nat.mul_mod_left,if_neg (by omega),Nat.mul_div_cancel _ DO]
theorem FR(DO:0<hh)(c a:Nat):AA hh (c-a*hh)=AA hh c-a:=by
 rcases Nat.le_total (a*hh) c with hle|hle
 ·unfold AA
  have h1:c=(c-a*hh)+hh*a:=by rw[Nat.mul_comm hh a];omega
  have h2:c%hh=(c-a*hh)%hh:=by
   conv=>lhs;rw[h1]
   exact Nat.add_mul_mod_self_left _ _ _
  have h3:c/hh=(c-a*hh)/hh+a:=by
   conv=>lhs;rw[h1]
   exact Nat.add_mul_div_left _ _ DO
  rw[h2,h3]
  generalize(c-a*hh)%hh=x
  generalize(c-a*hh)/hh=y
  split<;>omega
 ·rw[Nat.sub_eq_zero_of_le hle,Aw]
  have h1:AA hh c≤AA hh (a*hh):=Am DO hle
  rw[GA DO]at h1;omega
theorem Ua(DO:0<hh)(c b:Nat):AA hh (min (b*hh) c)=min b (AA hh c):=by
 rcases Nat.le_total (b*hh) c with hle|hle
 ·rw[Nat.min_eq_left hle,GA DO,Nat.min_eq_left]
  have h1:=Am DO hle
  rwa [GA DO]at h1
 ·rw[Nat.min_eq_right hle,Nat.min_eq_right]
  have h1:=Am DO hle
  rwa [GA DO]at h1
def PV(l:List AB)(a n:Nat):List AB:=(l.drop a).take n
theorem MN:(PV l pa pb).length=min pb (l.length-pa):=by unfold PV;rw[List.length_take,List.length_drop]
theorem FQ(DO:0<hh):AA hh (PV l (pa*hh) (pb*hh)).length=min pb (AA hh l.length-pa):=by
 rw[MN,Ua DO,FR DO]
theorem Vb{k:Nat}(h:Dg k l):Dg k (PV l pa pb):=fun u hu=>h u (List.mem_of_mem_drop (List.mem_of_mem_take hu))
theorem Src.part(hs:Src os sz first k hh l)(DO:0<hh)(pa pb:Nat):Src os sz (first+pa) k hh (PV l (pa*hh) (pb*hh)):=by
 obtain⟨j,f,h1,h2,h3⟩:=hs
 refine⟨j,f,h1,fun D hD hd i hi=>?_,fun hl=>?_⟩
 ·rw[FQ DO]at hi
  have h4:=h2 D hD hd (pa+i) (by omega)
  rw[show first+pa+i=first+(pa+i)by omega,h4]
  congr 1
  unfold Em PV
  congr 1
  rw[List.drop_take,List.take_take,List.drop_drop,show pa*hh+i*hh=(pa+i)*hh by rw[Nat.add_mul],Nat.min_eq_left]
  have h5:=Nat.mul_le_mul_right hh (show i+1≤pb by omega)
  rw[Nat.add_mul,Nat.one_mul]at h5;omega
 ·rw[FQ DO]
  rw[MN]at hl
  have h5:0<l.length:=by omega
  have h6:=h3 h5
  have h7:pa*hh<l.length:=by omega
  have h8:0<AA hh (l.length-pa*hh):=Bd DO (by omega)
  rw[FR DO]at h8
  omega
def Q5(q:Nat)(l:List AB)(P:Nat):List (List AB):=(List.range P).map fun i=>PV l (i*q) q
theorem MO:(Q5 q l P).length=P:=by unfold Q5;rw[List.length_map,List.length_range]
theorem fq(h:i<P):(Q5 q l P)[i]?=some (PV l (i*q) q):=by unfold Q5;rw[List.getElem?_map,List.getElem?_range h];rfl
theorem Sg:Q5 q l (P+1)=Q5 q l P++[PV l (P*q) q]:=by unfold Q5;rw[List.range_succ,List.map_append];rfl
theorem Nh:∀P,(Q5 q l P).flatten=l.take (P*q)
 |0=>by rw[Nat.zero_mul];rfl
 |P+1=>by
  rw[Sg,List.flatten_append,Nh P,Nat.add_mul,Nat.one_mul,List.take_add]
  simp[PV]
theorem Qf(DO:0<hh):∀P,Aa (fun l:List AB=>AA hh l.length) (Q5 (rb*hh) l P)=min (P*rb) (AA hh l.length)
 |0=>by rw[Nat.zero_mul,Nat.zero_min];rfl
 |P+1=>by
  rw[Sg,CR,Qf DO P,Gf]
  show _+AA hh (PV l (P*rb*hh) (rb*hh)).length= _
  rw[FQ DO,Nat.add_mul,Nat.one_mul]
  omega
end
def MP.A(P:MP)(i:Nat)(W:World):Prop:=∃cur q h lv,P.St cur q h∧q.length=i∧h.length=i∧(∀(p:Nat) (r:Sr),q[p]?=some r→r.op=true∧r.rt.pos=1∧cur.getD p AD::r.l.drop 1=r.l)∧Wd P.X (P.os (P.Z P.s0) cur (P.st lv h) q) (P.m+i+ES P.once P.o P.hh P.s0) W
section
variable {P : MP} {cur : List AB} {q : List Sr} {h : List (Nat × Nat)} {z : List AU} {st : AU} {W : World} {lv : Value} {m i : Nat}
theorem MP.U8{r:Sr}:P.os z cur st (q++[r])=P.os z cur st q++[X6 P.X r]:=by
 unfold MP.os;rw[List.map_append];simp
theorem MP.A.below{W':World}(h:P.A i W)(hb:Below W.heap.size W W'):P.A i W':=by
 obtain⟨cur,q,h,lv,h1,h2,h3,h4,h5⟩:=h
 exact⟨cur,q,h,lv,h1,h2,h3,h4,h5.below hb⟩
theorem G8{α:Type}{f:α→Nat}{c:Nat}:∀(l:List α) (_:∀a∈l,f a=c),Aa f l=l.length*c
 |[],_=>by rw[List.length_nil,Nat.zero_mul];rfl
 |a::l,h=>by rw[BZ,h a List.mem_cons_self,G8 l fun b hb=>h b (List.mem_cons_of_mem _ hb),List.length_cons,Nat.add_mul,Nat.one_mul,Nat.add_comm]
theorem Nj{hh:Nat}(DO:0<hh):AA hh 1=1:=by
 have h6:=Aw hh
 have h7:=Bd DO (show 0<1 by omega)
 have h8:=FU DO 0 1
 rw[h6]at h8
 rw[Nat.zero_add]at h8;omega
theorem MP.A.start(hP:P.Ok)(h:P.A P.rs.length W):∃n,P.J n W:=by
 obtain⟨cur,q,h,lv,hs,hq,hh,hl,hw⟩:=h
 have N6:=hs.ql
 rw[hq,List.take_length]at N6
 have iR:∀(p:Nat) (r:Sr),q[p]?=some r→Dk cur q p=r.l:=fun p r hr=>by
  unfold Dk;rw[hr]
  obtain⟨h1,h2,h3⟩:=hl p r hr
  show (if r.op then cur.getD p AD::r.l.drop r.rt.pos else [])=r.l
  rw[h1,h2,h3];rfl
 have ED:P.rs.flatten=(List.range P.rs.length).flatMap (Dk cur q):=by
  rw[List.flatMap_def]
  congr 1
  rw[←N6]
  refine List.ext_getElem? fun j=>?_
  rw[List.getElem?_map,List.getElem?_map,List.length_map]
  rcases Nat.lt_or_ge j q.length with hj|hj
  ·rw[List.getElem?_eq_getElem hj,List.getElem?_range hj]
   show some _=some _
   rw[iR j _ (List.getElem?_eq_getElem hj)]
  ·rw[List.getElem?_eq_none hj,List.getElem?_eq_none (by rw[List.length_range];exact hj)];rfl
 have hm:S8 P.o P.rs.length (Dk cur q) P.rs.flatten []:=S8.start (fun p hp=>by
  rw[←hq]at hp
  rw[iR p _ (List.getElem?_eq_getElem hp)]
  exact hP.asc _ (by rw[←N6];exact List.mem_map.2 ⟨_,List.getElem_mem hp,rfl⟩)) ED
 have hrd:Tj q=P.rs.length:=by
  have h1:Tj q=q.length*1:=G8 q fun r hr=>by
   obtain⟨p,hp,rfl⟩:=List.getElem_of_mem hr
   rw[(hl p _ (List.getElem?_eq_getElem hp)).2.1]
   exact Nj (hs.rd _ hr).ok.ok.h.1
  rw[h1,hq];omega
 refine⟨_,cur,q,h,lv,[],hs,hq,hm,rfl,?_⟩
 rw[List.append_nil]
 unfold MP.mm
 rw[hrd];exact hw
theorem rZ(hz:∀r∈q,r.op=true)(hb:P.bx.gr=none):Aa AU.gw (P.os z cur (P.st lv h) q)=Aa AU.gw (P.AO++z)+P.M+q.length*P.X.sz:=by
 unfold MP.os
 rw[BI,BZ,BZ,BZ]
 have h1:P.bx.gw=0:=by unfold AU.gw;rw[hb]
 have h2:Aa AU.gw (q.map (X6 P.X))=q.length*P.X.sz:=by
  rw[G8 (c:=P.X.sz) _ fun a ha=>?_,List.length_map]
  obtain⟨r,hr,rfl⟩:=List.mem_map.1 ha
  rw[J2 (hz r hr)];rfl
 rw[h1,h2]
 show _+(0+(P.M+(0+ _)))= _
 omega
theorem MP.A.add(hP:P.Ok){first nb count:Nat}{l:List AB}(hi:P.rs[i]?=some l)(hlen:l.length=count)(FM:0<count∧count≤100000)(JG:P.hh=AE P.X.sz P.k)(DO:0<P.hh)(Hz:nb=AA P.hh count)(NL:first≤2000000)(Bv:Src P.AO P.X.sz first P.k P.hh l)
  (hroom:Aa AU.gw (P.AO++P.Z P.s0)+P.M+P.rs.length*P.X.sz≤P.X.rm) (h:P.A i W):
  Calls Tryz.prog 115 #[.pointer (some ⟨P.sx,0,none⟩),.pointer (some ⟨P.X.p.w,0,none⟩),.agg #[.int .i64 first,.int .i64 nb,.int .i64 P.k,.int .i64 count]] W fun e w'=>(e=.returned (.int .i64 0)∧P.A (i+1) w')∨(e=.returned (.int .i64 6)∧P.No w'):=by
 obtain⟨cur,q,h,lv,hs,hq,ld,hl,hw⟩:=h
 have hil:=DF hi
 have hfit:=hP.fit l (List.mem_of_getElem? hi)
 obtain⟨t,ht⟩:∃t,l[0]?=some t:=⟨_,List.getElem?_eq_getElem (by omega)⟩
 have fC:∀r∈q,r.op=true:=fun r hr=>by
  obtain⟨p,hp,rfl⟩:=List.getElem_of_mem hr
  exact(hl p _ (List.getElem?_eq_getElem hp)).1
 have Hs:=rZ (P:=P) (z:=P.Z P.s0) (cur:=cur) (lv:=lv) (h:=h) fC hP.bx.1
 have JE:P.X.sz+Aa AU.gw (P.os (P.Z P.s0) cur (P.st lv h) q)≤P.X.rm:=by
  rw[Hs,hq]
  have h1:=Nat.mul_le_mul_right P.X.sz (show i+1≤P.rs.length from hil)
  rw[Nat.add_mul,Nat.one_mul]at h1;omega
 have xz:(cur.length+1)*P.k≤P.M:=by
  have h1:=Nat.mul_le_mul_right P.k (show cur.length+1≤P.rs.length by rw[hs.cl,hq];exact hil)
  exact Nat.le_trans h1 hP.M.1
 have hn:=hP.n
 have Aj:=JR P.once P.o P.hh P.s0
 have AX:=hP.bd
 have xL:P.X.N+(P.m+i+ES P.once P.o P.hh P.s0)<1000000:=by
  have h1:Tj q=i:=by
   have h1:Tj q=q.length*1:=G8 q fun r hr=>by
    obtain⟨p,hp,rfl⟩:=List.getElem_of_mem hr
    rw[(hl p _ (List.getElem?_eq_getElem hp)).2.1]
    exact Nj (hs.rd _ hr).ok.ok.h.1
   rw[h1,hq];omega
  have h2:Tj q≤Aa (fun l:List AB=>AA P.hh l.length) P.rs:=by
   have h3:=P9 hs.rd
   rw[Ti hs.rd,hs.ql]at h3
   have h4:Aa (fun l:List AB=>AA P.hh l.length) (P.rs.take q.length)≤Aa (fun l:List AB=>AA P.hh l.length) P.rs:=by
    conv=>rhs;rw[←List.take_append_drop q.length P.rs]
    rw[BI];omega
   omega
  omega
 refine(Yy hw MP.bI MP.PY (by omega) (by rw[ld,hs.cl,hq]) (by have:=hP.len;omega) hP.kk ⟨xz,hP.M.2⟩ hs.fit hs.hp hs.lt JG DO Hz FM NL JE hlen hfit (MP.src Bv) xL ht).mono ?_
 rintro e w' (⟨he,x,rt,h',FI,h1,⟨e1,e2,e3,e4,e5⟩,h2,h3,h4⟩|⟨he,DP,x,rt,h4⟩)
 ·have O4:(Sr.mk x rt l true).op=true:=rfl
  have h5:Wd P.X (P.os (P.Z P.s0) (cur++[t]) (P.st FI h') (q++[⟨x,rt,l,true⟩])) (P.m+i+ES P.once P.o P.hh P.s0+1) w':=by
   rw[MP.U8,J2 O4,←MP.Ta (P:=P) (st:=P.st lv h),←MP.Yv (P:=P) (cur:=cur)];exact h4
  have hR:P.Rd ⟨x,rt,l,true⟩:=⟨h1,by show Src P.AO P.X.sz rt.first rt.k rt.h l;rw[e3,e4,e5];exact Bv,e4,e5,⟨by show 0<rt.pos;omega,by show rt.pos≤rt.count;omega⟩,fun hf=>by cases hf⟩
  have hqa:∀p,p<q.length→(q++[⟨x,rt,l,true⟩])[p]?=q[p]?:=fun p hp=>List.getElem?_append_left hp
  have hqn:(q++[⟨x,rt,l,true⟩])[q.length]?=some ⟨x,rt,l,true⟩:=by rw[List.getElem?_append_right (Nat.le_refl _),Nat.sub_self];rfl
  have hor:∀(p:Nat) (r:Sr),(q++[⟨x,rt,l,true⟩])[p]?=some r→q[p]?=some r∨(p=q.length∧r=⟨x,rt,l,true⟩):=fun p r hr=>by
   rcases Nat.lt_trichotomy p q.length with hp|hp|hp
   ·rw[hqa p hp]at hr;exact .inl hr
   ·rw[hp,hqn]at hr;injection hr with hr;exact .inr ⟨hp,hr.symm⟩
   ·rw[List.getElem?_eq_none (by rw[List.length_append];show q.length+1≤p;omega)]at hr;cases hr
  have aS:=hs.cl
  refine .inl ⟨he,cur++[t],q++[⟨x,rt,l,true⟩],h',FI,⟨?_,?_,?_,?_,h2,?_,?_⟩,by rw[List.length_append,hq];rfl,by rw[h3.length_eq,List.length_append,ld];rfl,?_,by rw[show P.m+(i+1)+ES P.once P.o P.hh P.s0=P.m+i+ES P.once P.o P.hh P.s0+1 by omega];exact h5⟩
  ·rw[List.length_append,List.length_append,aS];rfl
  ·rw[List.length_append,List.map_append,hs.ql,hq]
   show P.rs.take i++[l]=P.rs.take (i+1)
   rw[List.take_add_one,hi];rfl
  ·exact fun u hu=>(List.mem_append.1 hu).elim (hs.fit u) fun hu=>by rw[List.mem_singleton.1 hu];exact hfit t (List.mem_of_getElem? ht)
  ·exact fun r hr=>(List.mem_append.1 hr).elim (hs.rd r) fun hr=>by rw[List.mem_singleton.1 hr];exact hR
  ·have h6:=h3.map (·.1)
   rw[h6.nodup_iff,List.map_append,List.nodup_append]
   refine⟨hs.nd,by simp,fun a ha b hb=>?_⟩
   obtain⟨c,hc,rfl⟩:=List.mem_map.1 ha
   have h7:=hs.lt c hc
   simp at hb
   rw[hb];omega
  ·intro a
   rw[h3.mem_iff,List.mem_append,List.mem_singleton,hs.mem a]
   constructor
   ·rintro(⟨r,k1,k2,k3⟩|k1)
    ·exact⟨r,by rw[hqa _ (DF k1)];exact k1,k2,k3⟩
    ·subst k1
     exact⟨⟨x,rt,l,true⟩,by show (q++[_])[cur.length]?= _;rw[aS];exact hqn,rfl,rfl⟩
   ·rintro⟨r,k1,k2,k3⟩
    rcases hor _ _ k1 with k4|⟨k4,k5⟩
    ·exact .inl ⟨r,k4,k2,k3⟩
    ·right
     rw[k5]at k3
     have k3:x=a.2:=k3
     rw[aS,←k4,k3]
  ·intro p r hr
   rcases hor p r hr with k1|⟨k1,k2⟩
   ·obtain⟨k3,k4,k5⟩:=hl p r k1
    refine⟨k3,k4,?_⟩
    have hp:p<cur.length:=by rw[aS];exact DF k1
    rw[List.getD_eq_getElem?_getD,List.getElem?_append_left hp,←List.getD_eq_getElem?_getD];exact k5
   ·subst k2
    refine⟨rfl,e1,?_⟩
    rw[k1,←aS,List.getD_eq_getElem?_getD,List.getElem?_append_right (Nat.le_refl _),Nat.sub_self]
    show t::l.drop 1=l
    rw[List.getElem?_eq_getElem (by omega)]at ht
    injection ht with ht
    rw[←ht]
    exact(List.drop_eq_getElem_cons (show 0<l.length by omega)).symm
 ·refine .inr ⟨he,DP,P.Z P.s0,cur,lv,h,q++[⟨x,rt,l,false⟩],P.m+i+ES P.once P.o P.hh P.s0+1,.inl ⟨P.s0,by omega,rfl⟩,⟨by have:=hP.len;omega,fun a ha=>?_,fun p r hr ho=>?_⟩,?_⟩
  ·obtain⟨r,k1,_,k3,_⟩:=hs.get ha
   exact⟨r,by rw[List.getElem?_append_left (DF k1)];exact k1,k3⟩
  ·rcases Nat.lt_trichotomy p q.length with hp|hp|hp
   ·rw[List.getElem?_append_left hp]at hr
    exact(hs.mem (p,r.x)).2 ⟨r,hr,ho,rfl⟩
   ·rw[hp,List.getElem?_append_right (Nat.le_refl _),Nat.sub_self]at hr
    have hr:some (Sr.mk x rt l false)=some r:=hr
    injection hr with hr
    rw[←hr]at ho;cases ho
   ·rw[List.getElem?_eq_none (by rw[List.length_append];show q.length+1≤p;omega)]at hr;cases hr
  ·rw[MP.U8,It (r:=⟨x,rt,l,false⟩) rfl];exact h4
end
section
variable {X : Cx} {AO : List AU} {o : AB} {once MH : Bool} {k hh bd xw tT fP n : Nat} {vT : Value} {Z : List AB → List AU} {js sb Qu rb Ak first nb count m PN : Nat} {s0 l : List AB} {W : World}
theorem Ik{hh:Nat}(DO:0<hh)(c:Nat):c≤AA hh c*hh:=FT DO
theorem YU (hS : bM X o once k hh bd xw tT fP vT Z n) (Lv : AO[js]? = some (AI sb 98 (Bc X.p.w k hh Qu Ak o MH bd)))
    (h : Wd X (AO ++ Z s0) (m + ES once o hh s0) W) (hok : Jr first nb k hh l X.sz) (hc : l.length = count) (Bv : Src AO X.sz first k hh l) (hrb : 0 < rb ∧ rb ≤ 1000000) (Lz : Ak ≤ 1000000)
    (uQ : ∀ i, i < PN ↔ i * rb < nb) (xu : PN ≤ min Ak nb) (UI : ∀ i, Gz o (PV l (i * (rb * hh)) (rb * hh)))
    (hroom : Aa AU.gw (AO ++ Z s0) + min Ak nb * k + PN * X.sz ≤ X.rm) (Ap : X.rm ≤ 1000000) (KJ : first + nb ≤ 2000000) (hbd : s0.length + count ≤ bd ∧ bd ≤ 100000) (hn : X.N + m + nb + bd + 3 ≤ 1000000) :
    Calls Tryz.prog 94 #[.pointer (some ⟨sb, 0, none⟩), .agg #[.int .i64 first, .int .i64 nb, .int .i64 k, .int .i64 count], .int .i64 rb, .iface tT vT] W fun e w' =>
      (e = .returned (.int .i64 0) ∧ ∃ out, Gz o out ∧ Cl o l out ∧ Wd X (AO ++ Z (s0 ++ out)) (m + nb + ES once o hh (s0 ++ out)) w') ∨
      (e = .returned (.int .i64 6) ∧ ¬ X.cm ∧ ∃ z m', L6 X xw bd n Z z ∧ Wd X (AO ++ z) m' w') := by
  have Cy := hS.len s0
  have O6 : 0 < hh ∧ hh ≤ 254 := ⟨hok.hh.1, hok.hh.2.2⟩
  have hkk := hok.kk
  have Dv : count ≤ 100000 := by rw [← hc]; exact hok.len
  have Hy : nb = AA hh count := by rw [← hc]; exact hok.bn
  have XH : nb ≤ count := by rw [Hy]; exact BM _ _
  have rG : count ≤ nb * hh := by rw [Hy]; exact Ik O6.1 _
  obtain ⟨mn, hmn⟩ : ∃ mn, min Ak nb = mn := ⟨_, rfl⟩
  rw [hmn] at xu hroom
  obtain ⟨M, hM⟩ : ∃ M, mn * k = M := ⟨_, rfl⟩
  rw [hM] at hroom
  have hMb : M ≤ 1000000 := by omega
  have mH : ∀ W z m, Wd X (AO ++ z) m W → Row W sb 98 (Bc X.p.w k hh Qu Ak o MH bd) := fun W z m h => h.row (Ae Lv)
  obtain ⟨W1, B2⟩ : ∃ W1, W1 = W.alloc (.cells #[.int .i64 first, .int .i64 nb, .int .i64 k, .int .i64 count] 39) := ⟨_, rfl⟩
  have Aj : Below W.heap.size W W1 := by rw [B2]; exact (Below.refl _ _).alloc (Nat.le_refl _) _
  have BS : Row W1 W.heap.size 39 [.int .i64 first, .int .i64 nb, .int .i64 k, .int .i64 count] := by rw [B2]; exact heap_alloc_new _ _
  have h1 : Wd X (AO ++ Z s0 ++ [AI W.heap.size 39 [.int .i64 first, .int .i64 nb, .int .i64 k, .int .i64 count]]) (m + ES once o hh s0) W1 := h.new Aj BS (Nat.le_refl _)
  have ER := Lib.hid B2
  generalize O8 : W.heap.size = fb at *
  let P0 : Nat → Nat → Nat → MP := fun b g sx => ⟨X, AO, Z, o, once, k, hh, bd, xw, tT, fP, vT, n, m, s0, AI fb 39 [.int .i64 first, .int .i64 nb, .int .i64 k, .int .i64 count], b, g, M, sx, Q5 (rb * hh) l PN⟩
  have FY : ∀ b g sx, (P0 b g sx).Ok := fun b g sx => {
    S := hS
    kk := hkk
    M := ⟨by show (Q5 (rb * hh) l PN).length * k ≤ M; rw [MO, ← hM]; exact Nat.mul_le_mul_right k xu, hMb⟩
    len := by show (Q5 (rb * hh) l PN).length ≤ 100000; rw [MO]; omega
    asc := fun l' T9 => by
      obtain ⟨i, _, rfl⟩ := List.mem_map.1 T9
      exact UI i
    fit := fun l' T9 => by
      obtain ⟨i, _, rfl⟩ := List.mem_map.1 T9
      exact Vb hok.fit
    bx := ⟨rfl, rfl⟩
    bd := by
      show s0.length + (Q5 (rb * hh) l PN).flatten.length ≤ bd
      rw [Nh, List.length_take]; omega
    n := by
      show X.N + m + Aa (fun l : List AB => AA hh l.length) (Q5 (rb * hh) l PN) + bd + 3 ≤ 1000000
      rw [Qf O6.1, hc, ← Hy]; omega }
  have Ul : Hid (Calls Tryz.prog 63 #[.pointer (some ⟨X.p.a, 0, none⟩), .int .i64 (M : Nat)] W1.drew fun e w' => ∃ b g, e = .returned (.tuple #[.pointer (some ⟨b, 0, none⟩), .int .i64 0]) ∧ Wd X (AO ++ (Z s0 ++ [AI fb 39 [.int .i64 first, .int .i64 nb, .int .i64 k, .int .i64 count], CN b g M k []])) (m + ES once o hh s0) w') := by
    have Hs : Aa AU.gw (AO ++ Z s0 ++ [AI fb 39 [.int .i64 first, .int .i64 nb, .int .i64 k, .int .i64 count]]) = Aa AU.gw (AO ++ Z s0) := by rw [CR]; rfl
    refine (RG (h1.drewN 1) M (by rw [Hs]; omega) hMb).mono ?_
    rintro e w' ⟨b, g, he, h3⟩
    refine ⟨b, g, he, ?_⟩
    have qx : (AO ++ Z s0 ++ [AI fb 39 [.int .i64 first, .int .i64 nb, .int .i64 k, .int .i64 count]] ++ [jD b g M])[(AO ++ Z s0 ++ [AI fb 39 [.int .i64 first, .int .i64 nb, .int .i64 k, .int .i64 count]]).length]? = some (jD b g M) := by rw [List.getElem?_append_right (Nat.le_refl _), Nat.sub_self]; rfl
    have h5 := h3.YO qx (a' := CN b g M k []) Pm (fun ⟨q1, ws, q2, q3⟩ => ⟨q1, ws, q2, q3, by simp [BA]⟩) (fun _ hk => hk) rfl rfl (fun _ _ => trivial)
    rw [DI, List.append_assoc, List.append_assoc] at h5
    exact h5
  have cH : Hid (∀ b g sx W W', Wd X (AO ++ (Z s0 ++ [AI fb 39 [.int .i64 first, .int .i64 nb, .int .i64 k, .int .i64 count], CN b g M k []])) (m + ES once o hh s0) W → Below W.heap.size W W' → Row W' sx 187 (GX k g M M o (.slice none 0 0)) → W.heap.size ≤ sx → (P0 b g sx).A 0 W') := fun b g sx W W' h2 hb hr hle => by
    have h3 := h2.new hb hr hle
    have qx : (AO ++ (Z s0 ++ [AI fb 39 [.int .i64 first, .int .i64 nb, .int .i64 k, .int .i64 count], CN b g M k []]) ++ [AI sx 187 (GX k g M M o (.slice none 0 0))])[(AO ++ (Z s0 ++ [AI fb 39 [.int .i64 first, .int .i64 nb, .int .i64 k, .int .i64 count], CN b g M k []])).length]? = some (AI sx 187 (GX k g M M o (.slice none 0 0))) := by rw [List.getElem?_append_right (Nat.le_refl _), Nat.sub_self]; rfl
    have h5 := h3.YO qx (a' := JA X sx k g M o (.slice none 0 0) []) Yp (fun hr => ⟨hr, World.ownsRow_nil _ _ _ _⟩) (fun b hk => hk.elim id fun e => by cases e) rfl rfl (fun _ _ => trivial)
    rw [DI] at h5
    refine ⟨[], [], [], .slice none 0 0, ⟨rfl, rfl, (fun u hu => by cases hu), (fun r hr => by cases hr), (fun j NK hj => by cases hj), by simp, fun a => ⟨fun ha => (by cases ha), fun ⟨r, hr, _⟩ => (by simp at hr)⟩⟩, rfl, rfl, (fun p r hr => by simp at hr), ?_⟩
    have e1 : (P0 b g sx).os ((P0 b g sx).Z (P0 b g sx).s0) [] ((P0 b g sx).st (.slice none 0 0) []) [] = AO ++ (Z s0 ++ [AI fb 39 [.int .i64 first, .int .i64 nb, .int .i64 k, .int .i64 count], CN b g M k []]) ++ [JA X sx k g M o (.slice none 0 0) []] := by
      show AO ++ Z s0 ++ [AI fb 39 [.int .i64 first, .int .i64 nb, .int .i64 k, .int .i64 count], CN b g M k [], JA X sx k g M o (.slice none 0 0) []] = _
      simp
    rw [e1]
    exact h5
  have Up : Hid (∀ os m W, Wd X os m W → Calls Tryz.prog 13 #[.pointer (some ⟨X.p.w, 0, none⟩)] W fun e w' => e = .returned (.pointer (some ⟨X.p.a, 0, none⟩)) ∧ w' = W) := fun os m W h => Ph h
  have L8 : Hid (∀ (z2 : List AU) (m : Nat) (W : World), Wd X (AO ++ (Z s0 ++ AI fb 39 [.int .i64 first, .int .i64 nb, .int .i64 k, .int .i64 count] :: z2)) m W →
      Row W sb 98 (Bc X.p.w k hh Qu Ak o MH bd) ∧ Row W fb 39 [.int .i64 first, .int .i64 nb, .int .i64 k, .int .i64 count]) := fun z2 m W h => ⟨mH _ _ _ h, by
      rw [← List.append_assoc] at h
      exact h.row (By (j := 0) Cy)⟩
  have Aq : Hid (∀ b g sx er w', (P0 b g sx).G2 er w' → (er = 0 ∧ ∃ out, Gz o out ∧ Cl o l out ∧ Wd X (AO ++ Z (s0 ++ out)) (m + nb + ES once o hh (s0 ++ out)) w') ∨
      (er = 6 ∧ ¬ X.cm ∧ ∃ z m', L6 X xw bd n Z z ∧ Wd X (AO ++ z) m' w')) := fun b g sx er w' h => by
    obtain ⟨z, m', h1, h2⟩ := h
    have rQ : nb ≤ PN * rb := by
      have := (uQ PN).2
      rcases Nat.lt_or_ge (PN * rb) nb with h3 | h3
      · exact absurd (this h3) (Nat.lt_irrefl _)
      · exact h3
    rcases h1 with ⟨he, out, rfl, ha, Dv, rfl⟩ | ⟨he, DP, hz⟩
    · refine .inl ⟨he, out, ha, ?_, ?_⟩
      · have h3 : Cl o (Q5 (rb * hh) l PN).flatten out := Dv
        rw [Nh, List.take_of_length_le] at h3
        · exact h3
        · rw [hc, Gf]
          exact Nat.le_trans rG (Nat.mul_le_mul_right hh rQ)
      · have h3 : Wd X (AO ++ Z (s0 ++ out)) (m + Aa (fun l : List AB => AA hh l.length) (Q5 (rb * hh) l PN) + ES once o hh (s0 ++ out)) w' := h2
        rw [Qf O6.1, hc, ← Hy, Nat.min_eq_right rQ] at h3
        exact h3
    · exact .inr ⟨he, DP, z, m', hz, h2⟩
  have tJ : Hid (∀ b g sx i W F' m6 C', i * rb < nb → F' = first + i * rb → m6 = min rb (nb - i * rb) → C' = min (rb * hh) (count - i * rb * hh) → (P0 b g sx).A i W → Calls Tryz.prog 115 #[.pointer (some ⟨sx, 0, none⟩), .pointer (some ⟨X.p.w, 0, none⟩), .agg #[.int .i64 (F' : Nat), .int .i64 (m6 : Nat), .int .i64 k, .int .i64 (C' : Nat)]] W fun e w' => ∃ er, e = .returned (.int .i64 er) ∧ ((er = 0 ∧ (P0 b g sx).A (i + 1) w') ∨ (er = 6 ∧ (P0 b g sx).No w'))) := fun b g sx i W F' m6 C' hi hF xy hC hA => by
    have hiP := (uQ i).2 hi
    have hlen : (PV l (i * rb * hh) (rb * hh)).length = C' := by rw [MN, hc, hC]
    have IB := FQ (l := l) (pa := i * rb) (pb := rb) O6.1
    rw [hlen, hc, ← Hy, ← xy] at IB
    have hC0 : 0 < C' := by
      rcases Nat.eq_zero_or_pos C' with h0 | h0
      · rw [h0, Aw] at IB; omega
      · exact h0
    have Hs := (FY b g sx)
    refine (MP.A.add (FY b g sx) (l := PV l (i * rb * hh) (rb * hh)) ?_ hlen ⟨hC0, by rw [hC]; omega⟩ hok.N7 O6.1 IB.symm (by rw [hF]; omega) ?_ ?_ hA).mono ?_
    · show (Q5 (rb * hh) l PN)[i]? = _
      rw [fq hiP, Gf]
    · rw [hF]; exact Bv.part O6.1 (i * rb) rb
    · show Aa AU.gw (AO ++ Z s0) + M + (Q5 (rb * hh) l PN).length * X.sz ≤ X.rm
      rw [MO]; exact hroom
    · rintro e w' (⟨he, h3⟩ | ⟨he, h3⟩)
      · exact ⟨0, he, .inl ⟨rfl, h3⟩⟩
      · exact ⟨6, he, .inr ⟨rfl, h3⟩⟩
  have HPT : Hid (∀ b g sx i W a F' m6 C', a = i * rb → i * rb < nb → F' = first + i * rb → m6 = min rb (nb - i * rb) → C' = min (rb * hh) (count - i * rb * hh) → (P0 b g sx).A i W → Calls Tryz.prog 95 #[.pointer (some ⟨sb, 0, none⟩), .agg #[.int .i64 first, .int .i64 nb, .int .i64 k, .int .i64 count], .int .i64 (a : Nat), .int .i64 rb] W fun e w' => e = .returned (.agg #[.int .i64 (F' : Nat), .int .i64 (m6 : Nat), .int .i64 k, .int .i64 (C' : Nat)]) ∧ (P0 b g sx).A i w') := fun b g sx i W a F' m6 C' ha hi hF xy hC hA => by
    subst ha
    obtain ⟨cur, q, h, lv, hs, hq, ld, hl, hw⟩ := hA
    have hbs := FR O6.1 count (i * rb)
    have hle : i * rb * hh ≤ count := by
      rcases Nat.lt_or_ge (i * rb * hh) count with h1 | h1
      · omega
      · rw [Nat.sub_eq_zero_of_le h1, Aw, ← Hy] at hbs; omega
    have hrow : Row W sb 98 (Bc X.p.w k hh Qu Ak o MH bd) := by
      have EV : Wd X (AO ++ Z s0 ++ ((P0 b g sx).bx :: CN b g M k cur :: (P0 b g sx).st lv h :: q.map (X6 X))) (m + i + ES once o hh s0) W := hw
      rw [List.append_assoc] at EV
      exact mH _ _ _ EV
    have lK : first ≤ 2000000 ∧ nb ≤ 2000000 ∧ count ≤ 100000000 ∧ i * rb ≤ nb ∧ rb ≤ 100000000 ∧ hh ≤ 254 := ⟨by omega, by omega, by omega, by omega, by omega, O6.2⟩
    have lI := Ro (pa := i * rb) (pb := rb) hrow lK hle
    rw [← hF, ← xy, ← hC] at lI
    unfold Cq at lI
    refine lI.mono ?_
    rintro e w' ⟨he, hb⟩
    exact ⟨he, cur, q, h, lv, hs, hq, ld, hl, hw.below hb⟩
  have cY : Hid (∀ b g sx z cur lv h q m W, Wd X ((P0 b g sx).os z cur ((P0 b g sx).st lv h) q) m W → Row W sb 98 (Bc X.p.w k hh Qu Ak o MH bd) ∧ Row W fb 39 [.int .i64 first, .int .i64 nb, .int .i64 k, .int .i64 count]) := fun b g sx z cur lv h q m W hw => by
    have EV : Wd X (AO ++ z ++ (AI fb 39 [.int .i64 first, .int .i64 nb, .int .i64 k, .int .i64 count] :: CN b g M k cur :: (P0 b g sx).st lv h :: q.map (X6 X))) m W := hw
    refine ⟨?_, EV.row (By (j := 0) rfl)⟩
    rw [List.append_assoc] at EV
    exact mH _ _ _ EV
  have nM : Hid (∀ b g sx i W, (P0 b g sx).A i W → Row W sb 98 (Bc X.p.w k hh Qu Ak o MH bd) ∧ Row W fb 39 [.int .i64 first, .int .i64 nb, .int .i64 k, .int .i64 count]) := fun b g sx i W hA => by
    obtain ⟨cur, q, h, lv, hs, hq, ld, hl, hw⟩ := hA
    exact cY.out _ _ _ _ _ _ _ _ _ _ hw
  have HRN : Hid (∀ b g sx W, (P0 b g sx).No W → Row W sb 98 (Bc X.p.w k hh Qu Ak o MH bd) ∧ Row W fb 39 [.int .i64 first, .int .i64 nb, .int .i64 k, .int .i64 count]) := fun b g sx W hA => by
    obtain ⟨_, z, cur, lv, h, q, m', _, _, hw⟩ := hA
    exact cY.out _ _ _ _ _ _ _ _ _ _ hw
  have gk : Hid (∀ b g sx i W W', (P0 b g sx).A i W → Below W.heap.size W W' → (P0 b g sx).A i W') := fun b g sx i W W' h hb => h.below hb
  have gN : Hid (∀ b g sx W, (P0 b g sx).A PN W → Calls Tryz.prog 71 #[.iface 184 (.pointer (some ⟨sx, 0, none⟩)), .iface tT vT] W fun e w' => (e = .returned (.int .i64 0) ∧ (P0 b g sx).G0 0 w') ∨ (e = .returned (.int .i64 6) ∧ (P0 b g sx).G0 6 w')) := fun b g sx W hA => by
    have hPl : (P0 b g sx).rs.length = PN := MO
    rw [← hPl] at hA
    obtain ⟨n', hJ⟩ := hA.start (FY b g sx)
    refine (hJ.kO (FY b g sx)).mono ?_
    rintro e w' (⟨he, h3⟩ | ⟨he, h3⟩)
    · exact .inl ⟨he, h3.fin (FY b g sx)⟩
    · exact .inr ⟨he, h3.fin⟩
  have gV : Hid (∀ b g sx W, (P0 b g sx).No W → (P0 b g sx).G0 6 W) := fun b g sx W h => h.fin
  have Ct : Hid (∀ b g sx er u W, (P0 b g sx).G0 er W → CallsD Tryz.prog 114 #[.pointer (some ⟨sx, 0, none⟩)] u W fun e u' w' => u' = u ∧ (e = .returned (.tuple #[]) ∧ (P0 b g sx).G1 er w')) := fun b g sx er u W h => MP.G0.close u h
  have ov : Hid (∀ b g sx er u W, (P0 b g sx).G1 er W → CallsD Tryz.prog 80 #[.pointer (some ⟨X.p.a, 0, none⟩), .pointer (some ⟨b, 0, none⟩)] u W fun e u' w' => u' = u ∧ (e = .returned (.bool true) ∧ (P0 b g sx).G2 er w')) := fun b g sx er u W h => MP.G1.release (FY b g sx) u h
  have o7 := Lib.hid h1
  have bS := Lib.hid (show Row W1 sb 98 (Bc X.p.w k hh Qu Ak o MH bd) from h1.row (Ae (Ae Lv)))
  have Kj := Lib.hid BS
  have sV := Lib.hid uQ
  have HMM := Lib.hid hM
  have HMN := Lib.hid hmn
  have hmul : (mn : Int) * (k : Int) = (M : Int) := by rw [← hM]; exact (Int.natCast_mul mn k).symm
  have IW : (if nb < Ak then (nb : Int) else (Ak : Int)) = (mn : Int) := by rw [← hmn]; split <;> omega
  have qp : (if (nb : Int) < (Ak : Int) then (nb : Int) else (Ak : Int)) = (mn : Int) := by rw [← hmn]; split <;> omega
  have AC3 : nb ≤ 100000 := by omega
  have AC5 : mn ≤ 100000 := by omega
  have pJ := Lib.hid (Up.out _ _ _ (h1.drewN 1))
  rw [show W1.drewN 1 = W1.drew from rfl] at pJ
  clear h h1 Aj BS B2 hok Bv hroom hn mH rG Hy uQ xu UI hM hmn FY hc KJ hbd cY
  go_enter_defers Tryz.func94, Tryz.ntmps94
  go_upto_region 1 with (fail)
  rw [← ER.out]
  clear ER
  have wG : IntKind.i64.wrap (M : Int) = (M : Int) := IntWalk.i64_in _ (by omega)
  have SL := Ul.out
  rw [← wG] at SL
  have nY := Lib.hid SL
  have HWM := Lib.hid wG
  have a4 : W1.drew.cell? ⟨sb, 4, none⟩ = some (.pointer (some ⟨X.p.w, 0, none⟩)) := bS.out.cell 4
  have a3 : W1.drew.cell? ⟨sb, 3, none⟩ = some (.int .i64 Ak) := bS.out.cell 3
  have a0 : W1.drew.cell? ⟨sb, 0, none⟩ = some (.int .i64 k) := bS.out.cell 0
  have b1 : W1.drew.cell? ⟨fb, 1, none⟩ = some (.int .i64 nb) := Kj.out.cell 1
  clear SL Ul wG
  go_region_held3 (fun w' => w'.cell? ⟨sb, 4, none⟩ = some (.pointer (some ⟨X.p.w, 0, none⟩)) ∧ w'.cell? ⟨sb, 3, none⟩ = some (.int .i64 Ak) ∧ w'.cell? ⟨sb, 0, none⟩ = some (.int .i64 k) ∧ w'.cell? ⟨fb, 1, none⟩ = some (.int .i64 nb)) (first | with_reducible exact ⟨a4, a3, a0, b1⟩ | with_reducible exact q4)
    (first
      | (go_at_call 13; (with_reducible refine pJ.out.mono ?_); rintro e w4 ⟨rfl, rfl⟩)
      | (go_at_call 63; (with_reducible refine nY.out.mono ?_); rintro e w4 ⟨b, g, rfl, h4⟩; obtain ⟨H4, q4⟩ : Hid (Wd X (AO ++ (Z s0 ++ [AI fb 39 [.int .i64 first, .int .i64 nb, .int .i64 k, .int .i64 count], CN b g M k []])) (m + ES once o hh s0) w4) ∧ (w4.cell? ⟨sb, 4, none⟩ = some (.pointer (some ⟨X.p.w, 0, none⟩)) ∧ w4.cell? ⟨sb, 3, none⟩ = some (.int .i64 Ak) ∧ w4.cell? ⟨sb, 0, none⟩ = some (.int .i64 k) ∧ w4.cell? ⟨fb, 1, none⟩ = some (.int .i64 nb)) := ⟨h4, (L8.out _ _ _ h4).1.cell 4, (L8.out _ _ _ h4).1.cell 3, (L8.out _ _ _ h4).1.cell 0, (L8.out _ _ _ h4).2.cell 1⟩))
  all_goals
    rw [HWM.out]
    have tN := Lib.hid (Up.out _ _ _ h4)
    have s4 : w4.cell? ⟨sb, 4, none⟩ = some (.pointer (some ⟨X.p.w, 0, none⟩)) := q4.1
    clear a4 a3 a0 b1 q4 nY pJ bS Kj o7 h4
    go_wp2_with fail
    refine tN.out.mono ?_
    rintro e w5 ⟨rfl, EU⟩
    subst EU
    clear tN s4
    have uV := H4.out.drewN 1
    rw [show w5.drewN 1 = w5.drew from rfl] at uV
    have Cc := Lib.hid (L8.out _ _ _ uV)
    have ug : Hid (Row w5.drew b 126 [.slice (some ⟨g, 0, none⟩) M M]) := by
      have h6 : Wd X (AO ++ Z s0 ++ [AI fb 39 [.int .i64 first, .int .i64 nb, .int .i64 k, .int .i64 count], CN b g M k []]) (m + ES once o hh s0) w5.drew := by rw [List.append_assoc]; exact uV
      exact (h6.at_ (By (j := 1) Cy)).1
    have EX : Below w5.heap.size w5 ((w5.alloc (.cells #[.int .i64 k, .slice (some ⟨g, 0, none⟩) M M, .int .i64 o.a, .int .i64 o.b, .int .i64 o.c, .int .i64 o.d, .int .i64 o.e, .slice none 0 0] 187)).drew) := ((Below.refl w5.heap.size w5).alloc (Nat.le_refl _) _).drew
    have hrw := Row.drewN (heap_alloc_new w5 (.cells #[.int .i64 k, .slice (some ⟨g, 0, none⟩) M M, .int .i64 o.a, .int .i64 o.b, .int .i64 o.c, .int .i64 o.d, .int .i64 o.e, .slice none 0 0] 187) : Row _ _ 187 (GX k g M M o (.slice none 0 0))) 1
    rw [show ∀ w : World, w.drewN 1 = w.drew from fun _ => rfl] at hrw
    have HA5 := Lib.hid (cH.out b g w5.heap.size w5 _ H4.out EX hrw (Nat.le_refl _))
    have mF : ∀ W, (Row W sb 98 (Bc X.p.w k hh Qu Ak o MH bd) ∧ Row W fb 39 [.int .i64 first, .int .i64 nb, .int .i64 k, .int .i64 count]) → Row W b 126 [.slice (some ⟨g, 0, none⟩) M M] → (W.cell? ⟨sb, 0, none⟩ = some (.int .i64 k) ∧ W.cell? ⟨b, 0, none⟩ = some (.slice (some ⟨g, 0, none⟩) M M) ∧ W.cell? ⟨sb, 5, none⟩ = some (.int .i64 o.a) ∧ W.cell? ⟨sb, 6, none⟩ = some (.int .i64 o.b) ∧ W.cell? ⟨sb, 7, none⟩ = some (.int .i64 o.c) ∧ W.cell? ⟨sb, 8, none⟩ = some (.int .i64 o.d) ∧ W.cell? ⟨sb, 9, none⟩ = some (.int .i64 o.e)) := fun W h1 h2 => ⟨h1.1.cell 0, h2.cell 0, h1.1.cell 5, h1.1.cell 6, h1.1.cell 7, h1.1.cell 8, h1.1.cell 9⟩
    have s1 := mF _ Cc.out ug.out
    have DS : Below w5.heap.size w5.drew ((w5.alloc (.cells #[.int .i64 k, .slice (some ⟨g, 0, none⟩) M M, .int .i64 o.a, .int .i64 o.b, .int .i64 o.c, .int .i64 o.d, .int .i64 o.e, .slice none 0 0] 187)).drew) := by
      have h7 : Below w5.drew.heap.size w5.drew (w5.drew.alloc (.cells #[.int .i64 k, .slice (some ⟨g, 0, none⟩) M M, .int .i64 o.a, .int .i64 o.b, .int .i64 o.c, .int .i64 o.d, .int .i64 o.e, .slice none 0 0] 187)) := (Below.refl _ _).alloc (Nat.le_refl _) _
      exact h7
    have s2 := mF _ (L8.out _ _ _ (H4.out.below EX)) (ug.out.below DS ug.out.lt)
    clear mF EX hrw uV DS Cc ug
    go_wp2_with fail
    go_region_held3 (fun W => W.cell? ⟨sb, 0, none⟩ = some (.int .i64 k) ∧ W.cell? ⟨b, 0, none⟩ = some (.slice (some ⟨g, 0, none⟩) M M) ∧ W.cell? ⟨sb, 5, none⟩ = some (.int .i64 o.a) ∧ W.cell? ⟨sb, 6, none⟩ = some (.int .i64 o.b) ∧ W.cell? ⟨sb, 7, none⟩ = some (.int .i64 o.c) ∧ W.cell? ⟨sb, 8, none⟩ = some (.int .i64 o.d) ∧ W.cell? ⟨sb, 9, none⟩ = some (.int .i64 o.e)) (first | with_reducible exact s1 | with_reducible exact s2) (fail)
    clear s1 s2 H4
    generalize (w5.alloc (.cells #[.int .i64 k, .slice (some ⟨g, 0, none⟩) M M, .int .i64 o.a, .int .i64 o.b, .int .i64 o.c, .int .i64 o.d, .int .i64 o.e, .slice none 0 0] 187)).drew = w6 at *
    generalize w5.heap.size = sx at *
    have yt := Lib.hid (HPT.out b g sx)
    have tI := Lib.hid (tJ.out b g sx)
    have nL := Lib.hid (nM.out b g sx)
    have yl := Lib.hid (HRN.out b g sx)
    have yu := Lib.hid (gN.out b g sx)
    have zL := Lib.hid (gV.out b g sx)
    have nk := Lib.hid (Ct.out b g sx)
    have nJ := Lib.hid (ov.out b g sx)
    have gW := Lib.hid (Aq.out b g sx)
    have zV := Lib.hid (gk.out b g sx)
    clear HPT tJ nM HRN gN gV Ct ov Aq cH Up L8 gk
    generalize (P0 b g sx).A = FA at *
    generalize (P0 b g sx).No = FN at *
    generalize (P0 b g sx).G0 = F0 at *
    generalize (P0 b g sx).G1 = F1 at *
    generalize (P0 b g sx).G2 = F2 at *
    clear P0
    go_wp2_with fail
    go_loopw [12] (fun iv wr => ∃ (i a : Nat), iv = .int .i64 (a : Int) ∧ Hid (a = i * rb) ∧ a ≤ 1100000 ∧ i ≤ PN ∧ Hid (FA i wr)) (fun iv _ => nb - (intOf iv).toNat)
    case atStart => exact ⟨0, 0, rfl, by unfold Hid; simp, by omega, by omega, HA5⟩
    case round =>
      obtain ⟨i, a, rfl, gj, YC, hiP, So⟩ := hrel
      clear HA5
      have hR := nL.out i wr So.out
      have t1 : wr.cell? ⟨fb, 1, none⟩ = some (.int .i64 nb) := hR.2.cell 1
      by_cases hlt : a < nb
      · have hi : i * rb < nb := by rw [← gj.out]; exact hlt
        obtain ⟨F', hF⟩ : ∃ F', F' = first + i * rb := ⟨_, rfl⟩
        obtain ⟨N', hN⟩ : ∃ N', N' = min rb (nb - i * rb) := ⟨_, rfl⟩
        obtain ⟨C', hC⟩ : ∃ C', C' = min (rb * hh) (count - i * rb * hh) := ⟨_, rfl⟩
        have mJ : FA i wr.drew := zV.out i wr _ So.out (AH (Below.refl _ _))
        have sY := Lib.hid (yt.out i wr.drew a F' N' C' gj.out hi hF hN hC mJ)
        have tK := Lib.hid (fun W => tI.out i W F' N' C' hi hF hN hC)
        have xN : i + 1 ≤ PN := (sV.out i).2 hi
        have zO : Hid (∀ W, FA i W → (W.cell? ⟨sb, 4, none⟩ = some (.pointer (some ⟨X.p.w, 0, none⟩)) ∧ W.cell? ⟨fb, 0, none⟩ = some (.int .i64 first) ∧ W.cell? ⟨fb, 1, none⟩ = some (.int .i64 nb) ∧ W.cell? ⟨fb, 2, none⟩ = some (.int .i64 k) ∧ W.cell? ⟨fb, 3, none⟩ = some (.int .i64 count))) := fun W h => by
          have h1 := nL.out i W h
          exact ⟨h1.1.cell 4, h1.2.cell 0, h1.2.cell 1, h1.2.cell 2, h1.2.cell 3⟩
        have HCE : Hid (∀ (er : Int) W, ((er = 0 ∧ FA (i + 1) W) ∨ (er = 6 ∧ FN W)) → (W.cell? ⟨sb, 4, none⟩ = some (.pointer (some ⟨X.p.w, 0, none⟩)) ∧ W.cell? ⟨fb, 0, none⟩ = some (.int .i64 first) ∧ W.cell? ⟨fb, 1, none⟩ = some (.int .i64 nb) ∧ W.cell? ⟨fb, 2, none⟩ = some (.int .i64 k) ∧ W.cell? ⟨fb, 3, none⟩ = some (.int .i64 count))) := fun er W h => by
          rcases h with ⟨_, h⟩ | ⟨_, h⟩
          · have h1 := nL.out (i + 1) W h
            exact ⟨h1.1.cell 4, h1.2.cell 0, h1.2.cell 1, h1.2.cell 2, h1.2.cell 3⟩
          · have h1 := yl.out W h
            exact ⟨h1.1.cell 4, h1.2.cell 0, h1.2.cell 1, h1.2.cell 2, h1.2.cell 3⟩
        have s3 := zO.out _ mJ
        clear hF hN hC hR mJ
        go_wp2_with fail
        go_region_held3 (fun W => W.cell? ⟨sb, 4, none⟩ = some (.pointer (some ⟨X.p.w, 0, none⟩)) ∧ W.cell? ⟨fb, 0, none⟩ = some (.int .i64 first) ∧ W.cell? ⟨fb, 1, none⟩ = some (.int .i64 nb) ∧ W.cell? ⟨fb, 2, none⟩ = some (.int .i64 k) ∧ W.cell? ⟨fb, 3, none⟩ = some (.int .i64 count)) (first | with_reducible exact s3 | with_reducible exact q5 | with_reducible exact q6)
          (first
            | (go_at_call 95; (with_reducible refine sY.out.mono ?_); rintro e w7 ⟨rfl, h7⟩; have q5 := zO.out w7 h7; have q6 := q5; have H7 := Lib.hid (tK.out w7 h7))
            | (go_at_call 115; (with_reducible refine H7.out.mono ?_); rintro e w8 ⟨er, rfl, h8⟩; have q6 := HCE.out er w8 h8; have q5 := q6))
        all_goals
          have H8 := Lib.hid h8
          clear s3 q5 q6 H7 sY tK zO HCE h7 h8 So t1
          rcases H8.out with ⟨rfl, h9⟩ | ⟨rfl, h9⟩
          · have H9 := Lib.hid h9
            clear h9 H8
            have Ea : Hid (a + rb = (i + 1) * rb) := by unfold Hid; rw [Nat.add_mul, Nat.one_mul, ← gj.out]
            go_wp2
            go_roundw
            case rel => exact ⟨i + 1, a + rb, by go_num, Ea, by omega, xN, H9⟩
            case measure => simp [intOf]; omega
          · have Xy := Lib.hid (zL.out _ h9)
            clear h9 H8
            go_wp2
            refine leaves_cons (f := 114) (args := #[.pointer (some ⟨sx, 0, none⟩)]) (by simp) (by simp [go_sem]) ?_
            refine (nk.out 6 _ _ Xy.out).mono ?_
            rintro e u1 Bn ⟨rfl, rfl, E5⟩
            refine leaves_cons (f := 80) (args := #[.pointer (some ⟨X.p.a, 0, none⟩), .pointer (some ⟨b, 0, none⟩)]) (by simp [settle]) (by simp [go_sem]) ?_
            refine (nJ.out 6 _ _ E5).mono ?_
            rintro e u2 X5 ⟨rfl, rfl, K6⟩
            refine ⟨.int .i64 6, by simp [results, Tryz.results94, go_sem], ?_⟩
            rcases gW.out 6 X5 K6 with ⟨OD, Kf⟩ | ⟨OD, Kf⟩
            · exact absurd OD (by decide)
            · exact .inr ⟨rfl, Kf⟩
      · have hnP : i = PN := by
          rcases Nat.lt_or_ge i PN with h1 | h1
          · exact absurd (by rw [gj.out]; exact (sV.out i).1 h1) hlt
          · omega
        subst hnP
        have HPX := Lib.hid (yu.out wr So.out)
        clear So hR
        go_wp2_with fail
        refine HPX.out.mono ?_
        rintro e w9 (⟨rfl, h9⟩ | ⟨rfl, h9⟩)
        · have Xy := Lib.hid h9
          clear h9
          go_wp2
          refine leaves_cons (f := 114) (args := #[.pointer (some ⟨sx, 0, none⟩)]) (by simp) (by simp [go_sem]) ?_
          refine (nk.out 0 _ _ Xy.out).mono ?_
          rintro e u1 Bn ⟨rfl, rfl, E5⟩
          refine leaves_cons (f := 80) (args := #[.pointer (some ⟨X.p.a, 0, none⟩), .pointer (some ⟨b, 0, none⟩)]) (by simp [settle]) (by simp [go_sem]) ?_
          refine (nJ.out 0 _ _ E5).mono ?_
          rintro e u2 X5 ⟨rfl, rfl, K6⟩
          refine ⟨.int .i64 0, by simp [results, Tryz.results94, go_sem], ?_⟩
          rcases gW.out 0 X5 K6 with ⟨OD, Kf⟩ | ⟨OD, Kf⟩
          · exact .inl ⟨rfl, Kf⟩
          · exact absurd OD (by decide)
        · have Xy := Lib.hid h9
          clear h9
          go_wp2
          refine leaves_cons (f := 114) (args := #[.pointer (some ⟨sx, 0, none⟩)]) (by simp) (by simp [go_sem]) ?_
          refine (nk.out 6 _ _ Xy.out).mono ?_
          rintro e u1 Bn ⟨rfl, rfl, E5⟩
          refine leaves_cons (f := 80) (args := #[.pointer (some ⟨X.p.a, 0, none⟩), .pointer (some ⟨b, 0, none⟩)]) (by simp [settle]) (by simp [go_sem]) ?_
          refine (nJ.out 6 _ _ E5).mono ?_
          rintro e u2 X5 ⟨rfl, rfl, K6⟩
          refine ⟨.int .i64 6, by simp [results, Tryz.results94, go_sem], ?_⟩
          rcases gW.out 6 X5 K6 with ⟨OD, Kf⟩ | ⟨OD, Kf⟩
          · exact absurd OD (by decide)
          · exact .inr ⟨rfl, Kf⟩
end
section
variable {X : Cx} {os os' : List AU} {m : Nat} {W : World} {G : Nat → Prop} {D : St} {A : Ar} {S : Sp}
theorem iB{α:Type}{R:α→α→Prop}{l:List α}(h:∀(i j:Nat) (a b:α),l[i]?=some a→l[j]?=some b→i≠j→R a b):l.Pairwise R:=by
 refine List.pairwise_iff_getElem.2 fun i j hi hj Fa=>h i j _ _ (List.getElem?_eq_getElem hi) (List.getElem?_eq_getElem hj) (by omega)
theorem iA{α:Type}{R:α→α→Prop}(hs:∀a b,R a b→R b a){l:List α}(h:l.Pairwise R)(i j:Nat)(a b:α)(ha:l[i]?=some a)(hb:l[j]?=some b)(Fa:i≠j):R a b:=by
 have h1:=List.pairwise_iff_getElem.1 h
 obtain⟨hi,e1⟩:=List.getElem?_eq_some_iff.1 ha
 obtain⟨hj,e2⟩:=List.getElem?_eq_some_iff.1 hb
 rcases Nat.lt_or_gt_of_ne Fa with h2|h2
 ·have h3:=h1 i j hi hj h2;rwa [e1,e2]at h3
 ·have h3:=h1 j i hj hi h2;rw[e1,e2]at h3;exact hs _ _ h3
theorem Oi{α:Type}{f:α→Nat}{l l':List α}(h:l.Perm l'):Aa f l=Aa f l':=(h.map f).sum_nat
theorem Fb.perm (h : Fb X os m W G D A S) (hp : os'.Perm os) : Fb X os' m W G D A S := by
  have OR : ∀ (i : Nat) (a : AU), os'[i]? = some a → ∃ j : Nat, os[j]? = some a := fun i a hi => by
    obtain ⟨j, hj, e⟩ := List.getElem_of_mem (hp.mem_iff.1 (List.mem_of_getElem? hi))
    exact ⟨j, by rw [List.getElem?_eq_getElem hj, e]⟩
  have wk : ∀ (i : Nat) (a : AU), os[i]? = some a → ∃ j : Nat, os'[j]? = some a := fun i a hi => by
    obtain ⟨j, hj, e⟩ := List.getElem_of_mem (hp.mem_iff.2 (List.mem_of_getElem? hi))
    exact ⟨j, by rw [List.getElem?_eq_getElem hj, e]⟩
  have EP : ∀ a b : AU, (∀ k, a.K k → ¬ b.K k) → ∀ k, b.K k → ¬ a.K k := fun a b YC k hb ha => YC k ha hb
  have EB : ∀ a b : AU, (∀ z, En a.ex z → ¬ En b.ex z) → ∀ z, En b.ex z → ¬ En a.ex z := fun a b YC k hb ha => YC k ha hb
  exact { h with
    used := by rw [Oi hp]; exact h.used
    ok := fun i a hi => by obtain ⟨j, hj⟩ := OR i a hi; exact h.ok j a hj
    st := fun i a b n hi hg => by obtain ⟨j, hj⟩ := OR i a hi; exact h.st j a b n hj hg
    mem := fun i a hi => by obtain ⟨j, hj⟩ := OR i a hi; exact h.mem j a hj
    Nb := fun i a hi => by obtain ⟨j, hj⟩ := OR i a hi; exact h.Nb j a hj
    apart := iA EP ((hp.pairwise_iff (fun {a b} => EP a b)).2 (iB h.apart))
    exa := iA EB ((hp.pairwise_iff (fun {a b} => EB a b)).2 (iB h.exa))
    exs := fun i a hi => by obtain ⟨j, hj⟩ := OR i a hi; exact h.exs j a hj
    free := fun z => by
      rw [h.free z]
      refine ⟨fun ⟨h1, h2⟩ => ⟨h1, fun i a hi => ?_⟩, fun ⟨h1, h2⟩ => ⟨h1, fun i a hi => ?_⟩⟩
      · obtain ⟨j, hj⟩ := OR i a hi; exact h2 j a hj
      · obtain ⟨j, hj⟩ := wk i a hi; exact h2 j a hj
    sum := by rw [Oi hp]; exact h.sum }
theorem Wd.perm(h:Wd X os m W)(hp:os'.Perm os):Wd X os' m W:=by
 obtain⟨G,D,A,S,h⟩:=h
 exact⟨G,D,A,S,h.perm hp⟩
theorem Wd.front{a z:List AU}{x:AU}(h:Wd X (a++z++[x]) m W):Wd X (a++[x]++z) m W:=by
 refine h.perm ?_
 rw[List.append_assoc,List.append_assoc]
 exact List.Perm.append_left a (List.perm_append_comm)
end
structure JP where
 X:Cx
 AO:List AU
 Z:List AB→List AU
 o:AB
 once:Bool
 k:Nat
 hh:Nat
 bd:Nat
 xw:Nat
 tT:Nat
 fP:Nat
 vT:Value
 n:Nat
 m:Nat
 first:Nat
 nb:Nat
 count:Nat
 rb:Nat
 Ak:Nat
 L:Nat
 l:List AB
structure JP.Ok (P:JP):Prop where
 S:bM P.X P.o P.once P.k P.hh P.bd P.xw P.tT P.fP P.vT P.Z P.n
 f:Jr P.first P.nb P.k P.hh P.l P.X.sz
 c:P.l.length=P.count
 src:Src P.AO P.X.sz P.first P.k P.hh P.l
 rb:0<P.rb∧P.rb≤1000000
 Ak:0<P.Ak∧P.Ak≤1000000
 L:P.rb*P.Ak=P.L
 fst:P.first+P.nb≤2000000
 asc:TG P.o (P.rb*P.hh) P.l
 room:∀s,s.length≤P.bd→Aa AU.gw (P.AO++P.Z s)+P.Ak*P.k+P.Ak*P.X.sz≤P.X.rm
 rm:P.X.rm≤1000000
 bd:P.count≤P.bd∧P.bd≤100000
 n:P.X.N+P.m+P.nb+P.bd+3≤1000000
structure JP.mw (P:JP) (i:Nat) (s:List AB):Prop where
 len:s.length=min (i*(P.L*P.hh)) P.count
 asc:TG P.o (P.L*P.hh) s
 cl:Cl P.o (P.l.take (i*(P.L*P.hh))) s
def JP.A(P:JP)(i:Nat)(W:World):Prop:=∃s,P.mw i s∧Wd P.X (P.AO++P.Z s) (P.m+min (i*P.L) P.nb+ES P.once P.o P.hh s) W
def JP.No(P:JP)(W:World):Prop:=¬P.X.cm∧∃z m',L6 P.X P.xw P.bd P.n P.Z z∧Wd P.X (P.AO++z) m' W
section
variable {P : JP} {i : Nat} {W W' : World}
theorem JP.A.below(h:P.A i W)(hb:Below W.heap.size W W'):P.A i W':=by
 obtain⟨s,h1,h2⟩:=h
 exact⟨s,h1,h2.below hb⟩
theorem fy{o:AB}{q:Nat}{l:List AB}(h:TG o q l)(a j n:Nat):Gz o (PV (PV l (a*q) n) (j*q) q):=by
 have h1:=h (a+j)
 have h2:PV (PV l (a*q) n) (j*q) q=(((l.drop ((a+j)*q)).take q)).take (n-j*q):=by
  unfold PV
  rw[List.drop_take,List.drop_drop,List.take_take,List.take_take,Nat.add_mul,Nat.min_comm]
 rw[h2]
 exact h1.sublist (List.take_sublist _ _)
theorem Ni{rb nb:Nat}(h:0<rb)(i:Nat):i<(nb+rb-1)/rb↔i*rb<nb:=by
 rw[Nat.lt_div_iff_mul_lt h];omega
theorem JP.A.merge(hP:P.Ok){MH:Bool}{js sb Qu:Nat}(Lv:P.AO[js]?=some (AI sb 98 (Bc P.X.p.w P.k P.hh Qu P.Ak P.o MH P.bd)))(hi:i*P.L<P.nb){F' N' C':Nat}(hF:F'=P.first+i*P.L)(hN:N'=min P.L (P.nb-i*P.L))(hC:C'=min (P.L*P.hh) (P.count-i*P.L*P.hh))(h:P.A i W):
  Calls Tryz.prog 94 #[.pointer (some ⟨sb,0,none⟩),.agg #[.int .i64 (F':Nat),.int .i64 (N':Nat),.int .i64 P.k,.int .i64 (C':Nat)],.int .i64 P.rb,.iface P.tT P.vT] W fun e w'=>∃er,e=.returned (.int .i64 er)∧((er=0∧P.A (i+1) w')∨(er=6∧P.No w')):=by
 obtain⟨s,hp,hw⟩:=h
 have O6:=hP.f.hh.1
 have Hy:P.nb=AA P.hh P.count:=by rw[←hP.c];exact hP.f.bn
 have hlen:(PV P.l (i*P.L*P.hh) (P.L*P.hh)).length=C':=by rw[MN,hP.c,hC]
 have IB:=FQ (l:=P.l) (pa:=i*P.L) (pb:=P.L) O6
 rw[hlen,hP.c,←Hy,←hN]at IB
 have hle:i*P.L*P.hh<P.count:=by
  have h1:=FR O6 P.count (i*P.L)
  rw[←Hy]at h1
  rcases Nat.lt_or_ge (i*P.L*P.hh) P.count with h2|h2
  ·exact h2
  ·rw[Nat.sub_eq_zero_of_le h2,Aw]at h1;omega
 have cV:i*(P.L*P.hh)=i*P.L*P.hh:=Gf _ _ _
 have O4:s.length=i*(P.L*P.hh):=by rw[hp.len,cV];omega
 have hbd:=hP.bd
 have hcf:=hP.f.len
 rw[hP.c]at hcf
 have lP:P.nb≤P.count:=by rw[Hy];exact BM _ _
 have hn:=hP.n
 have KJ:=hP.fst
 have hL:=hP.L
 have hrb:=hP.rb
 have xx:(N'+P.rb-1)/P.rb≤P.Ak:=by
  have h1:¬P.Ak<(N'+P.rb-1)/P.rb:=fun h=>by
   have h2:=(Ni hrb.1 _).1 h
   rw[Nat.mul_comm,hL]at h2;omega
  omega
 have AE2:(N'+P.rb-1)/P.rb≤N':=by
  have h1:¬N'<(N'+P.rb-1)/P.rb:=fun h=>by
   have h2:=(Ni hrb.1 _).1 h
   have h3:=Nat.le_mul_of_pos_right N' hrb.1
   omega
  omega
 have hroom:=hP.room s (by omega)
 have BS:min P.Ak N'*P.k≤P.Ak*P.k:=Nat.mul_le_mul_right _ (Nat.min_le_left _ _)
 have Ap:=Nat.mul_le_mul_right P.X.sz xx
 have Tz:Wd P.X (P.AO++P.Z s) ((P.m+i*P.L)+ES P.once P.o P.hh s) W:=by
  rw[Nat.min_eq_left (by omega)]at hw;exact hw
 refine(YU (PN:=(N'+P.rb-1)/P.rb) (s0:=s) hP.S Lv Tz ⟨hP.f.kk,hP.f.hh,hP.f.N7,by rw[hlen];exact IB.symm,by rw[hlen];omega,by omega,Vb hP.f.fit⟩ hlen (by rw[hF];exact hP.src.part O6 (i*P.L) P.L) hrb hP.Ak.2 (fun j=>Ni hrb.1 j) (by omega) (fun j=>?_) (by omega) hP.rm (by omega) ⟨?_,hbd.2⟩ (by omega)).mono ?_
 ·have h3:i*P.L*P.hh=(i*P.Ak)*(P.rb*P.hh):=by
   rw[←hL];simp only[Nat.mul_comm,Nat.mul_left_comm]
  rw[h3];exact fy hP.asc _ _ _
 ·rw[O4,cV,hC];omega
 ·rintro e w' (⟨he,out,h1,h2,h3⟩|⟨he,DP,z,m',hz,h3⟩)
  ·have N7:=h2.len
   rw[hlen]at N7
   have iS:(i+1)*(P.L*P.hh)=i*(P.L*P.hh)+P.L*P.hh:=by rw[Nat.add_mul,Nat.one_mul]
   refine⟨0,he,.inl ⟨rfl,s++out,⟨?_,?_,?_⟩,?_⟩⟩
   ·rw[List.length_append,←N7,O4,iS,cV,hC];omega
   ·exact Sh hp.asc O4 h1 (by rw[←N7,hC];omega)
   ·rw[iS,List.take_add]
    refine bD hp.cl ?_
    rw[cV];exact h2
   ·have h4:P.m+i*P.L+N'=P.m+min ((i+1)*P.L) P.nb:=by
     rw[Nat.add_mul,Nat.one_mul];omega
    rw[h4]at h3;exact h3
  ·exact⟨6,he,.inr ⟨rfl,DP,z,m',hz,h3⟩⟩
end
section
variable {P : JP} {W : World} {js sb Qu : Nat} {MH : Bool}
theorem Wy{X:Cx}{first nb k count rb Ak hh bd fb L:Nat}{o:AB}{once:Bool}{FA:Nat→World→Prop}{FN:World→Prop}{tT:TypeId}{vT:Value}(hb:first≤2000000∧nb≤100000∧count≤100000∧rb≤1000000∧Ak≤1000000∧0<L∧L≤100000000∧hh≤254)(hL:rb*Ak=L)
  (YG:∀i W,FA i W→Row W sb 98 (Bc X.p.w k hh Qu Ak o once bd)∧Row W fb 39 [.int .i64 first,.int .i64 nb,.int .i64 k,.int .i64 count]) (gk:∀i W W',FA i W→Below W.heap.size W W'→FA i W')
  (nV:∀i,i*L<nb→i*L*hh≤count)
  (HMG:∀i W F' N' C',i*L<nb→F'=first+i*L→N'=min L (nb-i*L)→C'=min (L*hh) (count-i*L*hh)→FA i W→Calls Tryz.prog 94 #[.pointer (some ⟨sb,0,none⟩),.agg #[.int .i64 (F':Nat),.int .i64 (N':Nat),.int .i64 k,.int .i64 (C':Nat)],.int .i64 rb,.iface tT vT] W fun e w'=>∃er,e=.returned (.int .i64 er)∧((er=0∧FA (i+1) w')∨(er=6∧FN w')))
  (O8:W.heap.size=fb) (h:FA 0 (W.alloc (.cells #[.int .i64 first,.int .i64 nb,.int .i64 k,.int .i64 count] 39))):
  Calls Tryz.prog 77 #[.pointer (some ⟨sb,0,none⟩),.agg #[.int .i64 first,.int .i64 nb,.int .i64 k,.int .i64 count],.int .i64 rb,.iface tT vT] W fun e w'=>
   (e=.returned (.int .i64 0)∧∃i,nb≤i*L∧FA i w')∨(e=.returned (.int .i64 6)∧FN w'):=by
 obtain⟨W1,B2⟩:∃W1,W1=W.alloc (.cells #[.int .i64 first,.int .i64 nb,.int .i64 k,.int .i64 count] 39):=⟨_,rfl⟩
 rw[←B2]at h
 have ER:=Lib.hid B2
 have HH:=Lib.hid h
 have Dr:=Lib.hid (YG 0 W1 h)
 have hmul:(rb:Int)*(Ak:Int)=(L:Int):=by rw[←hL];exact(Int.natCast_mul rb Ak).symm
 have a3:W1.cell? ⟨sb,3,none⟩=some (.int .i64 Ak):=Dr.out.1.cell 3
 have yh:=Lib.hid YG
 have zU:=Lib.hid gk
 have zD:=Lib.hid HMG
 have zG:=Lib.hid nV
 have HL:=Lib.hid hL
 clear B2 h YG gk HMG hL nV
 go_enter Tryz.func77,Tryz.ntmps77
 go_upto_region 1 with(fail)
 rw[←ER.out]
 clear ER O8
 go_wp2_with fail
 clear a3
 go_loopw [10] (fun iv wr=>∃(i a:Nat),iv=.int .i64 (a:Int)∧Hid (a=i*L)∧a≤100200000∧Hid (FA i wr)) (fun iv _=>nb-(intOf iv).toNat)
 case atStart=>exact⟨0,0,rfl,by unfold Hid;simp,by omega,HH⟩
 case round=>
  obtain⟨i,a,rfl,gj,YC,So⟩:=hrel
  clear HH Dr
  have hR:=yh.out i wr So.out
  have t0:wr.cell? ⟨fb,0,none⟩=some (.int .i64 first):=hR.2.cell 0
  have t1:wr.cell? ⟨fb,1,none⟩=some (.int .i64 nb):=hR.2.cell 1
  have t2:wr.cell? ⟨fb,2,none⟩=some (.int .i64 k):=hR.2.cell 2
  have t3:wr.cell? ⟨fb,3,none⟩=some (.int .i64 count):=hR.2.cell 3
  by_cases hlt:a<nb
  ·have hi:i*L<nb:=by rw[←gj.out];exact hlt
   obtain⟨F',hF⟩:∃F',F'=first+i*L:=⟨_,rfl⟩
   obtain⟨N',hN⟩:∃N',N'=min L (nb-i*L):=⟨_,rfl⟩
   obtain⟨C',hC⟩:∃C',C'=min (L*hh) (count-i*L*hh):=⟨_,rfl⟩
   have sY:Hid (Calls Tryz.prog 95 #[.pointer (some ⟨sb,0,none⟩),.agg #[.int .i64 first,.int .i64 nb,.int .i64 k,.int .i64 count],.int .i64 (a:Nat),.int .i64 L] wr fun e w'=>e=.returned (.agg #[.int .i64 (F':Nat),.int .i64 (N':Nat),.int .i64 k,.int .i64 (C':Nat)])∧FA i w'):=by
    have lK:first≤2000000∧nb≤2000000∧count≤100000000∧i*L≤nb∧L≤100000000∧hh≤254:=⟨by omega,by omega,by omega,by omega,by omega,by omega⟩
    have lI:=Ro (pa:=i*L) (pb:=L) hR.1 lK (zG.out i hi)
    rw[←hF,←hN,←hC,←gj.out]at lI
    unfold Cq at lI
    refine lI.mono ?_
    rintro e w' ⟨he,hb⟩
    exact⟨he,zU.out i wr w' So.out hb⟩
   have sk:=Lib.hid (fun W=>zD.out i W F' N' C' hi hF hN hC)
   clear hF hN hC hR So
   go_wp2_with fail
   refine sY.out.mono ?_
   rintro e w7 ⟨rfl,h7⟩
   have H7:=Lib.hid (sk.out w7 h7)
   clear h7 sY sk
   go_wp2_with fail
   refine H7.out.mono ?_
   rintro e w8 ⟨er,rfl,h8⟩
   rcases h8 with⟨rfl,h9⟩|⟨rfl,h9⟩
   ·have H9:=Lib.hid h9
    clear h9 H7 t0 t1 t2 t3
    have Ea:Hid (a+L=(i+1)*L):=by unfold Hid;rw[Nat.add_mul,Nat.one_mul,←gj.out]
    go_wp2
    go_roundw
    case rel=>exact⟨i+1,a+L,by go_num,Ea,by omega,H9⟩
    case measure=>simp[intOf];omega
   ·have H9:=Lib.hid h9
    clear h9 H7
    go_wp2
    go_ret
    exact .inr ⟨rfl,H9.out⟩
  ·have hge:nb≤i*L:=by rw[←gj.out];omega
   have sw:=Lib.hid hge
   clear hge hR
   go_wp2
   go_ret
   exact .inl ⟨rfl,i,sw.out,So.out⟩
theorem dG (hP : P.Ok) (Lv : P.AO[js]? = some (AI sb 98 (Bc P.X.p.w P.k P.hh Qu P.Ak P.o MH P.bd))) (uR : P.L ≤ 100000000) (h : Wd P.X (P.AO ++ P.Z []) P.m W) :
    Calls Tryz.prog 77 #[.pointer (some ⟨sb, 0, none⟩), .agg #[.int .i64 P.first, .int .i64 P.nb, .int .i64 P.k, .int .i64 P.count], .int .i64 P.rb, .iface P.tT P.vT] W fun e w' =>
      (e = .returned (.int .i64 0) ∧ ∃ s, s.length = P.count ∧ TG P.o (P.L * P.hh) s ∧ Cl P.o P.l s ∧ Wd P.X (P.AO ++ P.Z s) (P.m + P.nb + ES P.once P.o P.hh s) w') ∨
      (e = .returned (.int .i64 6) ∧ P.No w') := by
  have B2 : Below W.heap.size W (W.alloc (.cells #[.int .i64 P.first, .int .i64 P.nb, .int .i64 P.k, .int .i64 P.count] 39)) := (Below.refl _ _).alloc (Nat.le_refl _) _
  let bx : AU := AI W.heap.size 39 [.int .i64 P.first, .int .i64 P.nb, .int .i64 P.k, .int .i64 P.count]
  let Q : JP := { P with AO := P.AO ++ [bx] }
  have Qz : ∀ z, Aa AU.gw (P.AO ++ [bx] ++ z) = Aa AU.gw (P.AO ++ z) := fun z => by
    rw [BI, BI, BI, BZ]
    show _ + (0 + 0) + _ = _
    omega
  have hQ : Q.Ok := { hP with
    src := hP.src.app
    room := fun s hs => by
      show Aa AU.gw (P.AO ++ [bx] ++ P.Z s) + _ + _ ≤ _
      rw [Qz]; exact hP.room s hs }
  have wT : Q.AO[js]? = some (AI sb 98 (Bc P.X.p.w P.k P.hh Qu P.Ak P.o MH P.bd)) := Ae Lv
  have h1 : Wd P.X (P.AO ++ [bx] ++ P.Z []) P.m (W.alloc (.cells #[.int .i64 P.first, .int .i64 P.nb, .int .i64 P.k, .int .i64 P.count] 39)) :=
    (h.new B2 (heap_alloc_new W (.cells #[.int .i64 P.first, .int .i64 P.nb, .int .i64 P.k, .int .i64 P.count] 39)) (Nat.le_refl _)).front
  have DN : ES P.once P.o P.hh [] = 0 := by
    have h2 := JR P.once P.o P.hh []
    simp at h2; exact h2
  have hA0 : Q.A 0 (W.alloc (.cells #[.int .i64 P.first, .int .i64 P.nb, .int .i64 P.k, .int .i64 P.count] 39)) := ⟨[], ⟨by simp, fun j => by rw [List.drop_nil, List.take_nil]; exact KX _, by simp; exact Cl.refl _ _⟩, by
    show Wd P.X (P.AO ++ [bx] ++ P.Z []) (P.m + min (0 * P.L) P.nb + ES P.once P.o P.hh []) _
    rw [DN, Nat.zero_mul, Nat.zero_min]; exact h1⟩
  have O6 := hP.f.hh.1
  have Hy : P.nb = AA P.hh P.count := by rw [← hP.c]; exact hP.f.bn
  have Dv := hP.f.len
  rw [hP.c] at Dv
  have XH : P.nb ≤ P.count := by rw [Hy]; exact BM _ _
  have hL0 : 0 < P.L := by rw [← hP.L]; exact Nat.mul_pos hP.rb.1 hP.Ak.1
  refine (Wy (X := P.X) (first := P.first) (nb := P.nb) (k := P.k) (count := P.count) (rb := P.rb) (Ak := P.Ak) (hh := P.hh) (o := P.o) (once := MH) (bd := P.bd) (Qu := Qu) (FA := Q.A) (FN := Q.No) (L := P.L) ⟨hP.f.fst, by omega, Dv, hP.rb.2, hP.Ak.2, hL0, uR, hP.f.hh.2.2⟩ hP.L (fun i W ⟨s, _, hw⟩ => ?_) (fun i W W' h hb => h.below hb) (fun i hi => ?_) (fun i W F' N' C' hi hF hN hC hA => JP.A.merge hQ wT hi hF hN hC hA) rfl hA0).mono ?_
  · have EV : Wd P.X (P.AO ++ [bx] ++ P.Z s) _ W := hw
    refine ⟨EV.row (Ae (Ae Lv)), ?_⟩
    have L2 : (P.AO ++ [bx] ++ P.Z s)[P.AO.length]? = some bx := by rw [List.append_assoc]; exact AL P.AO _ 0
    exact EV.row L2
  · have hi : i * P.L < P.nb := hi
    have h2 := FR O6 P.count (i * P.L)
    rw [← Hy] at h2
    rcases Nat.lt_or_ge (i * P.L * P.hh) P.count with h3 | h3
    · omega
    · rw [Nat.sub_eq_zero_of_le h3, Aw] at h2; omega
  · rintro e w' (⟨he, i, hge, s, hp, hw⟩ | ⟨he, DP, z, m', hz, hw⟩)
    · have EV : Wd P.X (P.AO ++ bx :: P.Z s) (P.m + min (i * P.L) P.nb + ES P.once P.o P.hh s) w' := by
        have cM : Wd P.X (P.AO ++ [bx] ++ P.Z s) (P.m + min (i * P.L) P.nb + ES P.once P.o P.hh s) w' := hw
        rw [List.append_assoc] at cM; exact cM
      have h3 := EV.cut rfl rfl
      rw [Nat.min_eq_right hge] at h3
      have VT : P.count ≤ i * (P.L * P.hh) := by
        rw [Gf]
        refine Nat.le_trans (Ik O6 P.count) ?_
        rw [← Hy]; exact Nat.mul_le_mul_right _ hge
      have Dy : s.length = min (i * (P.L * P.hh)) P.count := hp.len
      have oL : Cl P.o (P.l.take (i * (P.L * P.hh))) s := hp.cl
      rw [List.take_of_length_le (by rw [hP.c]; exact VT)] at oL
      exact .inl ⟨he, s, by rw [Dy]; omega, hp.asc, oL, h3⟩
    · have EV : Wd P.X (P.AO ++ bx :: z) m' w' := by
        have cM : Wd P.X (P.AO ++ [bx] ++ z) m' w' := hw
        rw [List.append_assoc] at cM; exact cM
      exact .inr ⟨he, DP, z, m', hz, EV.cut rfl rfl⟩
end
structure VP where
 X:Cx
 AO:List AU
 o:AB
 on:Bool
 k:Nat
 hh:Nat
 bd:Nat
 ob:Nat
 m:Nat
 a:Nat
 R:List AB→Prop
def VP.bx(P:VP)(F N k C:Nat):AU:=AI P.ob 39 [.int .i64 (F:Nat),.int .i64 (N:Nat),.int .i64 (k:Nat),.int .i64 (C:Nat)]
def VP.P0(P:VP)(W:World):Prop:=Wd P.X (P.AO++[P.bx 0 0 0 0]) P.m W
def VP.P1(P:VP)(x:Nat)(W:World):Prop:=∃t,B8 t P.X.sz∧t.k=P.k∧t.h=P.hh∧t.bound=P.bd∧t.l=[]∧Wd P.X (P.AO++[P.bx 0 0 0 0]++[Ir P.X.p x t P.X.sz]) P.m W
def VP.P2(P:VP)(x:Nat)(W:World):Prop:=∃s t r,P.R s∧B8 t P.X.sz∧t.k=P.k∧t.h=P.hh∧t.l=BC P.on P.o s∧GP r∧Wd P.X (P.AO++[P.bx 0 0 0 0]++Ir P.X.p x t P.X.sz::r) (P.m+P.a+ES P.on P.o P.hh s) W
def VP.P3(P:VP)(x F N C:Nat)(B:AU)(W:World):Prop:=∃s t r,P.R s∧B8 t P.X.sz∧t.k=P.k∧t.h=P.hh∧t.l=BC P.on P.o s∧(F=Af t∧N=AA P.hh t.l.length∧C=t.l.length)∧GP r∧Wd P.X (P.AO++[B]++RE P.X.p x t P.X.sz::r) (P.m+P.a+AA P.hh t.l.length) W
def VP.P6(P:VP)(x:Nat)(W:World):Prop:=¬P.X.cm∧∃q r m',((∃t,q=jn P.X.p x t)∨∃t,q=Ir P.X.p x t P.X.sz∧B8 t P.X.sz)∧GP r∧Wd P.X (P.AO++[P.bx 0 0 0 0]++q::r) m' W
def VP.P7(P:VP)(W:World):Prop:=¬P.X.cm∧∃r m',GP r∧Wd P.X (P.AO++[P.bx 0 0 0 0]++r) m' W
section
variable {P : VP} {x : Nat} {W W' : World}
theorem VP.P0.below(h:P.P0 W)(hb:Below W.heap.size W W'):P.P0 W':=Wd.below h hb
theorem VP.P1.below(h:P.P1 x W)(hb:Below W.heap.size W W'):P.P1 x W':=by
 obtain⟨t,h1,h2,h3,h4,h5,h6⟩:=h
 exact⟨t,h1,h2,h3,h4,h5,h6.below hb⟩
theorem JI{B:AU}{z:List AU}:(P.AO++[B]++z)[P.AO.length]?=some B:=by rw[List.append_assoc];exact AL P.AO _ 0
theorem Vh{B q:AU}{r:List AU}:(P.AO++[B]++q::r)[P.AO.length+1]?=some q:=by
 have h:=AL (P.AO++[B]) (q::r) 0
 rw[List.length_append]at h;exact h
theorem TZ{B q q':AU}{r:List AU}:(P.AO++[B]++q::r).set (P.AO.length+1) q'=P.AO++[B]++q'::r:=by
 rw[List.set_append_right _ _ (by rw[List.length_append];show P.AO.length+1≤ _;omega),List.length_append]
 show _++(q::r).set (P.AO.length+1-(P.AO.length+1)) q'= _
 rw[Nat.sub_self];rfl
theorem Tc{B B':AU}{z:List AU}:(P.AO++[B]++z).set P.AO.length B'=P.AO++[B']++z:=by
 rw[List.append_assoc,List.set_append_right _ _ (Nat.le_refl _),Nat.sub_self,List.append_assoc];rfl
theorem VP.P0.write(JG:P.hh=AE P.X.sz P.k)(DO:0<P.hh)(hbd:P.bd≤100000)(hroom:P.X.sz+Aa AU.gw P.AO≤P.X.rm)(h:P.P0 W):
  Calls Tryz.prog 37 #[.pointer (some ⟨P.X.p.w,0,none⟩),.int .i64 P.k,.int .i64 P.bd] W fun e w'=>(e=.returned (.tuple #[.pointer none,.int .i64 5])∧(∀q,¬Rm P.X P.AO q (AA P.hh P.bd))∧P.P0 w')∨(∃x,e=.returned (.tuple #[.pointer (some ⟨x,0,none⟩),.int .i64 0])∧P.P1 x w'):=by
 have hg:Aa AU.gw (P.AO++[P.bx 0 0 0 0])=Aa AU.gw P.AO:=by rw[CR];rfl
 refine(RF h P.k P.bd (by rw[←JG];exact DO) hbd (by rw[hg];exact hroom)).mono ?_
 rintro e w' (⟨he,h1,h2⟩|⟨x,t,he,h1,h2,h3,h4,h5,h6⟩)
 ·refine .inl ⟨he,fun q hq=>h1 q fun z CM GJ=>?_,h2⟩
  rw[←JG]at GJ
  obtain⟨k1,k2⟩:=hq z CM GJ
  refine⟨k1,fun i a hi hz=>?_⟩
  rcases DM hi with⟨_,e⟩|⟨_,e⟩
  ·rw[e]at hz;exact AZ _ _ hz
  ·exact k2 i a e hz
 ·exact .inr ⟨x,he,t,h5,h1,by rw[h2,JG],h3,h4,h6⟩
theorem Uv{t:Wt}(h:t.l=[]):Nz t []=t:=by
 unfold Nz;rw[←h]
def VP.X0(P:VP)(fF:Nat)(fs:Array Value):Prop:=∀(x tT fP n:Nat) (vT:Value) (Z:List AB→List AU) (W:World),bM P.X P.o P.on P.k P.hh P.bd x tT fP vT Z n→Wd P.X (P.AO++[P.bx 0 0 0 0]++Z []) P.m W→
 Calls Tryz.prog fF (#[.iface tT vT]++fs) W fun e w'=>(e=.returned (.int .i64 0)∧∃s,P.R s∧s.length≤P.bd∧Wd P.X (P.AO++[P.bx 0 0 0 0]++Z s) (P.m+P.a+ES P.on P.o P.hh s) w')∨(e=.returned (.int .i64 6)∧¬P.X.cm∧∃z m',L6 P.X x P.bd n Z z∧Wd P.X (P.AO++[P.bx 0 0 0 0]++z) m' w')
theorem SZ{fF tT fP n:Nat}{fs:Array Value}{vT:Value}{Z:List AB→List AU}(hF:P.X0 fF fs)(hS:bM P.X P.o P.on P.k P.hh P.bd x tT fP vT Z n)(h:Wd P.X (P.AO++[P.bx 0 0 0 0]++Z []) P.m W):
  Calls Tryz.prog fF (#[.iface tT vT]++fs) W fun e w'=>∃er,e=.returned (.int .i64 er)∧((er=0∧P.P2 x w')∨(er=6∧P.P6 x w')):=by
 refine(hF x tT fP n vT Z W hS h).mono ?_
 rintro e w' (⟨he,s,hR,hs,hw⟩|⟨he,DP,z,m',hz,hw⟩)
 ·obtain⟨t,r,e1,h1,h2,h3,h4,h5,h6⟩:=hS.hd s hs
  rw[e1]at hw
  exact⟨0,he,.inl ⟨rfl,s,t,r,hR,h1,h2,h3,h5,h6,hw⟩⟩
 ·rcases hz with⟨s,hs,rfl⟩|⟨t,r,rfl,hl,hb⟩
  ·obtain⟨t,r,e1,h1,h2,h3,h4,h5,h6⟩:=hS.hd s hs
   rw[e1]at hw
   exact⟨6,he,.inr ⟨rfl,DP,_,r,m',.inr ⟨t,rfl,h1⟩,h6,hw⟩⟩
  ·exact⟨6,he,.inr ⟨rfl,DP,_,r,m',.inl ⟨t,rfl⟩,hb,hw⟩⟩
theorem VP.P1.rj{fF:Nat}{fs:Array Value}(hF:P.X0 fF fs)(lM:P.on=false)(h:P.P1 x W):Calls Tryz.prog fF (#[.iface 74 (.pointer (some ⟨x,0,none⟩))]++fs) W fun e w'=>∃er,e=.returned (.int .i64 er)∧((er=0∧P.P2 x w')∨(er=6∧P.P6 x w')):=by
 obtain⟨t,h1,h2,h3,h4,h5,h6⟩:=h
 have hS:=pS (X:=P.X) (o:=P.o) (x:=x) h1
 rw[h2,h3,h4,←lM]at hS
 refine SZ hF hS ?_
 show Wd P.X (P.AO++[P.bx 0 0 0 0]++[Ir P.X.p x (Nz t []) P.X.sz]) P.m W
 rw[Uv h5];exact h6
theorem VP.P1.ri{fF f:Nat}{fs:Array Value}(hF:P.X0 fF fs)(lM:P.on=true)(h:P.P1 x W)(hb:Below W.heap.size W W')(hr:Row W' f 156 (Ie x P.o false AD))(hf:W.heap.size≤f):Calls Tryz.prog fF (#[.iface 154 (.pointer (some ⟨f,0,none⟩))]++fs) W' fun e w'=>∃er,e=.returned (.int .i64 er)∧((er=0∧P.P2 x w')∨(er=6∧P.P6 x w')):=by
 obtain⟨t,h1,h2,h3,h4,h5,h6⟩:=h
 have hS:=pT (X:=P.X) (o:=P.o) (x:=x) (f:=f) h1
 rw[h2,h3,h4,←lM]at hS
 refine SZ hF hS ?_
 have h7:=h6.new hb hr hf
 show Wd P.X (P.AO++[P.bx 0 0 0 0]++[Ir P.X.p x (Nz t []) P.X.sz,AI f 156 (Qc x P.o [])]) P.m W'
 rw[Uv h5]
 rw[List.append_assoc]at h7;exact h7
theorem VP.P2.close(h:P.P2 x W)(hn:∀s,P.R s→P.X.N+(P.m+P.a+ES P.on P.o P.hh s)<1000000):
  Calls Tryz.prog 40 #[.pointer (some ⟨x,0,none⟩)] W fun e w'=>(∃F N C:Nat,e=.returned (.tuple #[.agg #[.int .i64 (F:Nat),.int .i64 (N:Nat),.int .i64 P.k,.int .i64 (C:Nat)],.int .i64 0])∧P.P3 x F N C (P.bx 0 0 0 0) w')∨(e=.returned (.tuple #[.agg #[.int .i64 0,.int .i64 0,.int .i64 0,.int .i64 0],.int .i64 6])∧P.P6 x w'):=by
 obtain⟨s,t,r,hR,h1,h2,h3,h4,h5,h6⟩:=h
 refine(RI h6 Vh h1 (hn s hR)).mono ?_
 rintro e w' (⟨he,h7⟩|⟨he,DP,h7⟩)
 ·rw[TZ]at h7
  refine .inl ⟨Af t,AA t.h t.l.length,t.l.length,by rw[he,h2];rfl,s,t,r,hR,h1,h2,h3,h4,⟨rfl,by rw[h3],rfl⟩,h5,?_⟩
  have hle:t.l.length/t.h≤AA t.h t.l.length:=by unfold AA;split<;>omega
  have h8:ES P.on P.o P.hh s=t.l.length/t.h:=by unfold ES;rw[h4,h3]
  rw[h8]at h7
  rw[show P.m+P.a+t.l.length/t.h+(AA t.h t.l.length-t.l.length/t.h)=P.m+P.a+AA t.h t.l.length by omega,h3]at h7
  exact h7
 ·rw[TZ]at h7
  exact .inr ⟨he,DP,_,r,_,.inl ⟨t,rfl⟩,h5,h7⟩
theorem VP.P3.drop{F N C:Nat}{B:AU}(u:FrameMode)(h:P.P3 x F N C B W):CallsD Tryz.prog 38 #[.pointer (some ⟨x,0,none⟩)] u W fun e u' w'=>u'=u∧(e=.returned (.tuple #[])∧P.P3 x F N C B w'):=by
 obtain⟨s,t,r,hR,h1,h2,h3,h4,h5,h6,h7⟩:=h
 have h8:Hv W x P.X.p t:=h7.at_ Vh
 refine(G3 h8 u).mono ?_
 rintro e u' w' ⟨hu,he,hw⟩
 exact⟨hu,he,s,t,r,hR,h1,h2,h3,h4,h5,h6,by rw[hw];exact h7⟩
theorem VP.P6.drop(u:FrameMode)(h:P.P6 x W):CallsD Tryz.prog 38 #[.pointer (some ⟨x,0,none⟩)] u W fun e u' w'=>u'=u∧(e=.returned (.tuple #[])∧P.P7 w'):=by
 obtain⟨DP,q,r,m',hq,hb,hw⟩:=h
 rcases hq with⟨t,rfl⟩|⟨t,rfl,ht⟩
 ·have h8:Hv W x P.X.p t:=hw.at_ Vh
  refine(G3 h8 u).mono ?_
  rintro e u' w' ⟨hu,he,EV⟩
  exact⟨hu,he,DP,_,m',AM ⟨rfl,rfl⟩ hb,by rw[EV];exact hw⟩
 ·refine(dI hw Vh ht u).mono ?_
  rintro e u' w' ⟨hu,he,EV⟩
  rw[TZ]at EV
  exact⟨hu,he,DP,_,m',AM ⟨rfl,rfl⟩ hb,EV⟩
theorem D8{W:World}{b:Nat}{c0 c1 c2 c3:Value}{F N k C:Nat}(hr:Row W b 39 [c0,c1,c2,c3]):Row ((((W.setCell ⟨b,0,none⟩ (.int .i64 (F:Nat))).setCell ⟨b,1,none⟩ (.int .i64 (N:Nat))).setCell ⟨b,2,none⟩ (.int .i64 (k:Nat))).setCell ⟨b,3,none⟩ (.int .i64 (C:Nat))) b 39 [.int .i64 (F:Nat),.int .i64 (N:Nat),.int .i64 (k:Nat),.int .i64 (C:Nat)]∧
  AK (fun k=>k=b) W ((((W.setCell ⟨b,0,none⟩ (.int .i64 (F:Nat))).setCell ⟨b,1,none⟩ (.int .i64 (N:Nat))).setCell ⟨b,2,none⟩ (.int .i64 (k:Nat))).setCell ⟨b,3,none⟩ (.int .i64 (C:Nat))):=
 ⟨(((hr.set 0 _).set 1 _).set 2 _).set 3 _,((((AK.refl (fun k=>k=b) W).set (p:=⟨b,0,none⟩) (.inl rfl) _).set (p:=⟨b,1,none⟩) (.inl rfl) _).set (p:=⟨b,2,none⟩) (.inl rfl) _).set (p:=⟨b,3,none⟩) (.inl rfl) _⟩
theorem VP.P3.store{F N C:Nat}(h:P.P3 x F N C (P.bx 0 0 0 0) W)(hw:W'=((((W.setCell ⟨P.ob,0,none⟩ (.int .i64 (F:Nat))).setCell ⟨P.ob,1,none⟩ (.int .i64 (N:Nat))).setCell ⟨P.ob,2,none⟩ (.int .i64 (P.k:Nat))).setCell ⟨P.ob,3,none⟩ (.int .i64 (C:Nat)))):P.P3 x F N C (P.bx F N P.k C) W':=by
 obtain⟨s,t,r,hR,h1,h2,h3,h4,h5,h6,h7⟩:=h
 obtain⟨k1,k2⟩:=D8 (F:=F) (N:=N) (k:=P.k) (C:=C) (h7.row JI)
 have h8:=h7.Jz JI (by decide) k2 k1
 rw[Tc]at h8
 subst hw
 exact⟨s,t,r,hR,h1,h2,h3,h4,h5,h6,h8⟩
theorem VP.P6.store(h:P.P6 x W)(hw:W'=((((W.setCell ⟨P.ob,0,none⟩ (.int .i64 0)).setCell ⟨P.ob,1,none⟩ (.int .i64 0)).setCell ⟨P.ob,2,none⟩ (.int .i64 0)).setCell ⟨P.ob,3,none⟩ (.int .i64 0))):P.P6 x W':=by
 obtain⟨DP,q,r,m',hq,hb,h7⟩:=h
 obtain⟨k1,k2⟩:=D8 (F:=0) (N:=0) (k:=0) (C:=0) (h7.row JI)
 have h8:=h7.Jz JI (by decide) k2 k1
 rw[Tc]at h8
 subst hw
 exact⟨DP,q,r,m',hq,hb,h8⟩
theorem VP.P0.store(h:P.P0 W)(hw:W'=((((W.setCell ⟨P.ob,0,none⟩ (.int .i64 0)).setCell ⟨P.ob,1,none⟩ (.int .i64 0)).setCell ⟨P.ob,2,none⟩ (.int .i64 0)).setCell ⟨P.ob,3,none⟩ (.int .i64 0))):P.P0 W':=by
 have h7:Wd P.X (P.AO++[P.bx 0 0 0 0]++[]) P.m W:=by rw[List.append_nil];exact h
 obtain⟨k1,k2⟩:=D8 (F:=0) (N:=0) (k:=0) (C:=0) (h7.row JI)
 have h8:=h7.Jz JI (by decide) k2 k1
 rw[Tc,List.append_nil]at h8
 subst hw
 exact h8
end
section
variable {P : VP} {W : World} {js sb rb Ak fF : Nat} {once Ox : Bool} {fs : Array Value}
theorem Od(Lv:P.AO[js]?=some (AI sb 98 (Bc P.X.p.w P.k P.hh rb Ak P.o once P.bd)))(OP:(Ox&&once)=P.on)(hF:P.X0 fF fs)(eF:∀args w,Sem.run Tryz.prog (callFunc fF args) w=.ok (.enter fF args) w)
  (JG:P.hh=AE P.X.sz P.k) (DO:0<P.hh) (hbd:P.bd≤100000) (hroom:P.X.sz+Aa AU.gw P.AO≤P.X.rm) (hn:∀s,P.R s→P.X.N+(P.m+P.a+ES P.on P.o P.hh s)<1000000) (wm:W.heap.size=P.ob) (h:Wd P.X P.AO P.m W):
  Calls Tryz.prog 73 #[.pointer (some ⟨sb,0,none⟩),.bool Ox,.func (.func fF) #[] fs] W fun e w'=>
   (e=.returned (.tuple #[.agg #[.int .i64 0,.int .i64 0,.int .i64 0,.int .i64 0],.int .i64 5])∧(∀q,¬Rm P.X P.AO q (AA P.hh P.bd))∧Wd P.X P.AO P.m w')∨
   (∃x F N C:Nat,e=.returned (.tuple #[.agg #[.int .i64 (F:Nat),.int .i64 (N:Nat),.int .i64 P.k,.int .i64 (C:Nat)],.int .i64 0])∧∃s t,P.R s∧B8 t P.X.sz∧t.k=P.k∧t.h=P.hh∧t.l=BC P.on P.o s∧(F=Af t∧N=AA P.hh t.l.length∧C=t.l.length)∧Wd P.X (P.AO++[RE P.X.p x t P.X.sz]) (P.m+P.a+AA P.hh t.l.length) w')∨
   (e=.returned (.tuple #[.agg #[.int .i64 0,.int .i64 0,.int .i64 0,.int .i64 0],.int .i64 6])∧¬P.X.cm∧∃m',Wd P.X P.AO m' w'):=by
 obtain⟨W1,B2⟩:∃W1,W1=W.alloc (.cells #[.int .i64 0,.int .i64 0,.int .i64 0,.int .i64 0] 39):=⟨_,rfl⟩
 have Aj:Below W.heap.size W W1:=by rw[B2];exact(Below.refl _ _).alloc (Nat.le_refl _) _
 have BS:Row W1 P.ob 39 [.int .i64 0,.int .i64 0,.int .i64 0,.int .i64 0]:=by rw[B2,←wm];exact heap_alloc_new _ _
 have h1:P.P0 W1:=h.new Aj BS (by rw[wm];exact Nat.le_refl _)
 have cY:Hid (∀(z:List AU) m W,Wd P.X (P.AO++z) m W→Row W sb 98 (Bc P.X.p.w P.k P.hh rb Ak P.o once P.bd)):=fun z m W h=>h.row (Ae Lv)
 have Gy:Hid (∀W,P.P0 W→Row W sb 98 (Bc P.X.p.w P.k P.hh rb Ak P.o once P.bd)):=fun W h=>cY.out _ _ _ h
 have Dr:Hid (∀x W,P.P1 x W→Row W sb 98 (Bc P.X.p.w P.k P.hh rb Ak P.o once P.bd)):=fun x W ⟨t,_,_,_,_,_,h⟩=>by rw[List.append_assoc]at h;exact cY.out _ _ _ h
 have GO:Hid (∀W,P.P0 W→Row W P.ob 39 [.int .i64 0,.int .i64 0,.int .i64 0,.int .i64 0]):=fun W h=>by
  have h7:Wd P.X (P.AO++[P.bx 0 0 0 0]++[]) P.m W:=by rw[List.append_nil];exact h
  exact h7.row JI
 have Bq:Hid (∀x F N C B cs W,B=AI P.ob 39 cs→P.P3 x F N C B W→Row W P.ob 39 cs):=fun x F N C B cs W hB ⟨s,t,r,_,_,_,_,_,_,_,h⟩=>by
  rw[hB]at h;exact h.row JI
 have Q9:Hid (∀x W,P.P6 x W→Row W P.ob 39 [.int .i64 0,.int .i64 0,.int .i64 0,.int .i64 0]):=fun x W ⟨_,q,r,m',_,_,h⟩=>h.row JI
 have Vu:Hid (∀W,P.P7 W→Row W P.ob 39 [.int .i64 0,.int .i64 0,.int .i64 0,.int .i64 0]):=fun W ⟨_,r,m',_,h⟩=>h.row JI
 have bR:Hid (Calls Tryz.prog 37 #[.pointer (some ⟨P.X.p.w,0,none⟩),.int .i64 P.k,.int .i64 P.bd] W1.drew fun e w'=>∃v er,e=.returned (.tuple #[.pointer v,.int .i64 er])∧((v=none∧er=5∧(∀q,¬Rm P.X P.AO q (AA P.hh P.bd))∧P.P0 w')∨∃x,v=some ⟨x,0,none⟩∧er=0∧P.P1 x w')∧Row w' sb 98 (Bc P.X.p.w P.k P.hh rb Ak P.o once P.bd)):=by
  refine(VP.P0.write (W:=W1.drew) JG DO hbd hroom (h1.below (AH (Below.refl _ _)))).mono ?_
  rintro e w' (⟨he,h2,h3⟩|⟨x,he,h2⟩)
  ·exact⟨none,5,he,.inl ⟨rfl,rfl,h2,h3⟩,Gy.out _ h3⟩
  ·exact⟨_,0,he,.inr ⟨x,rfl,rfl,h2⟩,Dr.out _ _ h2⟩
 have HWF:Hid (∀x W,P.on=false→P.P1 x W→Calls Tryz.prog fF (#[.iface 74 (.pointer (some ⟨x,0,none⟩))]++fs) W fun e w'=>∃er,e=.returned (.int .i64 er)∧((er=0∧P.P2 x w')∨(er=6∧P.P6 x w'))):=fun x W ho h=>h.rj hF ho
 have HWG:Hid (∀x W,P.on=true→P.P1 x W→Calls Tryz.prog fF (#[.iface 154 (.pointer (some ⟨W.heap.size,0,none⟩))]++fs) (W.alloc (.cells (Ie x P.o false AD).toArray 156)) fun e w'=>∃er,e=.returned (.int .i64 er)∧((er=0∧P.P2 x w')∨(er=6∧P.P6 x w'))):=fun x W ho h=>h.ri hF ho ((Below.refl _ _).alloc (Nat.le_refl _) _) (heap_alloc_new _ _) (Nat.le_refl _)
 have Xv:Hid (∀x W,P.P2 x W→Calls Tryz.prog 40 #[.pointer (some ⟨x,0,none⟩)] W fun e w'=>(∃F N C:Nat,e=.returned (.tuple #[.agg #[.int .i64 (F:Nat),.int .i64 (N:Nat),.int .i64 P.k,.int .i64 (C:Nat)],.int .i64 0])∧P.P3 x F N C (P.bx 0 0 0 0) w')∨(e=.returned (.tuple #[.agg #[.int .i64 0,.int .i64 0,.int .i64 0,.int .i64 0],.int .i64 6])∧P.P6 x w')):=fun x W h=>h.close hn
 have zN:Hid (∀x F N C B u W,P.P3 x F N C B W→CallsD Tryz.prog 38 #[.pointer (some ⟨x,0,none⟩)] u W fun e u' w'=>u'=u∧(e=.returned (.tuple #[])∧P.P3 x F N C B w')):=fun x F N C B u W h=>h.drop u
 have ji:Hid (∀x u W,P.P6 x W→CallsD Tryz.prog 38 #[.pointer (some ⟨x,0,none⟩)] u W fun e u' w'=>u'=u∧(e=.returned (.tuple #[])∧P.P7 w')):=fun x u W h=>h.drop u
 have Vp:Hid (∀x F N C W,P.P3 x F N C (P.bx 0 0 0 0) W→P.P3 x F N C (P.bx F N P.k C) ((((W.setCell ⟨P.ob,0,none⟩ (.int .i64 (F:Nat))).setCell ⟨P.ob,1,none⟩ (.int .i64 (N:Nat))).setCell ⟨P.ob,2,none⟩ (.int .i64 (P.k:Nat))).setCell ⟨P.ob,3,none⟩ (.int .i64 (C:Nat)))):=fun x F N C W h=>h.store rfl
 have ot:Hid (∀x W,P.P6 x W→P.P6 x ((((W.setCell ⟨P.ob,0,none⟩ (.int .i64 0)).setCell ⟨P.ob,1,none⟩ (.int .i64 0)).setCell ⟨P.ob,2,none⟩ (.int .i64 0)).setCell ⟨P.ob,3,none⟩ (.int .i64 0))):=fun x W h=>h.store rfl
 have nC:Hid (∀W,P.P0 W→P.P0 ((((W.setCell ⟨P.ob,0,none⟩ (.int .i64 0)).setCell ⟨P.ob,1,none⟩ (.int .i64 0)).setCell ⟨P.ob,2,none⟩ (.int .i64 0)).setCell ⟨P.ob,3,none⟩ (.int .i64 0))):=fun W h=>h.store rfl
 have nh:Hid (∀W,P.P0 W→Wd P.X P.AO P.m W):=fun W h=>Wd.forget h (AM (DL _ _ _) BQ)
 have gX:Hid (∀x F N C W,P.P3 x F N C (P.bx F N P.k C) W→∃s t,P.R s∧B8 t P.X.sz∧t.k=P.k∧t.h=P.hh∧t.l=BC P.on P.o s∧(F=Af t∧N=AA P.hh t.l.length∧C=t.l.length)∧Wd P.X (P.AO++[RE P.X.p x t P.X.sz]) (P.m+P.a+AA P.hh t.l.length) W):=fun x F N C W ⟨s,t,r,h1,h2,h3,h4,h5,h6,h7,h8⟩=>by
  have h9:Wd P.X (P.AO++P.bx F N P.k C::([RE P.X.p x t P.X.sz]++r)) (P.m+P.a+AA P.hh t.l.length) W:=by rw[List.append_assoc]at h8;exact h8
  have ID:=h9.cut rfl rfl
  rw[←List.append_assoc]at ID
  exact⟨s,t,h1,h2,h3,h4,h5,h6,ID.forget h7⟩
 have o9:Hid (∀W,P.P7 W→¬P.X.cm∧∃m',Wd P.X P.AO m' W):=fun W ⟨DP,r,m',hb,h⟩=>by
  have h9:Wd P.X (P.AO++P.bx 0 0 0 0::r) m' W:=by rw[List.append_assoc]at h;exact h
  exact⟨DP,m',(h9.cut rfl rfl).forget hb⟩
 have Vq:=Lib.hid (Gy.out _ (h1.below (AH (Below.refl _ _))))
 have ER:=Lib.hid B2
 have iO:=Lib.hid OP
 have IA:Hid (∀F N C:Nat,P.bx F N P.k C=AI P.ob 39 [.int .i64 (F:Nat),.int .i64 (N:Nat),.int .i64 (P.k:Nat),.int .i64 (C:Nat)]):=fun _ _ _=>rfl
 clear B2 Aj BS h hF JG DO hroom hn cY Lv OP
 go_enter_defers Tryz.func73,Tryz.ntmps73
 go_upto_region 1 with(fail)
 rw[←ER.out]
 clear ER
 have a4:W1.drew.cell? ⟨sb,4,none⟩=some (.pointer (some ⟨P.X.p.w,0,none⟩)):=Vq.out.cell 4
 have a0:W1.drew.cell? ⟨sb,0,none⟩=some (.int .i64 P.k):=Vq.out.cell 0
 have a11:W1.drew.cell? ⟨sb,11,none⟩=some (.int .i64 P.bd):=Vq.out.cell 11
 clear h1 Vq wm
 go_region_held3 (fun w'=>w'.cell? ⟨sb,4,none⟩=some (.pointer (some ⟨P.X.p.w,0,none⟩))∧w'.cell? ⟨sb,0,none⟩=some (.int .i64 P.k)∧w'.cell? ⟨sb,11,none⟩=some (.int .i64 P.bd)) (first|with_reducible exact⟨a4,a0,a11⟩|with_reducible exact q2)
  ((go_at_call 37;(with_reducible refine bR.out.mono ?_);rintro e w2 ⟨v,er,rfl,h2,Ap⟩;obtain⟨H2,q2⟩:Hid ((v=none∧er=5∧(∀q,¬Rm P.X P.AO q (AA P.hh P.bd))∧P.P0 w2)∨∃x,v=some ⟨x,0,none⟩∧er=0∧P.P1 x w2)∧(w2.cell? ⟨sb,4,none⟩=some (.pointer (some ⟨P.X.p.w,0,none⟩))∧w2.cell? ⟨sb,0,none⟩=some (.int .i64 P.k)∧w2.cell? ⟨sb,11,none⟩=some (.int .i64 P.bd)):=⟨h2,Ap.cell 4,Ap.cell 0,Ap.cell 11⟩))
 clear a4 a0 a11 q2 h2 Ap bR
 rcases H2.out with⟨rfl,rfl,JE,h2⟩|⟨x,rfl,rfl,h2⟩
 ·generalize w2=w9 at*
  have B9:=GO.out w9 h2
  have g9:w9.cell? ⟨P.ob,0,none⟩=some (.int .i64 0)∧w9.cell? ⟨P.ob,1,none⟩=some (.int .i64 0)∧w9.cell? ⟨P.ob,2,none⟩=some (.int .i64 0)∧w9.cell? ⟨P.ob,3,none⟩=some (.int .i64 0):=⟨B9.cell 0,B9.cell 1,B9.cell 2,B9.cell 3⟩
  have f9:w9.frozen? ⟨P.ob,0,none⟩=false∧w9.frozen? ⟨P.ob,1,none⟩=false∧w9.frozen? ⟨P.ob,2,none⟩=false∧w9.frozen? ⟨P.ob,3,none⟩=false:=⟨B9.free 0,B9.free 1,B9.free 2,B9.free 3⟩
  obtain⟨fV,fU,fT,fS⟩:=g9
  obtain⟨f90,f91,f92,f93⟩:=f9
  have H9:=Lib.hid (nC.out w9 h2)
  have ym:=Lib.hid JE
  clear h2 B9 H2 JE
  go_wp2
  generalize((((w9.setCell ⟨P.ob,0,none⟩ (.int .i64 0)).setCell ⟨P.ob,1,none⟩ (.int .i64 0)).setCell ⟨P.ob,2,none⟩ (.int .i64 0)).setCell ⟨P.ob,3,none⟩ (.int .i64 0))=Fl at*
  have Ey:=GO.out Fl H9.out
  have q0:Fl.cell? ⟨P.ob,0,none⟩=some (.int .i64 0):=Ey.cell 0
  have q1:Fl.cell? ⟨P.ob,1,none⟩=some (.int .i64 0):=Ey.cell 1
  have q2:Fl.cell? ⟨P.ob,2,none⟩=some (.int .i64 0):=Ey.cell 2
  have q3:Fl.cell? ⟨P.ob,3,none⟩=some (.int .i64 0):=Ey.cell 3
  exact⟨.tuple #[.agg #[.int .i64 0,.int .i64 0,.int .i64 0,.int .i64 0],.int .i64 5],by simp[results,Tryz.results73,go_sem,q0,q1,q2,q3],.inl ⟨rfl,ym.out,nh.out Fl H9.out⟩⟩
 ·have bY:=Lib.hid h2
  have a10:w2.cell? ⟨sb,10,none⟩=some (.bool once):=(Dr.out x w2 h2).cell 10
  have o0:w2.cell? ⟨sb,5,none⟩=some (.int .i64 P.o.a):=(Dr.out x w2 h2).cell 5
  have o1:w2.cell? ⟨sb,6,none⟩=some (.int .i64 P.o.b):=(Dr.out x w2 h2).cell 6
  have o2:w2.cell? ⟨sb,7,none⟩=some (.int .i64 P.o.c):=(Dr.out x w2 h2).cell 7
  have o3:w2.cell? ⟨sb,8,none⟩=some (.int .i64 P.o.d):=(Dr.out x w2 h2).cell 8
  have o4:w2.cell? ⟨sb,9,none⟩=some (.int .i64 P.o.e):=(Dr.out x w2 h2).cell 9
  clear h2 H2
  have KEY:Hid (∀w3 er,((er=0∧P.P2 x w3)∨(er=6∧P.P6 x w3))→True):=fun _ _ _=>trivial
  by_cases lM:P.on=true
  ·have h3:Ox=true∧once=true:=by have:=iO.out;rw[lM]at this;simpa using this
   obtain⟨rfl,rfl⟩:=h3
   have HG:=Lib.hid (HWG.out x w2 lM bY.out)
   go_wp2_with fail
   refine HG.out.mono ?_
   rintro e w8 ⟨er,rfl,h8⟩
   rcases h8 with⟨rfl,h9⟩|⟨rfl,h9⟩
   ·have Ct:=Lib.hid (Xv.out x w8 h9)
    clear h9 HG
    go_wp2_with fail
    refine Ct.out.mono ?_
    rintro e w9 (⟨F,N,C,rfl,h9⟩|⟨rfl,h9⟩)
    ·clear Ct
     have B9:=Bq.out x F N C _ _ w9 rfl h9
     have g9:w9.cell? ⟨P.ob,0,none⟩=some (.int .i64 0)∧w9.cell? ⟨P.ob,1,none⟩=some (.int .i64 0)∧w9.cell? ⟨P.ob,2,none⟩=some (.int .i64 0)∧w9.cell? ⟨P.ob,3,none⟩=some (.int .i64 0):=⟨B9.cell 0,B9.cell 1,B9.cell 2,B9.cell 3⟩
     have f9:w9.frozen? ⟨P.ob,0,none⟩=false∧w9.frozen? ⟨P.ob,1,none⟩=false∧w9.frozen? ⟨P.ob,2,none⟩=false∧w9.frozen? ⟨P.ob,3,none⟩=false:=⟨B9.free 0,B9.free 1,B9.free 2,B9.free 3⟩
     obtain⟨fV,fU,fT,fS⟩:=g9
     obtain⟨f90,f91,f92,f93⟩:=f9
     have H9:=Lib.hid (Vp.out x F N C w9 h9)
     clear h9 B9
     go_wp2
     generalize((((w9.setCell ⟨P.ob,0,none⟩ (.int .i64 (F:Nat))).setCell ⟨P.ob,1,none⟩ (.int .i64 (N:Nat))).setCell ⟨P.ob,2,none⟩ (.int .i64 (P.k:Nat))).setCell ⟨P.ob,3,none⟩ (.int .i64 (C:Nat)))=Fl at*
     refine leaves_cons (f:=38) (args:=#[.pointer (some ⟨x,0,none⟩)]) (by simp) (by simp[go_sem]) ?_
     refine(zN.out x F N C _ _ _ H9.out).mono ?_
     rintro e u1 Bn ⟨rfl,rfl,E5⟩
     have Ey:=Bq.out x F N C _ _ Bn (IA.out F N C) E5
     have q0:Bn.cell? ⟨P.ob,0,none⟩=some (.int .i64 (F:Nat)):=Ey.cell 0
     have q1:Bn.cell? ⟨P.ob,1,none⟩=some (.int .i64 (N:Nat)):=Ey.cell 1
     have q2:Bn.cell? ⟨P.ob,2,none⟩=some (.int .i64 (P.k:Nat)):=Ey.cell 2
     have q3:Bn.cell? ⟨P.ob,3,none⟩=some (.int .i64 (C:Nat)):=Ey.cell 3
     refine⟨.tuple #[.agg #[.int .i64 (F:Nat),.int .i64 (N:Nat),.int .i64 P.k,.int .i64 (C:Nat)],.int .i64 0],by simp[results,Tryz.results73,go_sem,q0,q1,q2,q3],?_⟩
     exact .inr (.inl ⟨x,F,N,C,rfl,gX.out x F N C Bn E5⟩)
    ·clear Ct
     have B9:=Q9.out x w9 h9
     have g9:w9.cell? ⟨P.ob,0,none⟩=some (.int .i64 0)∧w9.cell? ⟨P.ob,1,none⟩=some (.int .i64 0)∧w9.cell? ⟨P.ob,2,none⟩=some (.int .i64 0)∧w9.cell? ⟨P.ob,3,none⟩=some (.int .i64 0):=⟨B9.cell 0,B9.cell 1,B9.cell 2,B9.cell 3⟩
     have f9:w9.frozen? ⟨P.ob,0,none⟩=false∧w9.frozen? ⟨P.ob,1,none⟩=false∧w9.frozen? ⟨P.ob,2,none⟩=false∧w9.frozen? ⟨P.ob,3,none⟩=false:=⟨B9.free 0,B9.free 1,B9.free 2,B9.free 3⟩
     obtain⟨fV,fU,fT,fS⟩:=g9
     obtain⟨f90,f91,f92,f93⟩:=f9
     have H9:=Lib.hid (ot.out x w9 h9)
     clear h9 B9
     go_wp2
     generalize((((w9.setCell ⟨P.ob,0,none⟩ (.int .i64 0)).setCell ⟨P.ob,1,none⟩ (.int .i64 0)).setCell ⟨P.ob,2,none⟩ (.int .i64 0)).setCell ⟨P.ob,3,none⟩ (.int .i64 0))=Fl at*
     refine leaves_cons (f:=38) (args:=#[.pointer (some ⟨x,0,none⟩)]) (by simp) (by simp[go_sem]) ?_
     refine(ji.out x _ _ H9.out).mono ?_
     rintro e u1 Bn ⟨rfl,rfl,E5⟩
     have Ey:=Vu.out Bn E5
     have q0:Bn.cell? ⟨P.ob,0,none⟩=some (.int .i64 0):=Ey.cell 0
     have q1:Bn.cell? ⟨P.ob,1,none⟩=some (.int .i64 0):=Ey.cell 1
     have q2:Bn.cell? ⟨P.ob,2,none⟩=some (.int .i64 0):=Ey.cell 2
     have q3:Bn.cell? ⟨P.ob,3,none⟩=some (.int .i64 0):=Ey.cell 3
     refine⟨.tuple #[.agg #[.int .i64 0,.int .i64 0,.int .i64 0,.int .i64 0],.int .i64 6],by simp[results,Tryz.results73,go_sem,q0,q1,q2,q3],?_⟩
     exact .inr (.inr ⟨rfl,o9.out Bn E5⟩)
   ·clear HG
    generalize w8=w9 at*
    have B9:=Q9.out x w9 h9
    have g9:w9.cell? ⟨P.ob,0,none⟩=some (.int .i64 0)∧w9.cell? ⟨P.ob,1,none⟩=some (.int .i64 0)∧w9.cell? ⟨P.ob,2,none⟩=some (.int .i64 0)∧w9.cell? ⟨P.ob,3,none⟩=some (.int .i64 0):=⟨B9.cell 0,B9.cell 1,B9.cell 2,B9.cell 3⟩
    have f9:w9.frozen? ⟨P.ob,0,none⟩=false∧w9.frozen? ⟨P.ob,1,none⟩=false∧w9.frozen? ⟨P.ob,2,none⟩=false∧w9.frozen? ⟨P.ob,3,none⟩=false:=⟨B9.free 0,B9.free 1,B9.free 2,B9.free 3⟩
    obtain⟨fV,fU,fT,fS⟩:=g9
    obtain⟨f90,f91,f92,f93⟩:=f9
    have H9:=Lib.hid (ot.out x w9 h9)
    clear h9 B9
    go_wp2
    generalize((((w9.setCell ⟨P.ob,0,none⟩ (.int .i64 0)).setCell ⟨P.ob,1,none⟩ (.int .i64 0)).setCell ⟨P.ob,2,none⟩ (.int .i64 0)).setCell ⟨P.ob,3,none⟩ (.int .i64 0))=Fl at*
    refine leaves_cons (f:=38) (args:=#[.pointer (some ⟨x,0,none⟩)]) (by simp) (by simp[go_sem]) ?_
    refine(ji.out x _ _ H9.out).mono ?_
    rintro e u1 Bn ⟨rfl,rfl,E5⟩
    have Ey:=Vu.out Bn E5
    have q0:Bn.cell? ⟨P.ob,0,none⟩=some (.int .i64 0):=Ey.cell 0
    have q1:Bn.cell? ⟨P.ob,1,none⟩=some (.int .i64 0):=Ey.cell 1
    have q2:Bn.cell? ⟨P.ob,2,none⟩=some (.int .i64 0):=Ey.cell 2
    have q3:Bn.cell? ⟨P.ob,3,none⟩=some (.int .i64 0):=Ey.cell 3
    refine⟨.tuple #[.agg #[.int .i64 0,.int .i64 0,.int .i64 0,.int .i64 0],.int .i64 6],by simp[results,Tryz.results73,go_sem,q0,q1,q2,q3],?_⟩
    exact .inr (.inr ⟨rfl,o9.out Bn E5⟩)
  ·have qj:P.on=false:=by simpa using lM
   have HG:=Lib.hid (HWF.out x w2 qj bY.out)
   cases Ox
   ·go_wp2_with fail
    refine HG.out.mono ?_
    rintro e w8 ⟨er,rfl,h8⟩
    rcases h8 with⟨rfl,h9⟩|⟨rfl,h9⟩
    ·have Ct:=Lib.hid (Xv.out x w8 h9)
     clear h9 HG
     go_wp2_with fail
     refine Ct.out.mono ?_
     rintro e w9 (⟨F,N,C,rfl,h9⟩|⟨rfl,h9⟩)
     ·clear Ct
      have B9:=Bq.out x F N C _ _ w9 rfl h9
      have g9:w9.cell? ⟨P.ob,0,none⟩=some (.int .i64 0)∧w9.cell? ⟨P.ob,1,none⟩=some (.int .i64 0)∧w9.cell? ⟨P.ob,2,none⟩=some (.int .i64 0)∧w9.cell? ⟨P.ob,3,none⟩=some (.int .i64 0):=⟨B9.cell 0,B9.cell 1,B9.cell 2,B9.cell 3⟩
      have f9:w9.frozen? ⟨P.ob,0,none⟩=false∧w9.frozen? ⟨P.ob,1,none⟩=false∧w9.frozen? ⟨P.ob,2,none⟩=false∧w9.frozen? ⟨P.ob,3,none⟩=false:=⟨B9.free 0,B9.free 1,B9.free 2,B9.free 3⟩
      obtain⟨fV,fU,fT,fS⟩:=g9
      obtain⟨f90,f91,f92,f93⟩:=f9
      have H9:=Lib.hid (Vp.out x F N C w9 h9)
      clear h9 B9
      go_wp2
      generalize((((w9.setCell ⟨P.ob,0,none⟩ (.int .i64 (F:Nat))).setCell ⟨P.ob,1,none⟩ (.int .i64 (N:Nat))).setCell ⟨P.ob,2,none⟩ (.int .i64 (P.k:Nat))).setCell ⟨P.ob,3,none⟩ (.int .i64 (C:Nat)))=Fl at*
      refine leaves_cons (f:=38) (args:=#[.pointer (some ⟨x,0,none⟩)]) (by simp) (by simp[go_sem]) ?_
      refine(zN.out x F N C _ _ _ H9.out).mono ?_
      rintro e u1 Bn ⟨rfl,rfl,E5⟩
      have Ey:=Bq.out x F N C _ _ Bn (IA.out F N C) E5
      have q0:Bn.cell? ⟨P.ob,0,none⟩=some (.int .i64 (F:Nat)):=Ey.cell 0
      have q1:Bn.cell? ⟨P.ob,1,none⟩=some (.int .i64 (N:Nat)):=Ey.cell 1
      have q2:Bn.cell? ⟨P.ob,2,none⟩=some (.int .i64 (P.k:Nat)):=Ey.cell 2
      have q3:Bn.cell? ⟨P.ob,3,none⟩=some (.int .i64 (C:Nat)):=Ey.cell 3
      refine⟨.tuple #[.agg #[.int .i64 (F:Nat),.int .i64 (N:Nat),.int .i64 P.k,.int .i64 (C:Nat)],.int .i64 0],by simp[results,Tryz.results73,go_sem,q0,q1,q2,q3],?_⟩
      exact .inr (.inl ⟨x,F,N,C,rfl,gX.out x F N C Bn E5⟩)
     ·clear Ct
      have B9:=Q9.out x w9 h9
      have g9:w9.cell? ⟨P.ob,0,none⟩=some (.int .i64 0)∧w9.cell? ⟨P.ob,1,none⟩=some (.int .i64 0)∧w9.cell? ⟨P.ob,2,none⟩=some (.int .i64 0)∧w9.cell? ⟨P.ob,3,none⟩=some (.int .i64 0):=⟨B9.cell 0,B9.cell 1,B9.cell 2,B9.cell 3⟩
      have f9:w9.frozen? ⟨P.ob,0,none⟩=false∧w9.frozen? ⟨P.ob,1,none⟩=false∧w9.frozen? ⟨P.ob,2,none⟩=false∧w9.frozen? ⟨P.ob,3,none⟩=false:=⟨B9.free 0,B9.free 1,B9.free 2,B9.free 3⟩
      obtain⟨fV,fU,fT,fS⟩:=g9
      obtain⟨f90,f91,f92,f93⟩:=f9
      have H9:=Lib.hid (ot.out x w9 h9)
      clear h9 B9
      go_wp2
      generalize((((w9.setCell ⟨P.ob,0,none⟩ (.int .i64 0)).setCell ⟨P.ob,1,none⟩ (.int .i64 0)).setCell ⟨P.ob,2,none⟩ (.int .i64 0)).setCell ⟨P.ob,3,none⟩ (.int .i64 0))=Fl at*
      refine leaves_cons (f:=38) (args:=#[.pointer (some ⟨x,0,none⟩)]) (by simp) (by simp[go_sem]) ?_
      refine(ji.out x _ _ H9.out).mono ?_
      rintro e u1 Bn ⟨rfl,rfl,E5⟩
      have Ey:=Vu.out Bn E5
      have q0:Bn.cell? ⟨P.ob,0,none⟩=some (.int .i64 0):=Ey.cell 0
      have q1:Bn.cell? ⟨P.ob,1,none⟩=some (.int .i64 0):=Ey.cell 1
      have q2:Bn.cell? ⟨P.ob,2,none⟩=some (.int .i64 0):=Ey.cell 2
      have q3:Bn.cell? ⟨P.ob,3,none⟩=some (.int .i64 0):=Ey.cell 3
      refine⟨.tuple #[.agg #[.int .i64 0,.int .i64 0,.int .i64 0,.int .i64 0],.int .i64 6],by simp[results,Tryz.results73,go_sem,q0,q1,q2,q3],?_⟩
      exact .inr (.inr ⟨rfl,o9.out Bn E5⟩)
    ·clear HG
     generalize w8=w9 at*
     have B9:=Q9.out x w9 h9
     have g9:w9.cell? ⟨P.ob,0,none⟩=some (.int .i64 0)∧w9.cell? ⟨P.ob,1,none⟩=some (.int .i64 0)∧w9.cell? ⟨P.ob,2,none⟩=some (.int .i64 0)∧w9.cell? ⟨P.ob,3,none⟩=some (.int .i64 0):=⟨B9.cell 0,B9.cell 1,B9.cell 2,B9.cell 3⟩
     have f9:w9.frozen? ⟨P.ob,0,none⟩=false∧w9.frozen? ⟨P.ob,1,none⟩=false∧w9.frozen? ⟨P.ob,2,none⟩=false∧w9.frozen? ⟨P.ob,3,none⟩=false:=⟨B9.free 0,B9.free 1,B9.free 2,B9.free 3⟩
     obtain⟨fV,fU,fT,fS⟩:=g9
     obtain⟨f90,f91,f92,f93⟩:=f9
     have H9:=Lib.hid (ot.out x w9 h9)
     clear h9 B9
     go_wp2
     generalize((((w9.setCell ⟨P.ob,0,none⟩ (.int .i64 0)).setCell ⟨P.ob,1,none⟩ (.int .i64 0)).setCell ⟨P.ob,2,none⟩ (.int .i64 0)).setCell ⟨P.ob,3,none⟩ (.int .i64 0))=Fl at*
     refine leaves_cons (f:=38) (args:=#[.pointer (some ⟨x,0,none⟩)]) (by simp) (by simp[go_sem]) ?_
     refine(ji.out x _ _ H9.out).mono ?_
     rintro e u1 Bn ⟨rfl,rfl,E5⟩
     have Ey:=Vu.out Bn E5
     have q0:Bn.cell? ⟨P.ob,0,none⟩=some (.int .i64 0):=Ey.cell 0
     have q1:Bn.cell? ⟨P.ob,1,none⟩=some (.int .i64 0):=Ey.cell 1
     have q2:Bn.cell? ⟨P.ob,2,none⟩=some (.int .i64 0):=Ey.cell 2
     have q3:Bn.cell? ⟨P.ob,3,none⟩=some (.int .i64 0):=Ey.cell 3
     refine⟨.tuple #[.agg #[.int .i64 0,.int .i64 0,.int .i64 0,.int .i64 0],.int .i64 6],by simp[results,Tryz.results73,go_sem,q0,q1,q2,q3],?_⟩
     exact .inr (.inr ⟨rfl,o9.out Bn E5⟩)
   ·have h3:once=false:=by have:=iO.out;rw[qj]at this;simpa using this
    subst h3
    go_wp2_with fail
    refine HG.out.mono ?_
    rintro e w8 ⟨er,rfl,h8⟩
    rcases h8 with⟨rfl,h9⟩|⟨rfl,h9⟩
    ·have Ct:=Lib.hid (Xv.out x w8 h9)
     clear h9 HG
     go_wp2_with fail
     refine Ct.out.mono ?_
     rintro e w9 (⟨F,N,C,rfl,h9⟩|⟨rfl,h9⟩)
     ·clear Ct
      have B9:=Bq.out x F N C _ _ w9 rfl h9
      have g9:w9.cell? ⟨P.ob,0,none⟩=some (.int .i64 0)∧w9.cell? ⟨P.ob,1,none⟩=some (.int .i64 0)∧w9.cell? ⟨P.ob,2,none⟩=some (.int .i64 0)∧w9.cell? ⟨P.ob,3,none⟩=some (.int .i64 0):=⟨B9.cell 0,B9.cell 1,B9.cell 2,B9.cell 3⟩
      have f9:w9.frozen? ⟨P.ob,0,none⟩=false∧w9.frozen? ⟨P.ob,1,none⟩=false∧w9.frozen? ⟨P.ob,2,none⟩=false∧w9.frozen? ⟨P.ob,3,none⟩=false:=⟨B9.free 0,B9.free 1,B9.free 2,B9.free 3⟩
      obtain⟨fV,fU,fT,fS⟩:=g9
      obtain⟨f90,f91,f92,f93⟩:=f9
      have H9:=Lib.hid (Vp.out x F N C w9 h9)
      clear h9 B9
      go_wp2
      generalize((((w9.setCell ⟨P.ob,0,none⟩ (.int .i64 (F:Nat))).setCell ⟨P.ob,1,none⟩ (.int .i64 (N:Nat))).setCell ⟨P.ob,2,none⟩ (.int .i64 (P.k:Nat))).setCell ⟨P.ob,3,none⟩ (.int .i64 (C:Nat)))=Fl at*
      refine leaves_cons (f:=38) (args:=#[.pointer (some ⟨x,0,none⟩)]) (by simp) (by simp[go_sem]) ?_
      refine(zN.out x F N C _ _ _ H9.out).mono ?_
      rintro e u1 Bn ⟨rfl,rfl,E5⟩
      have Ey:=Bq.out x F N C _ _ Bn (IA.out F N C) E5
      have q0:Bn.cell? ⟨P.ob,0,none⟩=some (.int .i64 (F:Nat)):=Ey.cell 0
      have q1:Bn.cell? ⟨P.ob,1,none⟩=some (.int .i64 (N:Nat)):=Ey.cell 1
      have q2:Bn.cell? ⟨P.ob,2,none⟩=some (.int .i64 (P.k:Nat)):=Ey.cell 2
      have q3:Bn.cell? ⟨P.ob,3,none⟩=some (.int .i64 (C:Nat)):=Ey.cell 3
      refine⟨.tuple #[.agg #[.int .i64 (F:Nat),.int .i64 (N:Nat),.int .i64 P.k,.int .i64 (C:Nat)],.int .i64 0],by simp[results,Tryz.results73,go_sem,q0,q1,q2,q3],?_⟩
      exact .inr (.inl ⟨x,F,N,C,rfl,gX.out x F N C Bn E5⟩)
     ·clear Ct
      have B9:=Q9.out x w9 h9
      have g9:w9.cell? ⟨P.ob,0,none⟩=some (.int .i64 0)∧w9.cell? ⟨P.ob,1,none⟩=some (.int .i64 0)∧w9.cell? ⟨P.ob,2,none⟩=some (.int .i64 0)∧w9.cell? ⟨P.ob,3,none⟩=some (.int .i64 0):=⟨B9.cell 0,B9.cell 1,B9.cell 2,B9.cell 3⟩
      have f9:w9.frozen? ⟨P.ob,0,none⟩=false∧w9.frozen? ⟨P.ob,1,none⟩=false∧w9.frozen? ⟨P.ob,2,none⟩=false∧w9.frozen? ⟨P.ob,3,none⟩=false:=⟨B9.free 0,B9.free 1,B9.free 2,B9.free 3⟩
      obtain⟨fV,fU,fT,fS⟩:=g9
      obtain⟨f90,f91,f92,f93⟩:=f9
      have H9:=Lib.hid (ot.out x w9 h9)
      clear h9 B9
      go_wp2
      generalize((((w9.setCell ⟨P.ob,0,none⟩ (.int .i64 0)).setCell ⟨P.ob,1,none⟩ (.int .i64 0)).setCell ⟨P.ob,2,none⟩ (.int .i64 0)).setCell ⟨P.ob,3,none⟩ (.int .i64 0))=Fl at*
      refine leaves_cons (f:=38) (args:=#[.pointer (some ⟨x,0,none⟩)]) (by simp) (by simp[go_sem]) ?_
      refine(ji.out x _ _ H9.out).mono ?_
      rintro e u1 Bn ⟨rfl,rfl,E5⟩
      have Ey:=Vu.out Bn E5
      have q0:Bn.cell? ⟨P.ob,0,none⟩=some (.int .i64 0):=Ey.cell 0
      have q1:Bn.cell? ⟨P.ob,1,none⟩=some (.int .i64 0):=Ey.cell 1
      have q2:Bn.cell? ⟨P.ob,2,none⟩=some (.int .i64 0):=Ey.cell 2
      have q3:Bn.cell? ⟨P.ob,3,none⟩=some (.int .i64 0):=Ey.cell 3
      refine⟨.tuple #[.agg #[.int .i64 0,.int .i64 0,.int .i64 0,.int .i64 0],.int .i64 6],by simp[results,Tryz.results73,go_sem,q0,q1,q2,q3],?_⟩
      exact .inr (.inr ⟨rfl,o9.out Bn E5⟩)
    ·clear HG
     generalize w8=w9 at*
     have B9:=Q9.out x w9 h9
     have g9:w9.cell? ⟨P.ob,0,none⟩=some (.int .i64 0)∧w9.cell? ⟨P.ob,1,none⟩=some (.int .i64 0)∧w9.cell? ⟨P.ob,2,none⟩=some (.int .i64 0)∧w9.cell? ⟨P.ob,3,none⟩=some (.int .i64 0):=⟨B9.cell 0,B9.cell 1,B9.cell 2,B9.cell 3⟩
     have f9:w9.frozen? ⟨P.ob,0,none⟩=false∧w9.frozen? ⟨P.ob,1,none⟩=false∧w9.frozen? ⟨P.ob,2,none⟩=false∧w9.frozen? ⟨P.ob,3,none⟩=false:=⟨B9.free 0,B9.free 1,B9.free 2,B9.free 3⟩
     obtain⟨fV,fU,fT,fS⟩:=g9
     obtain⟨f90,f91,f92,f93⟩:=f9
     have H9:=Lib.hid (ot.out x w9 h9)
     clear h9 B9
     go_wp2
     generalize((((w9.setCell ⟨P.ob,0,none⟩ (.int .i64 0)).setCell ⟨P.ob,1,none⟩ (.int .i64 0)).setCell ⟨P.ob,2,none⟩ (.int .i64 0)).setCell ⟨P.ob,3,none⟩ (.int .i64 0))=Fl at*
     refine leaves_cons (f:=38) (args:=#[.pointer (some ⟨x,0,none⟩)]) (by simp) (by simp[go_sem]) ?_
     refine(ji.out x _ _ H9.out).mono ?_
     rintro e u1 Bn ⟨rfl,rfl,E5⟩
     have Ey:=Vu.out Bn E5
     have q0:Bn.cell? ⟨P.ob,0,none⟩=some (.int .i64 0):=Ey.cell 0
     have q1:Bn.cell? ⟨P.ob,1,none⟩=some (.int .i64 0):=Ey.cell 1
     have q2:Bn.cell? ⟨P.ob,2,none⟩=some (.int .i64 0):=Ey.cell 2
     have q3:Bn.cell? ⟨P.ob,3,none⟩=some (.int .i64 0):=Ey.cell 3
     refine⟨.tuple #[.agg #[.int .i64 0,.int .i64 0,.int .i64 0,.int .i64 0],.int .i64 6],by simp[results,Tryz.results73,go_sem,q0,q1,q2,q3],?_⟩
     exact .inr (.inr ⟨rfl,o9.out Bn E5⟩)
end
structure SP where
 X:Cx
 AO:List AU
 sb:Nat
 rb:Nat
 Ak:Nat
 o:AB
 once:Bool
 k:Nat
 hh:Nat
 first:Nat
 nb:Nat
 count:Nat
 l:List AB
 m:Nat
 b2:Nat
 b3:Nat
 b4:Nat
 b6:Nat
 b7:Nat
def AP(b F N k C:Nat):AU:=AI b 39 [.int .i64 (F:Nat),.int .i64 (N:Nat),.int .i64 (k:Nat),.int .i64 (C:Nat)]
def SP.bs(P:SP)(q:Nat):List AU:=[AI P.b2 93 [.pointer (some ⟨P.sb,0,none⟩)],AP P.b3 P.first P.nb P.k P.count,AP P.b4 0 0 0 0,AI P.b6 3 [.int .i64 (q:Nat)]]
structure SP.Ok (P:SP) (js:Nat):Prop where
 row:P.AO[js]?=some (AI P.sb 98 (Bc P.X.p.w P.k P.hh P.rb P.Ak P.o P.once P.count))
 f:Jr P.first P.nb P.k P.hh P.l P.X.sz
 c:P.l.length=P.count
 src:Src P.AO P.X.sz P.first P.k P.hh P.l
 rb:0<P.rb∧P.rb≤100000
 Ak:2≤P.Ak∧P.Ak≤1000000
 room1:Aa AU.gw P.AO+2*P.X.sz+P.rb*P.hh*P.k≤P.X.rm
 room2:Aa AU.gw P.AO+P.X.sz+P.Ak*P.k+P.Ak*P.X.sz≤P.X.rm
 rm:P.X.rm≤1000000
 n:P.X.N+P.m+40*P.nb+3*P.count+10≤1000000
 prod:P.nb*P.Ak≤100000000
structure SP.Sd (P:SP) (q i:Nat) (l':List AB) (m':Nat):Prop where
 pw:2^i≤q
 ib:i=0∨2^(i-1)<P.nb
 m:m'≤P.m+2*P.nb*(1+i)
 kind:(q<P.nb∧l'.length=P.count∧TG P.o (q*P.hh) l'∧Cl P.o P.l l')∨(P.nb≤q∧∃s,Gz P.o s∧Cl P.o P.l s∧l'=BC P.once P.o s)
def SP.A(P:SP)(q i F N C:Nat)(W:World):Prop:=∃l' m',P.Sd q i l' m'∧Jr F N P.k P.hh l' P.X.sz∧C=l'.length∧Wd P.X (P.AO++P.bs q++[Cb F N P.k P.hh l' P.X.sz,AP P.b7 F N P.k C]) m' W
def SP.vE(P:SP)(er:Int):Prop:=(er=5∧∀z,¬Rm P.X P.AO z (3*P.nb))∨(er=6∧¬P.X.cm)
def SP.E(P:SP)(er:Int)(q:Nat)(W:World):Prop:=P.vE er∧∃m',Wd P.X (P.AO++P.bs q++[AP P.b7 0 0 0 0]) m' W
section
variable {P : SP} {q i js : Nat} {W W' : World} {X : Cx} {os : List AU} {m : Nat} {a : AU}
theorem Wd.rq(h:Wd X os m W){j:Nat}(hi:os[j]?=some a)(hx:0<a.ex.2):a.ex.1+a.ex.2≤2000000:=by
 obtain⟨G,D,A,S,h⟩:=h
 have h1:=h.exs j a hi (a.ex.1+a.ex.2-1) ⟨by omega,by omega⟩
 have h2:=(h.s0.2.2.has h1).2
 have h3:=h.s0.1
 have h4:=h.s0.2.1
 omega
theorem I1(q:Nat):GP (P.bs q):=AM ⟨rfl,rfl⟩ (AM ⟨rfl,rfl⟩ (AM ⟨rfl,rfl⟩ (AM ⟨rfl,rfl⟩ BQ)))
theorem Fx:∀(l:List AU) (_:GP l),Aa AU.gw l=0
 |[],_=>rfl
 |a::l,h=>by
  rw[BZ,Fx l fun q hq=>h q (List.mem_cons_of_mem _ hq)]
  have h1:=(h a List.mem_cons_self).1
  unfold AU.gw;rw[h1]
theorem aX{o:AB}{once:Bool}{k hh bd x tT fP n:Nat}{vT:Value}{Z:List AB→List AU}(hS:bM X o once k hh bd x tT fP vT Z n){s:List AB}(hs:s.length≤bd):Aa AU.gw (Z s)=X.sz:=by
 obtain⟨t,r,e1,_,_,_,_,_,h6⟩:=hS.hd s hs
 rw[e1,BZ,Fx r h6];rfl
theorem YN{p:Wp}{x:Nat}{t:Wt}{sz:Nat}(h:Wd X os m W){j:Nat}(hi:os[j]?=some (RE p x t sz)):Wd X (os.set j (Cb (Af t) (AA t.h t.l.length) t.k t.h t.l sz)) m W:=
 h.YO hi Qd (fun _=>trivial) (fun _ hk=>hk.elim) rfl rfl (fun _ hd=>hd)
theorem bC{o:AB}{k:Nat}{l s:List AB}(h:Cl o l s)(hf:Dg k l):Dg k s:=fun u hu=>hf u (h.symm.mem hu)
theorem Zh{on:Bool}{o:AB}{k:Nat}{s:List AB}(hf:Dg k s):Dg k (BC on o s):=fun u hu=>by
 unfold BC at hu
 split at hu
 ·exact hf u (Kt hu)
 ·exact hf u hu
theorem Uf{o:AB}{q:Nat}{s:List AB}(h:TG o q s)(hl:s.length≤q):Gz o s:=by
 have h1:=h 0
 rwa [Nat.zero_mul,List.drop_zero,List.take_of_length_le hl]at h1
theorem SP.Ok.file(hP:P.Ok js){t:Wt}{on:Bool}{s:List AB}(ht:B8 t P.X.sz)(_hk:t.k=P.k)(_hh:t.h=P.hh)(hl:t.l=BC on P.o s)(hs:s.length≤P.count)(hf:Dg P.k s):Jr (Af t) (AA P.hh t.l.length) P.k P.hh t.l P.X.sz∧AA P.hh t.l.length≤P.nb:=by
 have h1:=M8 on P.o s
 rw[←hl]at h1
 have h2:=hP.f.len
 rw[hP.c]at h2
 refine⟨⟨hP.f.kk,hP.f.hh,hP.f.N7,rfl,by omega,?_,by rw[hl];exact Zh hf⟩,?_⟩
 ·unfold Af;have:=ht.first;split<;>omega
 ·have h3:=hP.f.bn
  rw[hP.c]at h3
  rw[h3];exact Am hP.f.hh.1 (by omega)
theorem Rm.less{AO z2:List AU}{F n z:Nat}(h:Rm X AO z (3*n))(hz:∀a∈z2,a.ex.2=0∨(a.ex=(F,n))):∃z',Rm X (AO++z2) z' n:=by
 have key:∀z',z≤z'→z'+n≤z+3*n→(z'+n≤F∨F+n≤z')→Rm X (AO++z2) z' n:=fun z' h1 h2 h3 y vt hy2=>by
  obtain⟨k1,k2⟩:=h y (by omega) (by omega)
  refine⟨k1,fun i a hi=>?_⟩
  rcases List.mem_append.1 (List.mem_of_getElem? hi)with hm|hm
  ·obtain⟨j,hj,e⟩:=List.getElem_of_mem hm
   exact k2 j a (by rw[List.getElem?_eq_getElem hj,e])
  ·rcases hz a hm with h4|h4
   ·unfold En;rw[h4];omega
   ·unfold En;rw[h4]
    show ¬(F≤y∧y<F+n)
    omega
 rcases Nat.lt_or_ge F (z+n)with h1|h1
 ·exact⟨z+2*n,key _ (by omega) (by omega) (by omega)⟩
 ·exact⟨z,key _ (by omega) (by omega) (by omega)⟩
def SP.V1(P:SP)(ob:Nat):VP:=⟨P.X,P.AO++P.bs P.rb,P.o,decide (P.nb≤P.rb)&&P.once,P.k,P.hh,P.count,ob,P.m,P.nb,fun s=>s.length=P.count∧TG P.o (P.rb*P.hh) s∧Cl P.o P.l s⟩
def SP.V2(P:SP)(ob q F N C b9 m:Nat)(l':List AB):VP:=⟨P.X,P.AO++(P.bs q++[Cb F N P.k P.hh l' P.X.sz,AP P.b7 F N P.k C,AP b9 F N P.k C]),P.o,decide (P.nb≤q*P.Ak)&&P.once,P.k,P.hh,P.count,ob,m,P.nb,fun s=>s.length=P.count∧TG P.o (q*P.Ak*P.hh) s∧Cl P.o l' s⟩
theorem Xh{tT b2 b3 sb:Nat}{vT:Value}{first nb k count:Nat}{Q:Int→World→Prop}(h2:W.cell? ⟨b2,0,none⟩=some (.pointer (some ⟨sb,0,none⟩)))(c0:W.cell? ⟨b3,0,none⟩=some (.int .i64 first))(c1:W.cell? ⟨b3,1,none⟩=some (.int .i64 nb))(c2:W.cell? ⟨b3,2,none⟩=some (.int .i64 k))(c3:W.cell? ⟨b3,3,none⟩=some (.int .i64 count))
  (hF:Calls Tryz.prog 75 #[.pointer (some ⟨sb,0,none⟩),.agg #[.int .i64 first,.int .i64 nb,.int .i64 k,.int .i64 count],.iface tT vT] W fun e w'=>∃er,e=.returned (.int .i64 er)∧Q er w'):
  Calls Tryz.prog 74 (#[.iface tT vT]++#[.pointer (some ⟨b2,0,none⟩),.pointer (some ⟨b3,0,none⟩)]) W fun e w'=>∃er,e=.returned (.int .i64 er)∧Q er w':=by
 have HF:=Lib.hid hF
 clear hF
 show Calls Tryz.prog 74 #[.iface tT vT,.pointer (some ⟨b2,0,none⟩),.pointer (some ⟨b3,0,none⟩)] W _
 go_enter Tryz.func74,Tryz.ntmps74
 go_wp2_with fail
 refine HF.out.mono ?_
 rintro e w' ⟨er,rfl,h⟩
 have HQ:=Lib.hid h
 clear h HF
 go_wp2
 go_ret
 exact⟨_,rfl,HQ.out⟩
theorem Xg{tT b2 b9 b6 sb q:Nat}{vT:Value}{first nb k count:Nat}{Q:Int→World→Prop}(h2:W.cell? ⟨b2,0,none⟩=some (.pointer (some ⟨sb,0,none⟩)))(c0:W.cell? ⟨b9,0,none⟩=some (.int .i64 first))(c1:W.cell? ⟨b9,1,none⟩=some (.int .i64 nb))(c2:W.cell? ⟨b9,2,none⟩=some (.int .i64 k))(c3:W.cell? ⟨b9,3,none⟩=some (.int .i64 count))(c6:W.cell? ⟨b6,0,none⟩=some (.int .i64 q))
  (hF:Calls Tryz.prog 77 #[.pointer (some ⟨sb,0,none⟩),.agg #[.int .i64 first,.int .i64 nb,.int .i64 k,.int .i64 count],.int .i64 q,.iface tT vT] W fun e w'=>∃er,e=.returned (.int .i64 er)∧Q er w'):
  Calls Tryz.prog 76 (#[.iface tT vT]++#[.pointer (some ⟨b2,0,none⟩),.pointer (some ⟨b9,0,none⟩),.pointer (some ⟨b6,0,none⟩)]) W fun e w'=>∃er,e=.returned (.int .i64 er)∧Q er w':=by
 have HF:=Lib.hid hF
 clear hF
 show Calls Tryz.prog 76 #[.iface tT vT,.pointer (some ⟨b2,0,none⟩),.pointer (some ⟨b9,0,none⟩),.pointer (some ⟨b6,0,none⟩)] W _
 go_enter Tryz.func76,Tryz.ntmps76
 go_wp2_with fail
 refine HF.out.mono ?_
 rintro e w' ⟨er,rfl,h⟩
 have HQ:=Lib.hid h
 clear h HF
 go_wp2
 go_ret
 exact⟨_,rfl,HQ.out⟩
theorem mT(hP:P.Ok js)(ob:Nat):(P.V1 ob).X0 74 #[.pointer (some ⟨P.b2,0,none⟩),.pointer (some ⟨P.b3,0,none⟩)]:=by
 intro x tT fP n vT Z W hS hw
 have Dv:=hP.f.len
 rw[hP.c]at Dv
 have EV:Wd P.X (P.AO++(P.bs P.rb++[(P.V1 ob).bx 0 0 0 0]++Z [])) P.m W:=by
  have h:=hw
  rw[List.append_assoc,show (P.V1 ob).AO=P.AO++P.bs P.rb from rfl,List.append_assoc]at h
  rw[List.append_assoc];exact h
 have Ap:=EV.row (AL P.AO (P.bs P.rb++[(P.V1 ob).bx 0 0 0 0]++Z []) 0)
 have Cm:=EV.row (AL P.AO (P.bs P.rb++[(P.V1 ob).bx 0 0 0 0]++Z []) 1)
 have hg:Aa AU.gw ((P.V1 ob).AO++[(P.V1 ob).bx 0 0 0 0]++Z [])=Aa AU.gw P.AO+P.X.sz:=by
  rw[BI,aX hS (Nat.zero_le _),CR]
  show Aa AU.gw (P.AO++P.bs P.rb)+0+P.X.sz= _
  rw[BI,Fx _ (I1 _)];rfl
 have hn:=hP.n
 have h1:=hP.room1
 have h2:min P.count (P.rb*P.hh)*P.k≤P.rb*P.hh*P.k:=Nat.mul_le_mul_right _ (Nat.min_le_right _ _)
 have JE:=hP.rm
 have hroom:P.X.sz+(min P.count (P.rb*P.hh)*P.k)+Aa AU.gw ((P.V1 ob).AO++[(P.V1 ob).bx 0 0 0 0]++Z [])≤P.X.rm:=by rw[hg];omega
 have lN:P.X.N+P.m+3*P.count+3≤1000000:=by omega
 have oT:=dH (AO:=(P.V1 ob).AO++[(P.V1 ob).bx 0 0 0 0]) (js:=js) (count:=P.count) hS (Ae (Ae hP.row)) hw hP.f hP.c hP.src.app.app hP.rb hroom JE ⟨Nat.le_refl _,Dv⟩ lN
 refine(Xh (Q:=fun er w'=>(er=0∧∃s,(P.V1 ob).R s∧s.length≤P.count∧Wd P.X ((P.V1 ob).AO++[(P.V1 ob).bx 0 0 0 0]++Z s) (P.m+P.nb+ES (P.V1 ob).on P.o P.hh s) w')∨(er=6∧¬P.X.cm∧∃z m',L6 P.X x P.count n Z z∧Wd P.X ((P.V1 ob).AO++[(P.V1 ob).bx 0 0 0 0]++z) m' w')) (Ap.cell 0) (Cm.cell 0) (Cm.cell 1) (Cm.cell 2) (Cm.cell 3) (oT.mono ?_)).mono ?_
 ·rintro e w' (⟨he,s,k1,k2,k3,k4,k5⟩|⟨he,DP,z,m',k1,k2⟩)
  ·exact⟨0,he,.inl ⟨rfl,s,⟨k1,k2,k3⟩,by rw[k1];exact Nat.le_refl _,k5⟩⟩
  ·exact⟨6,he,.inr ⟨rfl,DP,z,m',k1,k2⟩⟩
 ·rintro e w' ⟨er,he,(⟨rfl,h⟩|⟨rfl,h⟩)⟩
  ·exact .inl ⟨he,h⟩
  ·exact .inr ⟨he,h⟩
end
def SP.CC(P:SP)(q i F' N' k' C':Nat)(er:Int)(q6:Nat)(f1 b7 b9:AU)(W:World):Prop:=
 (er=0∧k'=P.k∧∃l' m',P.Sd (q*P.Ak) (i+1) l' m'∧Jr F' N' P.k P.hh l' P.X.sz∧C'=l'.length∧Wd P.X (P.AO++(P.bs q6++[f1,b7,b9])++[Cb F' N' P.k P.hh l' P.X.sz]) m' W)∨
 (P.vE er∧(F'=0∧N'=0∧k'=0∧C'=0)∧∃m',Wd P.X (P.AO++(P.bs q6++[f1,b7,b9])++[]) m' W)
section
variable {P : SP} {q i js F N C F' N' k' C' FW q6 m : Nat} {er : Int} {W W' : World} {f1 b7 b9 : AU} {l' : List AB} {z : List AU}
theorem Il(j:Nat):(P.AO++(P.bs q6++[f1,b7,b9])++z)[P.AO.length+j]?=(P.bs q6++[f1,b7,b9]++z)[j]?:=by rw[List.append_assoc];exact AL _ _ j
theorem Tb(j:Nat)(v:AU):(P.AO++(P.bs q6++[f1,b7,b9])++z).set (P.AO.length+j) v=P.AO++(P.bs q6++[f1,b7,b9]++z).set j v:=by
 rw[List.append_assoc,List.set_append_right _ _ (by omega),Nat.add_sub_cancel_left]
theorem SP.CC.map{yG b7' b9':AU}{zx:Nat}(h:P.CC q i F' N' k' C' er q6 f1 b7 b9 W)(hw:∀z m,Wd P.X (P.AO++(P.bs q6++[f1,b7,b9])++z) m W→Wd P.X (P.AO++(P.bs zx++[yG,b7',b9'])++z) m W'):P.CC q i F' N' k' C' er zx yG b7' b9' W':=by
 rcases h with⟨h1,h2,l',m',h3,h4,h5,h6⟩|⟨h1,h2,m',h6⟩
 ·exact .inl ⟨h1,h2,l',m',h3,h4,h5,hw _ _ h6⟩
 ·exact .inr ⟨h1,h2,m',hw _ _ h6⟩
theorem SP.CC.get(h:P.CC q i F' N' k' C' er q6 f1 b7 b9 W):∃z m,Wd P.X (P.AO++(P.bs q6++[f1,b7,b9])++z) m W:=by
 rcases h with⟨_,_,l',m',_,_,_,h6⟩|⟨_,_,m',h6⟩
 ·exact⟨_,_,h6⟩
 ·exact⟨_,_,h6⟩
theorem SP.CC.below(h:P.CC q i F' N' k' C' er q6 f1 b7 b9 W)(hb:Below W.heap.size W W'):P.CC q i F' N' k' C' er q6 f1 b7 b9 W':=h.map fun _ _ hw=>hw.below hb
theorem SP.CC.jy{g:Nat}{c0 c1 c2 c3:Value}{A B K D:Nat}(h:P.CC q i F' N' k' C' er q6 f1 (AI g 39 [c0,c1,c2,c3]) b9 W)(hw:W'=((((W.setCell ⟨g,0,none⟩ (.int .i64 (A:Nat))).setCell ⟨g,1,none⟩ (.int .i64 (B:Nat))).setCell ⟨g,2,none⟩ (.int .i64 (K:Nat))).setCell ⟨g,3,none⟩ (.int .i64 (D:Nat)))):P.CC q i F' N' k' C' er q6 f1 (AP g A B K D) b9 W':=by
 refine h.map fun z m h1=>?_
 have Bp:(P.AO++(P.bs q6++[f1,AI g 39 [c0,c1,c2,c3],b9])++z)[P.AO.length+5]?=some (AI g 39 [c0,c1,c2,c3]):=Il 5
 obtain⟨k1,k2⟩:=D8 (F:=A) (N:=B) (k:=K) (C:=D) (h1.row Bp)
 have h2:=h1.Jz Bp (by decide) k2 k1
 rw[Tb]at h2
 rw[hw,List.append_assoc];exact h2
theorem SP.CC.jz{n:Nat}(h:P.CC q i F' N' k' C' er q6 f1 b7 b9 W):P.CC q i F' N' k' C' er n f1 b7 b9 (W.setCell ⟨P.b6,0,none⟩ (.int .i64 (n:Nat))):=by
 refine h.map fun z m h1=>?_
 have Bp:(P.AO++(P.bs q6++[f1,b7,b9])++z)[P.AO.length+3]?=some (AI P.b6 3 [.int .i64 (q6:Nat)]):=Il 3
 have h2:=h1.store Bp (by decide) 0 (.int .i64 (n:Nat))
 rw[Tb]at h2
 rw[List.append_assoc];exact h2
theorem SP.CC.free{k hh sz:Nat}{l0:List AB}(h:P.CC q i F' N' k' C' er q6 (Cb F N k hh l0 sz) b7 b9 W)(hf:F≤2000000)(hn:N≤2000000)(c:Nat):Calls Tryz.prog 49 #[.pointer (some ⟨P.X.p.w,0,none⟩),.agg #[.int .i64 (F:Nat),.int .i64 (N:Nat),.int .i64 (k:Nat),.int .i64 (c:Nat)]] W fun e w'=>e=.returned (.int .i64 0)∧P.CC q i F' N' k' C' er q6 Bl b7 b9 w':=by
 have key:∀z m,Wd P.X (P.AO++(P.bs q6++[Cb F N k hh l0 sz,b7,b9])++z) m W→Calls Tryz.prog 49 #[.pointer (some ⟨P.X.p.w,0,none⟩),.agg #[.int .i64 (F:Nat),.int .i64 (N:Nat),.int .i64 (k:Nat),.int .i64 (c:Nat)]] W fun e w'=>e=.returned (.int .i64 0)∧Wd P.X (P.AO++(P.bs q6++[Bl,b7,b9])++z) m w':=fun z m h1=>by
  have Bp:(P.AO++(P.bs q6++[Cb F N k hh l0 sz,b7,b9])++z)[P.AO.length+4]?=some (Cb F N k hh l0 sz):=Il 4
  refine(Uu h1 Bp hf hn c).mono ?_
  rintro e w' ⟨he,h2⟩
  rw[Tb]at h2
  exact⟨he,by rw[List.append_assoc];exact h2⟩
 rcases h with⟨h1,h2,l',m',h3,h4,h5,h6⟩|⟨h1,h2,m',h6⟩
 ·exact(key _ _ h6).mono fun e w' ⟨he,h7⟩=>⟨he,.inl ⟨h1,h2,l',m',h3,h4,h5,h7⟩⟩
 ·exact(key _ _ h6).mono fun e w' ⟨he,h7⟩=>⟨he,.inr ⟨h1,h2,m',h7⟩⟩
theorem SP.CC.fin(h:P.CC q i F' N' k' C' er (q*P.Ak) Bl (AP P.b7 F' N' k' C') (AP FW F N P.k C) W):(er=0∧P.A (q*P.Ak) (i+1) F' N' C' W)∨P.E er (q*P.Ak) W:=by
 rcases h with⟨h1,h2,l',m',h3,h4,h5,h6⟩|⟨h1,⟨e1,e2,e3,e4⟩,m',h6⟩
 ·subst h2
  refine .inl ⟨h1,l',m',h3,h4,h5,?_⟩
  have h7:=Wd.perm (os':=P.AO++P.bs (q*P.Ak)++[Cb F' N' P.k P.hh l' P.X.sz,AP P.b7 F' N' P.k C']++[Bl,AP FW F N P.k C]) h6 (by
   rw[List.append_assoc,List.append_assoc,List.append_assoc,List.append_assoc]
   refine List.Perm.append_left _ (List.Perm.append_left _ ?_)
   show List.Perm [_,_,Bl,_] [Bl,_,_,_]
   refine(List.perm_append_comm (l₁:=[Cb F' N' P.k P.hh l' P.X.sz,AP P.b7 F' N' P.k C']) (l₂:=[Bl,AP FW F N P.k C])).trans ?_
   refine List.Perm.cons _ ?_
   exact(List.perm_append_comm (l₁:=[AP FW F N P.k C,Cb F' N' P.k P.hh l' P.X.sz]) (l₂:=[AP P.b7 F' N' P.k C'])).trans (List.Perm.refl _))
  exact h7.forget (AM ⟨rfl,rfl⟩ (AM ⟨rfl,rfl⟩ BQ))
 ·subst e1 e2 e3 e4
  refine .inr ⟨h1,m',?_⟩
  rw[List.append_nil]at h6
  have h7:=Wd.perm (os':=P.AO++P.bs (q*P.Ak)++[AP P.b7 0 0 0 0]++[Bl,AP FW F N P.k C]) h6 (by
   rw[List.append_assoc,List.append_assoc]
   refine List.Perm.append_left _ (List.Perm.append_left _ ?_)
   exact List.perm_append_comm (l₁:=[AP P.b7 0 0 0 0]) (l₂:=[Bl,AP FW F N P.k C])|>.trans (List.Perm.cons _ (List.Perm.swap _ _ _)))
  exact h7.forget (AM ⟨rfl,rfl⟩ (AM ⟨rfl,rfl⟩ BQ))
theorem mR (hP : P.Ok js) (ob : Nat) (eu : P.Sd q i l' m) (hq : q < P.nb) (hf : Jr F N P.k P.hh l' P.X.sz) (hC : C = l'.length) : (P.V2 ob q F N C FW m l').X0 76 #[.pointer (some ⟨P.b2, 0, none⟩), .pointer (some ⟨FW, 0, none⟩), .pointer (some ⟨P.b6, 0, none⟩)] := by
  intro x tT fP n vT Z W hS hw
  obtain ⟨hi, hib, hm, hk⟩ := eu
  rcases hk with ⟨_, hl, hch, Dv⟩ | ⟨h1, _⟩
  · have KM := hP.f.len
    rw [hP.c] at KM
    have Hz : N = P.nb := by
      have h1 := hf.bn
      have h2 := hP.f.bn
      rw [h1, h2, hl, hP.c]
    have XH : P.nb ≤ P.count := by
      have h2 := hP.f.bn
      rw [hP.c] at h2
      rw [h2]; exact BM _ _
    have xO : i ≤ 17 := by
      rcases hib with h1 | h1
      · omega
      · rcases Nat.lt_or_ge 17 i with h2 | h2
        · have h3 : 2 ^ 17 ≤ 2 ^ (i - 1) := Nat.pow_le_pow_right (by omega) (by omega)
          have h4 : (2 : Nat) ^ 17 = 131072 := by decide
          omega
        · exact h2
    have hm2 : m ≤ P.m + 36 * P.nb := by
      have h1 : 2 * P.nb * (1 + i) ≤ 2 * P.nb * 18 := Nat.mul_le_mul_left _ (by omega)
      omega
    have hn := hP.n
    have X9 : Wd P.X (P.AO ++ (P.bs q ++ [Cb F N P.k P.hh l' P.X.sz, AP P.b7 F N P.k C, AP FW F N P.k C]) ++ ([(P.V2 ob q F N C FW m l').bx 0 0 0 0] ++ Z [])) m W := by
      rw [← List.append_assoc]; exact hw
    have Ap := X9.row (Il 0)
    have FJ := X9.row (Il 3)
    have N5 := X9.row (Il 6)
    have fI : (P.AO ++ (P.bs q ++ [Cb F N P.k P.hh l' P.X.sz, AP P.b7 F N P.k C, AP FW F N P.k C]) ++ ([(P.V2 ob q F N C FW m l').bx 0 0 0 0] ++ Z []))[P.AO.length + 4]? = some (Cb F N P.k P.hh l' P.X.sz) := Il 4
    have hFN : F + N ≤ 2000000 := X9.rq fI (by show 0 < N; omega)
    have hg : ∀ s, s.length ≤ P.count → Aa AU.gw ((P.V2 ob q F N C FW m l').AO ++ [(P.V2 ob q F N C FW m l').bx 0 0 0 0] ++ Z s) = Aa AU.gw P.AO + P.X.sz := fun s hs => by
      rw [BI, aX hS hs, CR]
      show Aa AU.gw (P.AO ++ (P.bs q ++ [Cb F N P.k P.hh l' P.X.sz, AP P.b7 F N P.k C, AP FW F N P.k C])) + 0 + P.X.sz = _
      rw [BI, BI, Fx _ (I1 _)]; rfl
    let Q : JP := ⟨P.X, (P.V2 ob q F N C FW m l').AO ++ [(P.V2 ob q F N C FW m l').bx 0 0 0 0], Z, P.o, (P.V2 ob q F N C FW m l').on, P.k, P.hh, P.count, x, tT, fP, vT, n, m, F, N, P.count, q, P.Ak, q * P.Ak, l'⟩
    have AB9 := hP.room2
    have Bw : 0 < q := Nat.lt_of_lt_of_le (Nat.pow_pos (by omega)) hi
    have hQ : Q.Ok := {
      S := hS
      f := hf
      c := hl
      src := by
        refine Src.app ⟨P.AO.length + 4, Cb F N P.k P.hh l' P.X.sz, AL P.AO _ 4, fun D hD hd => ?_, fun _ => ?_⟩
        · have h1 := hd hD
          rw [hf.bn] at h1; exact h1
        · show F ≤ F ∧ F + AA P.hh l'.length ≤ F + N
          rw [hf.bn]; omega
      rb := ⟨Bw, by show q ≤ 1000000; omega⟩
      Ak := ⟨by have := hP.Ak.1; show 0 < P.Ak; omega, hP.Ak.2⟩
      L := rfl
      fst := hFN
      asc := hch
      room := fun s hs => by
        show Aa AU.gw ((P.V2 ob q F N C FW m l').AO ++ [(P.V2 ob q F N C FW m l').bx 0 0 0 0] ++ Z s) + P.Ak * P.k + P.Ak * P.X.sz ≤ P.X.rm
        rw [hg s hs]; omega
      rm := hP.rm
      bd := ⟨Nat.le_refl _, KM⟩
      n := by show P.X.N + m + N + P.count + 3 ≤ 1000000; omega }
    have uR : q * P.Ak ≤ 100000000 := Nat.le_trans (Nat.mul_le_mul_right _ (by omega)) hP.prod
    have hCc : C = P.count := by rw [hC, hl]
    subst hCc
    refine (Xg (Q := fun er w' => (er = 0 ∧ ∃ s, (P.V2 ob q F N P.count FW m l').R s ∧ s.length ≤ P.count ∧ Wd P.X ((P.V2 ob q F N P.count FW m l').AO ++ [(P.V2 ob q F N P.count FW m l').bx 0 0 0 0] ++ Z s) (m + P.nb + ES (P.V2 ob q F N P.count FW m l').on P.o P.hh s) w') ∨ (er = 6 ∧ ¬ P.X.cm ∧ ∃ z m', L6 P.X x P.count n Z z ∧ Wd P.X ((P.V2 ob q F N P.count FW m l').AO ++ [(P.V2 ob q F N P.count FW m l').bx 0 0 0 0] ++ z) m' w')) (Ap.cell 0) (N5.cell 0) (N5.cell 1) (N5.cell 2) (N5.cell 3) (FJ.cell 0) ((dG (P := Q) (js := js) (Qu := P.rb) (MH := P.once) hQ (Ae (Ae hP.row)) uR hw).mono ?_)).mono ?_
    · rintro e w' (⟨he, s, k1, k2, k3, k5⟩ | ⟨he, DP, z, m', k1, k2⟩)
      · have k6 : Wd P.X ((P.V2 ob q F N P.count FW m l').AO ++ [(P.V2 ob q F N P.count FW m l').bx 0 0 0 0] ++ Z s) (m + N + ES (P.V2 ob q F N P.count FW m l').on P.o P.hh s) w' := k5
        rw [Hz] at k6
        have k7 : s.length = P.count := k1
        exact ⟨0, he, .inl ⟨rfl, s, ⟨k7, k2, k3⟩, by omega, by rw [← Hz]; rw [← Hz] at k6; exact k6⟩⟩
      · exact ⟨6, he, .inr ⟨rfl, DP, z, m', k1, k2⟩⟩
    · rintro e w' ⟨er, he, (⟨rfl, h⟩ | ⟨rfl, h⟩)⟩
      · exact .inl ⟨he, h⟩
      · exact .inr ⟨he, h⟩
  · omega
end
def SP.B1(P:SP)(F N k' C:Nat)(er:Int)(W:World):Prop:=
 (er=0∧k'=P.k∧∃l' m',P.Sd P.rb 0 l' m'∧Jr F N P.k P.hh l' P.X.sz∧C=l'.length∧Wd P.X (P.AO++P.bs P.rb++[Cb F N P.k P.hh l' P.X.sz]) m' W)∨
 (P.vE er∧(F=0∧N=0∧k'=0∧C=0)∧∃m',Wd P.X (P.AO++P.bs P.rb) m' W)
section
variable {P : SP} {q i js F N C FW m : Nat} {W W' : World} {l' : List AB}
theorem SP.Ok.kind(hP:P.Ok js){q:Nat}{s:List AB}(h1:s.length=P.count)(h2:TG P.o (q*P.hh) s)(h3:Cl P.o P.l s):
  (q<P.nb∧(BC (decide (P.nb≤q)&&P.once) P.o s).length=P.count∧TG P.o (q*P.hh) (BC (decide (P.nb≤q)&&P.once) P.o s)∧Cl P.o P.l (BC (decide (P.nb≤q)&&P.once) P.o s))∨(P.nb≤q∧∃s',Gz P.o s'∧Cl P.o P.l s'∧BC (decide (P.nb≤q)&&P.once) P.o s=BC P.once P.o s'):=by
 have OS:=hP.f.bn
 rw[hP.c]at OS
 rcases Nat.lt_or_ge q P.nb with hq|hq
 ·rw[decide_eq_false (by omega),Bool.false_and]
  exact .inl ⟨hq,h1,h2,h3⟩
 ·rw[decide_eq_true hq,Bool.true_and]
  refine .inr ⟨hq,s,Uf h2 ?_,h3,rfl⟩
  rw[h1]
  refine Nat.le_trans (Ik hP.f.hh.1 P.count) ?_
  rw[←OS];exact Nat.mul_le_mul_right _ hq
theorem SP.SY(hP:P.Ok js)(h:Wd P.X (P.AO++P.bs P.rb) P.m W):Calls Tryz.prog 73 #[.pointer (some ⟨P.sb,0,none⟩),.bool (decide (P.nb≤P.rb)),.func (.func 74) #[] #[.pointer (some ⟨P.b2,0,none⟩),.pointer (some ⟨P.b3,0,none⟩)]] W fun e w'=>
  ∃(F N k' C:Nat) (er:Int),e=.returned (.tuple #[.agg #[.int .i64 (F:Nat),.int .i64 (N:Nat),.int .i64 (k':Nat),.int .i64 (C:Nat)],.int .i64 er])∧P.B1 F N k' C er w':=by
 have Dv:=hP.f.len
 rw[hP.c]at Dv
 have OS:=hP.f.bn
 rw[hP.c]at OS
 have hn:=hP.n
 have hr:=hP.room1
 have hg:Aa AU.gw (P.AO++P.bs P.rb)=Aa AU.gw P.AO:=by rw[BI,Fx _ (I1 _)];rfl
 have XH:P.nb≤P.count:=by rw[OS];exact BM _ _
 refine(Od (P:=P.V1 W.heap.size) (once:=P.once) (Ox:=decide (P.nb≤P.rb)) (Ae hP.row) rfl (mT hP _) (fun args w=>by kernel_rfl) hP.f.N7 hP.f.hh.1 Dv (by show P.X.sz+Aa AU.gw (P.AO++P.bs P.rb)≤P.X.rm;rw[hg];omega) (fun s hs=>?_) rfl h).mono ?_
 ·have h1:=JR (P.V1 W.heap.size).on P.o P.hh s
  have h2:s.length=P.count:=hs.1
  show P.X.N+(P.m+P.nb+ES (P.V1 W.heap.size).on P.o P.hh s)<1000000
  omega
 ·rintro e w' (⟨he,h1,h2⟩|⟨x,F,N,C,he,s,t,⟨h1,h2,h3⟩,h4,h5,h6,h7,⟨h8,h9,ID⟩,OT⟩|⟨he,DP,m',h2⟩)
  ·refine⟨0,0,0,0,5,he,.inr ⟨.inl ⟨rfl,fun z hz=>?_⟩,⟨rfl,rfl,rfl,rfl⟩,P.m,h2⟩⟩
   obtain⟨z',vr⟩:=Rm.less (z2:=P.bs P.rb) (F:=0) hz fun a ha=>.inl (I1 _ a ha).2
   refine h1 z' ?_
   show Rm P.X (P.AO++P.bs P.rb) z' (AA P.hh P.count)
   rw[←OS];exact vr
  ·have O4:s.length≤P.count:=by omega
   obtain⟨f1,f2⟩:=hP.file h4 h5 h6 h7 O4 (bC h3 hP.f.fit)
   have E5:Wd P.X (P.AO++P.bs P.rb++[RE P.X.p x t P.X.sz]) (P.m+P.nb+AA P.hh t.l.length) w':=OT
   have Bp:(P.AO++P.bs P.rb++[RE P.X.p x t P.X.sz])[(P.AO++P.bs P.rb).length]?=some (RE P.X.p x t P.X.sz):=AL _ _ 0
   have K6:=YN E5 Bp
   have h5:t.k=P.k:=h5
   have h6:t.h=P.hh:=h6
   have h9:N=AA P.hh t.l.length:=h9
   rw[DI,h5,h6,←h8,←h9]at K6
   have hk:=hP.kind h1 h2 h3
   have h7:t.l=BC (decide (P.nb≤P.rb)&&P.once) P.o s:=h7
   rw[←h7]at hk
   refine⟨F,N,P.k,C,0,he,.inl ⟨rfl,rfl,t.l,P.m+P.nb+N,⟨by rw[Nat.pow_zero];exact hP.rb.1,.inl rfl,by rw[h9];omega,hk⟩,by rw[h8,h9];exact f1,ID,K6⟩⟩
  ·exact⟨0,0,0,0,6,he,.inr ⟨.inr ⟨rfl,DP⟩,⟨rfl,rfl,rfl,rfl⟩,m',h2⟩⟩
theorem SP.To(hP:P.Ok js)(eu:P.Sd q i l' m)(hq:q<P.nb)(hf:Jr F N P.k P.hh l' P.X.sz)(hC:C=l'.length)(h:Wd P.X (P.AO++(P.bs q++[Cb F N P.k P.hh l' P.X.sz,AP P.b7 F N P.k C,AP FW F N P.k C])) m W):
  Calls Tryz.prog 73 #[.pointer (some ⟨P.sb,0,none⟩),.bool (decide (P.nb≤q*P.Ak)),.func (.func 76) #[] #[.pointer (some ⟨P.b2,0,none⟩),.pointer (some ⟨FW,0,none⟩),.pointer (some ⟨P.b6,0,none⟩)]] W fun e w'=>
  ∃(F' N' k' C':Nat) (er:Int),e=.returned (.tuple #[.agg #[.int .i64 (F':Nat),.int .i64 (N':Nat),.int .i64 (k':Nat),.int .i64 (C':Nat)],.int .i64 er])∧P.CC q i F' N' k' C' er q (Cb F N P.k P.hh l' P.X.sz) (AP P.b7 F N P.k C) (AP FW F N P.k C) w':=by
 have Dv:=hP.f.len
 rw[hP.c]at Dv
 have OS:=hP.f.bn
 rw[hP.c]at OS
 have hn:=hP.n
 have hr:=hP.room1
 have hg:Aa AU.gw (P.AO++(P.bs q++[Cb F N P.k P.hh l' P.X.sz,AP P.b7 F N P.k C,AP FW F N P.k C]))=Aa AU.gw P.AO:=by rw[BI,BI,Fx _ (I1 _)];rfl
 have XH:P.nb≤P.count:=by rw[OS];exact BM _ _
 have hib:=eu.ib
 have xO:i≤17:=by
  rcases hib with h1|h1
  ·omega
  ·rcases Nat.lt_or_ge 17 i with h2|h2
   ·have h3:2^17≤2^(i-1):=Nat.pow_le_pow_right (by omega) (by omega)
    have h4:(2:Nat)^17=131072:=by decide
    omega
   ·exact h2
 have hm2:m≤P.m+36*P.nb:=by
  have h1:2*P.nb*(1+i)≤2*P.nb*18:=Nat.mul_le_mul_left _ (by omega)
  have:=eu.m;omega
 have hlk:l'.length=P.count∧Cl P.o P.l l':=by
  rcases eu.kind with⟨_,h1,_,h2⟩|⟨h1,_⟩
  ·exact⟨h1,h2⟩
  ·omega
 refine(Od (P:=P.V2 W.heap.size q F N C FW m l') (once:=P.once) (Ox:=decide (P.nb≤q*P.Ak)) (Ae hP.row) rfl (mR hP _ eu hq hf hC) (fun args w=>by kernel_rfl) hP.f.N7 hP.f.hh.1 Dv (by show P.X.sz+Aa AU.gw (P.AO++(P.bs q++[Cb F N P.k P.hh l' P.X.sz,AP P.b7 F N P.k C,AP FW F N P.k C]))≤P.X.rm;rw[hg];omega) (fun s hs=>?_) rfl h).mono ?_
 ·have h1:=JR (P.V2 W.heap.size q F N C FW m l').on P.o P.hh s
  have h2:s.length=P.count:=hs.1
  show P.X.N+(m+P.nb+ES (P.V2 W.heap.size q F N C FW m l').on P.o P.hh s)<1000000
  omega
 ·rintro e w' (⟨he,h1,h2⟩|⟨x,F',N',C',he,s,t,⟨h1,h2,h3⟩,h4,h5,h6,h7,⟨h8,h9,ID⟩,OT⟩|⟨he,DP,m',h2⟩)
  ·refine⟨0,0,0,0,5,he,.inr ⟨.inl ⟨rfl,fun z hz=>?_⟩,⟨rfl,rfl,rfl,rfl⟩,m,by rw[List.append_nil];exact h2⟩⟩
   have hNn:N=P.nb:=by rw[hf.bn,hlk.1,OS]
   obtain⟨z',vr⟩:=Rm.less (z2:=P.bs q++[Cb F N P.k P.hh l' P.X.sz,AP P.b7 F N P.k C,AP FW F N P.k C]) (F:=F) hz fun a ha=>by
    rcases List.mem_append.1 ha with ha|ha
    ·exact .inl (I1 _ a ha).2
    ·simp at ha
     rcases ha with rfl|rfl|rfl
     ·right;show (F,N)=(F,P.nb);rw[hNn]
     ·exact .inl rfl
     ·exact .inl rfl
   refine h1 z' ?_
   show Rm P.X (P.AO++(P.bs q++[Cb F N P.k P.hh l' P.X.sz,AP P.b7 F N P.k C,AP FW F N P.k C])) z' (AA P.hh P.count)
   rw[←OS];exact vr
  ·have O4:s.length≤P.count:=by omega
   have oY:Cl P.o P.l s:=hlk.2.trans h3
   obtain⟨f1,f2⟩:=hP.file h4 h5 h6 h7 O4 (bC oY hP.f.fit)
   have E5:Wd P.X (P.AO++(P.bs q++[Cb F N P.k P.hh l' P.X.sz,AP P.b7 F N P.k C,AP FW F N P.k C])++[RE P.X.p x t P.X.sz]) (m+P.nb+AA P.hh t.l.length) w':=OT
   have Bp:(P.AO++(P.bs q++[Cb F N P.k P.hh l' P.X.sz,AP P.b7 F N P.k C,AP FW F N P.k C])++[RE P.X.p x t P.X.sz])[(P.AO++(P.bs q++[Cb F N P.k P.hh l' P.X.sz,AP P.b7 F N P.k C,AP FW F N P.k C])).length]?=some (RE P.X.p x t P.X.sz):=AL _ _ 0
   have K6:=YN E5 Bp
   have h5:t.k=P.k:=h5
   have h6:t.h=P.hh:=h6
   have h9:N'=AA P.hh t.l.length:=h9
   rw[DI,h5,h6,←h8,←h9]at K6
   have hk:=hP.kind h1 h2 oY
   have h7:t.l=BC (decide (P.nb≤q*P.Ak)&&P.once) P.o s:=h7
   rw[←h7]at hk
   have hmm:=eu.m
   have wh:2^(i+1)≤q*P.Ak:=by
    rw[Nat.pow_succ];exact Nat.mul_le_mul eu.pw hP.Ak.1
   refine⟨F',N',P.k,C',0,he,.inl ⟨rfl,rfl,t.l,m+P.nb+N',⟨wh,.inr (by rw[Nat.add_sub_cancel];exact Nat.lt_of_le_of_lt eu.pw hq),?_,hk⟩,by rw[h8,h9];exact f1,ID,K6⟩⟩
   have OD:2*P.nb*(1+(i+1))=2*P.nb*(1+i)+2*P.nb:=by rw[show 1+(i+1)=(1+i)+1 by omega,Nat.mul_add,Nat.mul_one]
   rw[OD,h9];omega
  ·exact⟨0,0,0,0,6,he,.inr ⟨.inr ⟨rfl,DP⟩,⟨rfl,rfl,rfl,rfl⟩,m',by rw[List.append_nil];exact h2⟩⟩
end
def SP.cI(P:SP)(e:Ending)(w':World):Prop:=
 (∃(F N C:Nat) (l':List AB) (m' i:Nat),e=.returned (.tuple #[.agg #[.int .i64 (F:Nat),.int .i64 (N:Nat),.int .i64 P.k,.int .i64 (C:Nat)],.int .i64 0])∧(∃s,Gz P.o s∧Cl P.o P.l s∧l'=BC P.once P.o s)∧Jr F N P.k P.hh l' P.X.sz∧C=l'.length∧
  (i=0∨2^(i-1)<P.nb)∧m'≤P.m+2*P.nb*(1+i)∧Wd P.X (P.AO++[Cb F N P.k P.hh l' P.X.sz]) m' w')∨
 (∃er,e=.returned (.tuple #[.agg #[.int .i64 0,.int .i64 0,.int .i64 0,.int .i64 0],.int .i64 er])∧P.vE er∧∃m',Wd P.X P.AO m' w')
section
variable {P : SP} {q i js F N C : Nat} {W W' : World} {er : Int}
theorem SP.A.row(h:P.A q i F N C W):Row W P.b2 93 [.pointer (some ⟨P.sb,0,none⟩)]∧Row W P.b3 39 [.int .i64 (P.first:Nat),.int .i64 (P.nb:Nat),.int .i64 (P.k:Nat),.int .i64 (P.count:Nat)]∧Row W P.b4 39 [.int .i64 0,.int .i64 0,.int .i64 0,.int .i64 0]∧Row W P.b6 3 [.int .i64 (q:Nat)]∧Row W P.b7 39 [.int .i64 (F:Nat),.int .i64 (N:Nat),.int .i64 (P.k:Nat),.int .i64 (C:Nat)]:=by
 obtain⟨l',m',_,_,_,h⟩:=h
 rw[List.append_assoc]at h
 exact⟨h.row (AL _ _ 0),h.row (AL _ _ 1),h.row (AL _ _ 2),h.row (AL _ _ 3),h.row (AL _ _ 5)⟩
theorem SP.E.row(h:P.E er q W):Row W P.b2 93 [.pointer (some ⟨P.sb,0,none⟩)]∧Row W P.b3 39 [.int .i64 (P.first:Nat),.int .i64 (P.nb:Nat),.int .i64 (P.k:Nat),.int .i64 (P.count:Nat)]∧Row W P.b4 39 [.int .i64 0,.int .i64 0,.int .i64 0,.int .i64 0]∧Row W P.b6 3 [.int .i64 (q:Nat)]∧Row W P.b7 39 [.int .i64 0,.int .i64 0,.int .i64 0,.int .i64 0]:=by
 obtain⟨_,m',h⟩:=h
 rw[List.append_assoc]at h
 exact⟨h.row (AL _ _ 0),h.row (AL _ _ 1),h.row (AL _ _ 2),h.row (AL _ _ 3),h.row (AL _ _ 4)⟩
theorem SP.A.sort(hP:P.Ok js)(h:P.A q i F N C W):Row W P.sb 98 (Bc P.X.p.w P.k P.hh P.rb P.Ak P.o P.once P.count):=by
 obtain⟨l',m',_,_,_,h⟩:=h
 exact h.row (Ae (Ae hP.row))
theorem SP.A.fin(h:P.A q i F N C W)(hq:P.nb≤q)(hw:W'=((((W.setCell ⟨P.b4,0,none⟩ (.int .i64 (F:Nat))).setCell ⟨P.b4,1,none⟩ (.int .i64 (N:Nat))).setCell ⟨P.b4,2,none⟩ (.int .i64 (P.k:Nat))).setCell ⟨P.b4,3,none⟩ (.int .i64 (C:Nat)))):
  (W'.cell? ⟨P.b4,0,none⟩=some (.int .i64 (F:Nat))∧W'.cell? ⟨P.b4,1,none⟩=some (.int .i64 (N:Nat))∧W'.cell? ⟨P.b4,2,none⟩=some (.int .i64 (P.k:Nat))∧W'.cell? ⟨P.b4,3,none⟩=some (.int .i64 (C:Nat)))∧
   Hid (P.cI (.returned (.tuple #[.agg #[.int .i64 (F:Nat),.int .i64 (N:Nat),.int .i64 P.k,.int .i64 (C:Nat)],.int .i64 0])) W'):=by
 subst hw
 obtain⟨l',m',h1,h2,h3,h⟩:=h
 have h0:Wd P.X (P.AO++(P.bs q++[Cb F N P.k P.hh l' P.X.sz,AP P.b7 F N P.k C])) m' W:=by rw[←List.append_assoc];exact h
 have Bp:(P.AO++(P.bs q++[Cb F N P.k P.hh l' P.X.sz,AP P.b7 F N P.k C]))[P.AO.length+2]?=some (AI P.b4 39 [.int .i64 ((0:Nat):Int),.int .i64 ((0:Nat):Int),.int .i64 ((0:Nat):Int),.int .i64 ((0:Nat):Int)]):=AL _ _ 2
 obtain⟨k1,k2⟩:=D8 (F:=F) (N:=N) (k:=P.k) (C:=C) (h0.row Bp)
 have h4:=h0.Jz Bp (by decide) k2 k1
 rw[List.set_append_right _ _ (by omega),Nat.add_sub_cancel_left]at h4
 refine⟨⟨k1.cell 0,k1.cell 1,k1.cell 2,k1.cell 3⟩,.inl ⟨F,N,C,l',m',i,rfl,?_,h2,h3,h1.ib,h1.m,?_⟩⟩
 ·rcases h1.kind with⟨h5,_⟩|⟨_,h5⟩
  ·omega
  ·exact h5
 ·have h5:=Wd.perm (os':=P.AO++[Cb F N P.k P.hh l' P.X.sz]++([AI P.b2 93 [.pointer (some ⟨P.sb,0,none⟩)],AP P.b3 P.first P.nb P.k P.count,AP P.b4 F N P.k C,AI P.b6 3 [.int .i64 (q:Nat)]]++[AP P.b7 F N P.k C])) h4 (by
   rw[List.append_assoc]
   refine List.Perm.append_left _ ?_
   exact(List.perm_append_comm (l₁:=[Cb F N P.k P.hh l' P.X.sz]) (l₂:=[AI P.b2 93 [.pointer (some ⟨P.sb,0,none⟩)],AP P.b3 P.first P.nb P.k P.count,AP P.b4 F N P.k C,AI P.b6 3 [.int .i64 (q:Nat)]]++[AP P.b7 F N P.k C])).trans (by
    show List.Perm ([_,_,_,_]++([_]++[_])) ([_,_,_,_]++([_]++[_]))
    exact List.Perm.append_left _ List.perm_append_comm))
  exact h5.forget (AM ⟨rfl,rfl⟩ (AM ⟨rfl,rfl⟩ (AM ⟨rfl,rfl⟩ (AM ⟨rfl,rfl⟩ (AM ⟨rfl,rfl⟩ BQ)))))
theorem SP.E.fin(h:P.E er q W)(hw:W'=((((W.setCell ⟨P.b4,0,none⟩ (.int .i64 0)).setCell ⟨P.b4,1,none⟩ (.int .i64 0)).setCell ⟨P.b4,2,none⟩ (.int .i64 0)).setCell ⟨P.b4,3,none⟩ (.int .i64 0))):
  (W'.cell? ⟨P.b4,0,none⟩=some (.int .i64 0)∧W'.cell? ⟨P.b4,1,none⟩=some (.int .i64 0)∧W'.cell? ⟨P.b4,2,none⟩=some (.int .i64 0)∧W'.cell? ⟨P.b4,3,none⟩=some (.int .i64 0))∧
   Hid (P.cI (.returned (.tuple #[.agg #[.int .i64 0,.int .i64 0,.int .i64 0,.int .i64 0],.int .i64 er])) W'):=by
 subst hw
 obtain⟨h1,m',h⟩:=h
 have h0:Wd P.X (P.AO++(P.bs q++[AP P.b7 0 0 0 0])) m' W:=by rw[←List.append_assoc];exact h
 have Bp:(P.AO++(P.bs q++[AP P.b7 0 0 0 0]))[P.AO.length+2]?=some (AI P.b4 39 [.int .i64 ((0:Nat):Int),.int .i64 ((0:Nat):Int),.int .i64 ((0:Nat):Int),.int .i64 ((0:Nat):Int)]):=AL _ _ 2
 obtain⟨k1,k2⟩:=D8 (F:=0) (N:=0) (k:=0) (C:=0) (h0.row Bp)
 have h4:=h0.Jz Bp (by decide) k2 k1
 rw[List.set_append_right _ _ (by omega),Nat.add_sub_cancel_left]at h4
 refine⟨⟨k1.cell 0,k1.cell 1,k1.cell 2,k1.cell 3⟩,.inr ⟨er,rfl,h1,m',?_⟩⟩
 exact h4.forget (AM ⟨rfl,rfl⟩ (AM ⟨rfl,rfl⟩ (AM ⟨rfl,rfl⟩ (AM ⟨rfl,rfl⟩ (AM ⟨rfl,rfl⟩ BQ)))))
theorem SP.B1.box{k' b7:Nat}(h:P.B1 F N k' C er W)(hb:Below W.heap.size W W')(hr:Row W' b7 39 [.int .i64 (F:Nat),.int .i64 (N:Nat),.int .i64 (k':Nat),.int .i64 (C:Nat)])(hg:W.heap.size≤b7):(er=0∧k'=P.k∧({P with b7:=b7}:SP).A P.rb 0 F N C W')∨((F=0∧N=0∧k'=0∧C=0)∧({P with b7:=b7}:SP).E er P.rb W'):=by
 rcases h with⟨h1,h2,l',m',h3,h4,h5,h6⟩|⟨h1,⟨e1,e2,e3,e4⟩,m',h6⟩
 ·subst h2
  have h7:=h6.new hb hr hg
  rw[List.append_assoc]at h7
  exact .inl ⟨h1,rfl,l',m',⟨h3.pw,h3.ib,h3.m,h3.kind⟩,h4,h5,h7⟩
 ·subst e1 e2 e3 e4
  exact .inr ⟨⟨rfl,rfl,rfl,rfl⟩,h1,m',h6.new hb hr hg⟩
theorem SP.CC.row(hP:P.Ok js){F' N' k' C' q6 FW:Nat}{f1 b7:AU}(h:P.CC q i F' N' k' C' er q6 f1 b7 (AP FW F N P.k C) W):Row W P.b2 93 [.pointer (some ⟨P.sb,0,none⟩)]∧Row W P.b6 3 [.int .i64 (q6:Nat)]∧Row W FW 39 [.int .i64 (F:Nat),.int .i64 (N:Nat),.int .i64 (P.k:Nat),.int .i64 (C:Nat)]∧Row W P.sb 98 (Bc P.X.p.w P.k P.hh P.rb P.Ak P.o P.once P.count)∧(∀cs,b7=AI P.b7 39 cs→Row W P.b7 39 cs):=by
 obtain⟨z,m,h1⟩:=h.get
 exact⟨h1.row (Il 0),h1.row (Il 3),h1.row (Il 6),h1.row (Ae (Ae hP.row)),fun cs e=>by
  have h2:(P.AO++(P.bs q6++[f1,b7,AP FW F N P.k C])++z)[P.AO.length+5]?=some b7:=Il 5
  rw[e]at h2 h1;exact h1.row h2⟩
theorem SP.A.step(hP:P.Ok js)(h:P.A q i F N C W)(hq:q<P.nb):∃l0,F≤2000000∧N≤2000000∧q*P.Ak≤100000000∧q<q*P.Ak∧∀W' b9,Below W.heap.size W W'→Row W' b9 39 [.int .i64 (F:Nat),.int .i64 (N:Nat),.int .i64 (P.k:Nat),.int .i64 (C:Nat)]→W.heap.size≤b9→
  Calls Tryz.prog 73 #[.pointer (some ⟨P.sb,0,none⟩),.bool (decide (P.nb≤q*P.Ak)),.func (.func 76) #[] #[.pointer (some ⟨P.b2,0,none⟩),.pointer (some ⟨b9,0,none⟩),.pointer (some ⟨P.b6,0,none⟩)]] W' fun e w'=>
  ∃(F' N' k' C':Nat) (er:Int),e=.returned (.tuple #[.agg #[.int .i64 (F':Nat),.int .i64 (N':Nat),.int .i64 (k':Nat),.int .i64 (C':Nat)],.int .i64 er])∧P.CC q i F' N' k' C' er q (Cb F N P.k P.hh l0 P.X.sz) (AP P.b7 F N P.k C) (AP b9 F N P.k C) w':=by
 obtain⟨l',m',h1,h2,h3,h4⟩:=h
 have hq0:0<q:=Nat.lt_of_lt_of_le (Nat.pow_pos (by omega)) h1.pw
 have VI:=Nat.mul_le_mul_left q hP.Ak.1
 refine⟨l',h2.fst,?_,Nat.le_trans (Nat.mul_le_mul_right _ (by omega)) hP.prod,by omega,fun W' b9 hb hr hg=>?_⟩
 ·have h5:=h2.bn
  have h6:=BM P.hh l'.length
  have h7:=h2.len
  omega
 ·have h5:=h4.new hb hr hg
  refine SP.To hP h1 hq h2 h3 ?_
  rw[List.append_assoc,List.append_assoc]at h5
  exact h5
def tX(b:Nat)(w:World):Nat:=match w.cell? ⟨b,0,none⟩with
 |some v=>(intOf v).toNat
 |none=>0
theorem U6{b n:Nat}{w:World}(h:Row w b 3 [.int .i64 (n:Nat)]):tX b w=n:=by
 have h1:w.cell? ⟨b,0,none⟩=some (.int .i64 (n:Nat)):=h.cell 0
 unfold tX;rw[h1];simp[intOf]
theorem dB(hP:P.Ok js)(h:Wd P.X P.AO P.m W)(AX:W.heap.size=P.b2)(A9:P.b2+1=P.b3)(Dz:P.b3+1=P.b4)(SO:P.b4+1=P.b6):
  Calls Tryz.prog 48 #[.pointer (some ⟨P.sb,0,none⟩),.agg #[.int .i64 P.first,.int .i64 P.nb,.int .i64 P.k,.int .i64 P.count]] W P.cI:=by
 obtain⟨W1,B2⟩:∃W1,W1=W.alloc (.cells #[.pointer (some ⟨P.sb,0,none⟩)] 93):=⟨_,rfl⟩
 obtain⟨W2,S4⟩:∃W2,W2=W1.alloc (.cells #[.int .i64 P.first,.int .i64 P.nb,.int .i64 P.k,.int .i64 P.count] 39):=⟨_,rfl⟩
 obtain⟨W3,Q0⟩:∃W3,W3=W2.alloc (.cells #[.int .i64 0,.int .i64 0,.int .i64 0,.int .i64 0] 39):=⟨_,rfl⟩
 obtain⟨W4,uO⟩:∃W4,W4=W3.alloc (.cells #[.int .i64 P.rb] 3):=⟨_,rfl⟩
 have z1:W1.heap.size=P.b3:=by rw[B2];simp;omega
 have z2:W2.heap.size=P.b4:=by rw[S4];simp;omega
 have z3:W3.heap.size=P.b6:=by rw[Q0];simp;omega
 have h1:Wd P.X (P.AO++[AI P.b2 93 [.pointer (some ⟨P.sb,0,none⟩)]]) P.m W1:=h.new (by rw[B2];exact(Below.refl _ _).alloc (Nat.le_refl _) _) (by rw[B2,←AX];exact heap_alloc_new _ _) (by omega)
 have h2:Wd P.X (P.AO++[AI P.b2 93 [.pointer (some ⟨P.sb,0,none⟩)]]++[AP P.b3 P.first P.nb P.k P.count]) P.m W2:=h1.new (by rw[S4];exact(Below.refl _ _).alloc (Nat.le_refl _) _) (by rw[S4,←z1];exact heap_alloc_new _ _) (by omega)
 have h3:Wd P.X (P.AO++[AI P.b2 93 [.pointer (some ⟨P.sb,0,none⟩)]]++[AP P.b3 P.first P.nb P.k P.count]++[AP P.b4 0 0 0 0]) P.m W3:=h2.new (by rw[Q0];exact(Below.refl _ _).alloc (Nat.le_refl _) _) (by rw[Q0,←z2];exact heap_alloc_new _ _) (by omega)
 have yA:Wd P.X (P.AO++[AI P.b2 93 [.pointer (some ⟨P.sb,0,none⟩)]]++[AP P.b3 P.first P.nb P.k P.count]++[AP P.b4 0 0 0 0]++[AI P.b6 3 [.int .i64 (P.rb:Nat)]]) P.m W4:=h3.new (by rw[uO];exact(Below.refl _ _).alloc (Nat.le_refl _) _) (by rw[uO,←z3];exact heap_alloc_new _ _) (by omega)
 have h4:Wd P.X (P.AO++P.bs P.rb) P.m W4:=by
  rw[List.append_assoc,List.append_assoc,List.append_assoc]at yA;exact yA
 have Q6:Hid (W3=((W.alloc (.cells #[.pointer (some ⟨P.sb,0,none⟩)] 93)).alloc (.cells #[.int .i64 P.first,.int .i64 P.nb,.int .i64 P.k,.int .i64 P.count] 39)).alloc (.cells #[.int .i64 0,.int .i64 0,.int .i64 0,.int .i64 0] 39)):=by unfold Hid;rw[Q0,S4,B2]
 have HW4:=Lib.hid uO
 have r2:Row W3 P.b2 93 [.pointer (some ⟨P.sb,0,none⟩)]:=by
  rw[List.append_assoc,List.append_assoc]at h3;exact h3.row (AL _ _ 0)
 have rs:Row W3 P.sb 98 (Bc P.X.p.w P.k P.hh P.rb P.Ak P.o P.once P.count):=h3.row (Ae (Ae (Ae hP.row)))
 have q2:W3.cell? ⟨P.b2,0,none⟩=some (.pointer (some ⟨P.sb,0,none⟩)):=r2.cell 0
 have s2:W3.cell? ⟨P.sb,2,none⟩=some (.int .i64 P.rb):=rs.cell 2
 have u2:W4.cell? ⟨P.b2,0,none⟩=some (.pointer (some ⟨P.sb,0,none⟩)):=(h4.row (AL _ _ 0)).cell 0
 have u3:W4.cell? ⟨P.b3,1,none⟩=some (.int .i64 P.nb):=(h4.row (AL _ _ 1)).cell 1
 have u6:W4.cell? ⟨P.b6,0,none⟩=some (.int .i64 P.rb):=(h4.row (AL _ _ 3)).cell 0
 have OH:=Lib.hid (SP.SY hP h4)
 obtain⟨one,OP⟩:∃one,decide (P.nb≤P.rb)=one:=⟨_,rfl⟩
 rw[OP]at OH
 have qh:decide ((P.nb:Int)≤(P.rb:Int))=one:=by rw[←OP];simp
 have HP:=Lib.hid hP
 clear B2 S4 Q0 uO h h1 h2 h3 h4 yA z1 z2 r2 rs hP
 go_enter Tryz.func48,Tryz.ntmps48
 go_upto_region 1 with(fail)
 rw[←Q6.out]
 go_upto_region 2 with(fail)
 rw[←HW4.out]
 go_wp2_with fail
 refine OH.out.mono ?_
 rintro e w5 ⟨F,N,k',C,er,rfl,rW⟩
 have L2:=rW.box (W':=w5.alloc (.cells #[.int .i64 (F:Nat),.int .i64 (N:Nat),.int .i64 (k':Nat),.int .i64 (C:Nat)] 39)) ((Below.refl _ _).alloc (Nat.le_refl _) _) (heap_alloc_new w5 (.cells #[.int .i64 (F:Nat),.int .i64 (N:Nat),.int .i64 (k':Nat),.int .i64 (C:Nat)] 39)) (Nat.le_refl _)
 have Xx:Hid (∃q i F9 N9 C9,(er=0∧({P with b7:=w5.heap.size}:SP).A q i F9 N9 C9 (w5.alloc (.cells #[.int .i64 (F:Nat),.int .i64 (N:Nat),.int .i64 (k':Nat),.int .i64 (C:Nat)] 39)))∨({P with b7:=w5.heap.size}:SP).E er q (w5.alloc (.cells #[.int .i64 (F:Nat),.int .i64 (N:Nat),.int .i64 (k':Nat),.int .i64 (C:Nat)] 39))):=by
  rcases L2 with⟨e1,e2,hA⟩|⟨_,hE⟩
  ·exact⟨_,_,F,N,C,.inl ⟨e1,hA⟩⟩
  ·exact⟨P.rb,0,F,N,C,.inr hE⟩
 clear L2 rW OH u2 u3 u6 OP qh q2 s2
 go_upto_region 3 with(fail)
 generalize w5.alloc (.cells #[.int .i64 (F:Nat),.int .i64 (N:Nat),.int .i64 (k':Nat),.int .i64 (C:Nat)] 39)=w6 at*
 generalize w5.heap.size=b7 at*
 obtain⟨Q,hQ⟩:∃Q:SP,Q={P with b7:=b7}:=⟨_,rfl⟩
 have cZ:Hid (Q.Ok js):=by rw[hQ];exact⟨HP.out.row,HP.out.f,HP.out.c,HP.out.src,HP.out.rb,HP.out.Ak,HP.out.room1,HP.out.room2,HP.out.rm,HP.out.n,HP.out.prod⟩
 have HQD:Hid (Q.cI=P.cI):=by rw[hQ];rfl
 have e1:P.sb=Q.sb:=by rw[hQ]
 have e2:P.b2=Q.b2:=by rw[hQ]
 have e3:P.b3=Q.b3:=by rw[hQ]
 have e4:P.b4=Q.b4:=by rw[hQ]
 have e6:P.b6=Q.b6:=by rw[hQ]
 have e7:b7=Q.b7:=by rw[hQ]
 have e8:P.nb=Q.nb:=by rw[hQ]
 have e9:P.k=Q.k:=by rw[hQ]
 rw[←hQ]at Xx
 have HHQ:=Lib.hid hQ
 clear hQ AX A9 Dz SO z3 Q6 HW4
 rw[e1,e2,e3,e4,e6,e7]
 have AE6:=cZ.out.Ak
 have si:Q.nb≤100000:=by
  have h1:=cZ.out.f.bn
  have h2:=BM Q.hh Q.l.length
  have h3:=cZ.out.f.len
  omega
 clear e1 e2 e3 e4 e6 e7 e8 e9
 go_loopw [8] (fun iv wr=>∃(er:Int) (q i F N C:Nat),iv=.int .i64 er∧Hid ((er=0∧Q.A q i F N C wr)∨Q.E er q wr)) (fun _ wr=>Q.nb-tX Q.b6 wr)
 case atStart=>
  obtain⟨q,i,F,N,C,h1⟩:=Xx.out
  exact⟨er,q,i,F,N,C,rfl,h1⟩
 case round=>
  obtain⟨er,q,i,F,N,C,rfl,Ea⟩:=hrel
  clear Xx
  rcases Ea.out with⟨rfl,hA⟩|hE
  ·obtain⟨k2,k3,k4,k6,k7⟩:=hA.row
   have kS:=hA.sort cZ.out
   have c6:wr.cell? ⟨Q.b6,0,none⟩=some (.int .i64 q):=k6.cell 0
   have c31:wr.cell? ⟨Q.b3,1,none⟩=some (.int .i64 Q.nb):=k3.cell 1
   have HA:=Lib.hid hA
   by_cases hq:q<Q.nb
   ·obtain⟨l0,hF,hN,hL,hqL,hstep⟩:=hA.step cZ.out hq
    obtain⟨L,cV⟩:∃L,q*Q.Ak=L:=⟨_,rfl⟩
    have hmul:(q:Int)*(Q.Ak:Int)=(L:Int):=by rw[←cV];exact(Int.natCast_mul q Q.Ak).symm
    have nV:=Lib.hid cV
    have qZ:tX Q.b6 wr=q:=U6 k6
    have HQO:=Lib.hid qZ
    rw[cV]at hL hqL
    have iK:Row ((wr.alloc (.cells #[.int .i64 F,.int .i64 N,.int .i64 Q.k,.int .i64 C] 39)).drew) wr.heap.size 39 [.int .i64 (F:Nat),.int .i64 (N:Nat),.int .i64 (Q.k:Nat),.int .i64 (C:Nat)]:=Row.drewN (heap_alloc_new wr (.cells #[.int .i64 F,.int .i64 N,.int .i64 Q.k,.int .i64 C] 39)) 1
    have x5:=hstep _ wr.heap.size (((Below.refl wr.heap.size wr).alloc (Nat.le_refl _) _).drew) iK (Nat.le_refl _)
    obtain⟨kR,aE⟩:∃kR,decide (Q.nb≤q*Q.Ak)=kR:=⟨_,rfl⟩
    rw[aE]at x5
    rw[cV]at aE
    have AA2:decide ((Q.nb:Int)≤(L:Int))=kR:=by rw[←aE];simp
    have uz:=Lib.hid x5
    have hwL:IntKind.i64.wrap (L:Int)=(L:Int):=IntWalk.i64_in _ (by omega)
    have gF:=Lib.hid hwL
    have uP:∀w,Below wr.heap.size wr w→(w.cell? ⟨Q.b7,0,none⟩=some (.int .i64 F)∧w.cell? ⟨Q.b7,1,none⟩=some (.int .i64 N)∧w.cell? ⟨Q.b7,2,none⟩=some (.int .i64 Q.k)∧w.cell? ⟨Q.b7,3,none⟩=some (.int .i64 C)∧w.cell? ⟨Q.b6,0,none⟩=some (.int .i64 q)∧w.cell? ⟨Q.b2,0,none⟩=some (.pointer (some ⟨Q.sb,0,none⟩))∧w.cell? ⟨Q.sb,3,none⟩=some (.int .i64 Q.Ak)):=fun w hb=>by
     have j7:=k7.below hb k7.lt
     exact⟨j7.cell 0,j7.cell 1,j7.cell 2,j7.cell 3,(k6.below hb k6.lt).cell 0,(k2.below hb k2.lt).cell 0,(kS.below hb kS.lt).cell 3⟩
    have uM:∀cs,Below wr.heap.size wr ((wr.alloc (.cells cs 39)).drew):=fun cs=>((Below.refl wr.heap.size wr).alloc (Nat.le_refl _) _).drew
    have s1:=uP wr.drew (AH (Below.refl _ _))
    have s2:=uP _ (uM #[.int .i64 0,.int .i64 0,.int .i64 0,.int .i64 0])
    have s3:=uP _ (uM #[.int .i64 F,.int .i64 N,.int .i64 Q.k,.int .i64 C])
    have d31:((wr.alloc (.cells #[.int .i64 F,.int .i64 N,.int .i64 Q.k,.int .i64 C] 39)).drew).cell? ⟨Q.b3,1,none⟩=some (.int .i64 Q.nb):=(k3.below (uM #[.int .i64 F,.int .i64 N,.int .i64 Q.k,.int .i64 C]) k3.lt).cell 1
    have d2:((wr.alloc (.cells #[.int .i64 F,.int .i64 N,.int .i64 Q.k,.int .i64 C] 39)).drew).cell? ⟨Q.b2,0,none⟩=some (.pointer (some ⟨Q.sb,0,none⟩)):=s3.2.2.2.2.2.1
    clear hwL iK x5 hstep qZ cV uM k2 k3 k4 k6 k7 kS hA uP
    go_upto_region 4 with(fail)
    go_region_held3 (fun w=>w.cell? ⟨Q.b7,0,none⟩=some (.int .i64 F)∧w.cell? ⟨Q.b7,1,none⟩=some (.int .i64 N)∧w.cell? ⟨Q.b7,2,none⟩=some (.int .i64 Q.k)∧w.cell? ⟨Q.b7,3,none⟩=some (.int .i64 C)∧w.cell? ⟨Q.b6,0,none⟩=some (.int .i64 q)∧w.cell? ⟨Q.b2,0,none⟩=some (.pointer (some ⟨Q.sb,0,none⟩))∧w.cell? ⟨Q.sb,3,none⟩=some (.int .i64 Q.Ak)) (first|with_reducible exact s1|with_reducible exact s2|with_reducible exact s3) (fail)
    rw[gF.out]
    clear s1 s2 s3
    generalize(wr.alloc (.cells #[.int .i64 F,.int .i64 N,.int .i64 Q.k,.int .i64 C] 39)).drew=w7 at*
    generalize wr.heap.size=b9 at*
    clear Ea HA c6 c31
    go_wp2_with fail
    refine uz.out.mono ?_
    rintro e w8 ⟨F',N',k9,C',er',rfl,rI⟩
    obtain⟨j2,j6,j9,jS,j7⟩:=rI.row cZ.out
    have j7:=j7 [.int .i64 (F:Nat),.int .i64 (N:Nat),.int .i64 (Q.k:Nat),.int .i64 (C:Nat)] rfl
    have x0:w8.cell? ⟨Q.b7,0,none⟩=some (.int .i64 F):=j7.cell 0
    have x1:w8.cell? ⟨Q.b7,1,none⟩=some (.int .i64 N):=j7.cell 1
    have x2:w8.cell? ⟨Q.b7,2,none⟩=some (.int .i64 Q.k):=j7.cell 2
    have x3:w8.cell? ⟨Q.b7,3,none⟩=some (.int .i64 C):=j7.cell 3
    have y0:w8.frozen? ⟨Q.b7,0,none⟩=false:=j7.free 0
    have y1:w8.frozen? ⟨Q.b7,1,none⟩=false:=j7.free 1
    have y2:w8.frozen? ⟨Q.b7,2,none⟩=false:=j7.free 2
    have y3:w8.frozen? ⟨Q.b7,3,none⟩=false:=j7.free 3
    have rJ:=rI.jy (A:=F') (B:=N') (K:=k9) (D:=C') rfl
    clear rI uz d2 d31 j2 j6 j9 jS j7
    go_upto_region 6 with(fail)
    generalize((((w8.setCell ⟨Q.b7,0,none⟩ (.int .i64 (F':Nat))).setCell ⟨Q.b7,1,none⟩ (.int .i64 (N':Nat))).setCell ⟨Q.b7,2,none⟩ (.int .i64 (k9:Nat))).setCell ⟨Q.b7,3,none⟩ (.int .i64 (C':Nat)))=w9 at*
    clear x0 x1 x2 x3 y0 y1 y2 y3
    have lz:=rJ.below (AH (Below.refl _ _))
    obtain⟨j2,j6,j9,jS,j7⟩:=lz.row cZ.out
    have s4:w9.drew.cell? ⟨Q.b2,0,none⟩=some (.pointer (some ⟨Q.sb,0,none⟩))∧w9.drew.cell? ⟨Q.sb,4,none⟩=some (.pointer (some ⟨Q.X.p.w,0,none⟩))∧w9.drew.cell? ⟨b9,0,none⟩=some (.int .i64 F)∧w9.drew.cell? ⟨b9,1,none⟩=some (.int .i64 N)∧w9.drew.cell? ⟨b9,2,none⟩=some (.int .i64 Q.k)∧w9.drew.cell? ⟨b9,3,none⟩=some (.int .i64 C):=⟨j2.cell 0,jS.cell 4,j9.cell 0,j9.cell 1,j9.cell 2,j9.cell 3⟩
    have cq:=Lib.hid (lz.free hF hN C)
    have HCF:Hid (∀w,Q.CC q i F' N' k9 C' er' q Bl (AP Q.b7 F' N' k9 C') (AP b9 F N Q.k C) w→w.cell? ⟨Q.b2,0,none⟩=some (.pointer (some ⟨Q.sb,0,none⟩))∧w.cell? ⟨Q.sb,4,none⟩=some (.pointer (some ⟨Q.X.p.w,0,none⟩))∧w.cell? ⟨b9,0,none⟩=some (.int .i64 F)∧w.cell? ⟨b9,1,none⟩=some (.int .i64 N)∧w.cell? ⟨b9,2,none⟩=some (.int .i64 Q.k)∧w.cell? ⟨b9,3,none⟩=some (.int .i64 C)):=fun w h=>by
     obtain⟨j2,j6,j9,jS,j7⟩:=h.row cZ.out
     exact⟨j2.cell 0,jS.cell 4,j9.cell 0,j9.cell 1,j9.cell 2,j9.cell 3⟩
    clear lz j2 j6 j9 jS j7 rJ
    go_region_held3 (fun w=>w.cell? ⟨Q.b2,0,none⟩=some (.pointer (some ⟨Q.sb,0,none⟩))∧w.cell? ⟨Q.sb,4,none⟩=some (.pointer (some ⟨Q.X.p.w,0,none⟩))∧w.cell? ⟨b9,0,none⟩=some (.int .i64 F)∧w.cell? ⟨b9,1,none⟩=some (.int .i64 N)∧w.cell? ⟨b9,2,none⟩=some (.int .i64 Q.k)∧w.cell? ⟨b9,3,none⟩=some (.int .i64 C)) (first|with_reducible exact s4|with_reducible exact s5)
     ((go_at_call 49;(with_reducible refine cq.out.mono ?_);rintro e Fl ⟨rfl,ID⟩;have s5:=HCF.out Fl ID))
    have lH:=(ID.row cZ.out).2.1
    have c6:Fl.cell? ⟨Q.b6,0,none⟩=some (.int .i64 q):=lH.cell 0
    have f6:Fl.frozen? ⟨Q.b6,0,none⟩=false:=lH.free 0
    have OT:=ID.jz (n:=L)
    have qW:=(OT.row cZ.out).2.1
    have qa:=U6 qW
    have Es:=SP.CC.fin (by rw[←nV.out]at OT;exact OT)
    rw[nV.out]at Es
    have Fg:=Lib.hid Es
    have yq:=Lib.hid qa
    clear ID OT lH qW qa Es s4 s5 cq HCF
    go_wp2
    go_roundw
    case rel=>exact⟨er',L,i+1,F',N',C',rfl,Fg.out⟩
    case measure=>rw[yq.out,HQO.out];omega
   ·have hge:Q.nb≤q:=by omega
    have sw:=Lib.hid hge
    have d0:wr.cell? ⟨Q.b7,0,none⟩=some (.int .i64 F):=k7.cell 0
    have d1:wr.cell? ⟨Q.b7,1,none⟩=some (.int .i64 N):=k7.cell 1
    have d2:wr.cell? ⟨Q.b7,2,none⟩=some (.int .i64 Q.k):=k7.cell 2
    have d3:wr.cell? ⟨Q.b7,3,none⟩=some (.int .i64 C):=k7.cell 3
    have z0:wr.cell? ⟨Q.b4,0,none⟩=some (.int .i64 0):=k4.cell 0
    have z1:wr.cell? ⟨Q.b4,1,none⟩=some (.int .i64 0):=k4.cell 1
    have z2:wr.cell? ⟨Q.b4,2,none⟩=some (.int .i64 0):=k4.cell 2
    have z3:wr.cell? ⟨Q.b4,3,none⟩=some (.int .i64 0):=k4.cell 3
    have y0:wr.frozen? ⟨Q.b4,0,none⟩=false:=k4.free 0
    have y1:wr.frozen? ⟨Q.b4,1,none⟩=false:=k4.free 1
    have y2:wr.frozen? ⟨Q.b4,2,none⟩=false:=k4.free 2
    have y3:wr.frozen? ⟨Q.b4,3,none⟩=false:=k4.free 3
    have Es:=hA.fin hge rfl
    clear k2 k3 k4 k6 k7 kS hA hge
    go_wp2
    generalize((((wr.setCell ⟨Q.b4,0,none⟩ (.int .i64 (F:Nat))).setCell ⟨Q.b4,1,none⟩ (.int .i64 (N:Nat))).setCell ⟨Q.b4,2,none⟩ (.int .i64 (Q.k:Nat))).setCell ⟨Q.b4,3,none⟩ (.int .i64 (C:Nat)))=w9 at*
    obtain⟨⟨q0,q1,q2,q3⟩,HD⟩:=Es
    rw[HQD.out]at HD
    exact bodyPost_ret (v:=.tuple #[.agg #[.int .i64 (F:Nat),.int .i64 (N:Nat),.int .i64 Q.k,.int .i64 (C:Nat)],.int .i64 0]) (by simp[results,Tryz.results48,go_sem,q0,q1,q2,q3]) rfl HD.out
  ·obtain⟨k2,k3,k4,k6,k7⟩:=hE.row
   have d0:wr.cell? ⟨Q.b7,0,none⟩=some (.int .i64 0):=k7.cell 0
   have d1:wr.cell? ⟨Q.b7,1,none⟩=some (.int .i64 0):=k7.cell 1
   have d2:wr.cell? ⟨Q.b7,2,none⟩=some (.int .i64 0):=k7.cell 2
   have d3:wr.cell? ⟨Q.b7,3,none⟩=some (.int .i64 0):=k7.cell 3
   have z0:wr.cell? ⟨Q.b4,0,none⟩=some (.int .i64 0):=k4.cell 0
   have z1:wr.cell? ⟨Q.b4,1,none⟩=some (.int .i64 0):=k4.cell 1
   have z2:wr.cell? ⟨Q.b4,2,none⟩=some (.int .i64 0):=k4.cell 2
   have z3:wr.cell? ⟨Q.b4,3,none⟩=some (.int .i64 0):=k4.cell 3
   have y0:wr.frozen? ⟨Q.b4,0,none⟩=false:=k4.free 0
   have y1:wr.frozen? ⟨Q.b4,1,none⟩=false:=k4.free 1
   have y2:wr.frozen? ⟨Q.b4,2,none⟩=false:=k4.free 2
   have y3:wr.frozen? ⟨Q.b4,3,none⟩=false:=k4.free 3
   have XL:er=5∨er=6:=hE.1.elim (fun h=>.inl h.1) fun h=>.inr h.1
   have Es:=hE.fin rfl
   have ne0:(er==0)=false:=by rcases XL with rfl|rfl<;>rfl
   clear k2 k3 k4 k6 k7 hE Ea XL
   go_wp2
   generalize((((wr.setCell ⟨Q.b4,0,none⟩ (.int .i64 0)).setCell ⟨Q.b4,1,none⟩ (.int .i64 0)).setCell ⟨Q.b4,2,none⟩ (.int .i64 0)).setCell ⟨Q.b4,3,none⟩ (.int .i64 0))=w9 at*
   obtain⟨⟨q0,q1,q2,q3⟩,HD⟩:=Es
   rw[HQD.out]at HD
   exact bodyPost_ret (v:=.tuple #[.agg #[.int .i64 0,.int .i64 0,.int .i64 0,.int .i64 0],.int .i64 er]) (by simp[results,Tryz.results48,go_sem,q0,q1,q2,q3]) rfl HD.out
end
def JQ(X:Cx)(os:List AU)(i m first nb k hh:Nat)(l:List AB)(W:World):Prop:=∃G D A S,Fb X (os.set i Bl) m W G D A S∧Az D first k hh l nb∧∀z,first≤z→z<first+nb→hasB S.fr z
section
variable {X : Cx} {os : List AU} {m i : Nat} {W W' : World} {G : Nat → Prop} {D : St} {A : Ar} {S : Sp} {first nb k hh : Nat} {l : List AB}
theorem YX(h:Wd X os m W)(hi:os[i]?=some (Cb first nb k hh l X.sz))(hf:first≤2000000)(hn:nb≤2000000)(c:Nat):
  Calls Tryz.prog 49 #[.pointer (some ⟨X.p.w,0,none⟩),.agg #[.int .i64 first,.int .i64 nb,.int .i64 k,.int .i64 c]] W fun e w'=>e=.returned (.int .i64 0)∧JQ X os i m first nb k hh l w':=by
 obtain⟨G,D,A,S,h⟩:=h
 have hst:Az D first k hh l nb:=h.Nb i _ hi h.size
 obtain⟨fH,Ee⟩:=h.held hi
 have fH:∀z,En (first,nb) z→¬hasB S.fr z:=fH
 have Ee:0<nb→S.first≤first∧first+nb≤S.first+S.blocks:=Ee
 have Ly:=Hh (S:=S) h.sys.U1 (f:=first) (n:=nb) (by
  rcases Nat.eq_zero_or_pos nb with h0|h0
  ·exact .inr h0
  ·exact .inl (Ee h0).1) (by
  rcases Nat.eq_zero_or_pos nb with h0|h0
  ·exact .inr h0
  ·exact .inl (Ee h0).2) (fun z z1 z2=>fH z ⟨z1,z2⟩)
 have aR:(if nb=0 then 0 else (CO S first nb).2)=0:=by
  by_cases h0:nb=0
  ·rw[if_pos h0]
  ·rw[if_neg h0]
   rcases Hg (s:=S) h.sys.U1 (first:Int) (nb:Int)with⟨s',a',m',ha,hm,h1,he,hg⟩|⟨_,NP⟩
   ·rw[he]
   ·exact absurd ⟨(Ee (by omega)).1,(Ee (by omega)).2,fun z z1 z2=>fH z ⟨z1,z2⟩⟩ (NP first nb rfl rfl (by omega))
 refine(PO (F:=⟨D,A,S⟩) h.sys first nb k c (by omega) (by omega)).mono ?_
 rintro e w' ⟨he,G',k1,k2,k3⟩
 refine⟨by rw[he,aR];rfl,G',_,_,_,h.step hi k1 (k2.mono fun k hk=>.inl hk) k3 J9 trivial (fun k hk=>hk.elim) ⟨rfl,rfl⟩ h.alive id h.Ab (fun _ _=>rfl) trivial rfl rfl (fun _ _ hw _=>hw) (fun b n hb=>by cases hb) ⟨Ly.1,Ly.2.1⟩ (fun z=>?_) (fun z hz=>absurd hz (AZ _ _)) ?_,hst,fun z z1 z2=>(Ly.2.2.1 z).2 (.inr ⟨z1,z2⟩)⟩
 ·show hasB (At S first nb).fr z↔ _
  rw[Ly.2.2.1 z]
  exact⟨fun hz=>⟨hz,AZ _ _⟩,fun hz=>hz.1⟩
 ·show Ax (At S first nb).fr+0=Ax S.fr+nb
  rw[Ly.2.2.2];omega
theorem JQ.below(h:JQ X os i m first nb k hh l W)(hb:Below W.heap.size W W'):JQ X os i m first nb k hh l W':=by
 obtain⟨G,D,A,S,h1,h2,h3⟩:=h
 exact⟨G,D,A,S,h1.below hb,h2,h3⟩
theorem JQ.wd(h:JQ X os i m first nb k hh l W):Wd X (os.set i Bl) m W:=by
 obtain⟨G,D,A,S,h1,_⟩:=h
 exact⟨G,D,A,S,h1⟩
theorem JQ.none(h:JQ X os i m first 0 k hh l W)(hi:i<os.length):Wd X (os.set i (Cb first 0 k hh l X.sz)) m W:=by
 obtain⟨G,D,A,S,h1,h2,h3⟩:=h
 have Bp:(os.set i Bl)[i]?=some Bl:=by rw[List.getElem?_set,if_pos rfl,if_pos hi]
 have h4:=h1.step Bp h1.sys (AK.refl _ _) (fun k hk=>.inl hk) (Qd (first:=first) (nb:=0) (k:=k) (h:=hh) (l:=l) (sz:=X.sz)) trivial (fun k hk=>hk.elim) ⟨rfl,rfl⟩ h1.alive id h1.Ab (fun _ _=>rfl) (fun _=>h2) rfl rfl (fun _ _ hw _=>hw) (fun b n hb=>by cases hb) ⟨rfl,rfl⟩ (fun z=>⟨fun hz=>⟨.inl hz,AZ _ _⟩,fun hz=>hz.1.elim id fun h=>absurd h (AZ _ _)⟩) (fun z hz=>absurd hz (AZ _ _)) rfl
 rw[List.set_set]at h4
 exact⟨G,D,A,S,h4⟩
theorem YW(h:JQ X os i m first nb k hh l W)(hi:i<os.length)(hn:0<nb∧nb≤2000000)(hf:first≤2000000):
  Calls Tryz.prog 70 #[.pointer (some ⟨X.p.s,0,none⟩),.int .i64 first,.int .i64 nb] W fun e w'=>e=.returned (.int .i64 0)∧Wd X (os.set i (Cb first nb k hh l X.sz)) m w':=by
 obtain⟨G,D,A,S,h1,h2,h3⟩:=h
 have Bp:(os.set i Bl)[i]?=some Bl:=by rw[List.getElem?_set,if_pos rfl,if_pos hi]
 obtain⟨Gs,hs,Ef⟩:=h1.sys.pR
 rcases T5 (s:=S) h1.sys.U1 (first:Int) (nb:Int)with⟨s',a',m',ha,hm,h4,he,hg⟩|⟨_,NP⟩
 ·have ha:a'=first:=by omega
  have hm:m'=nb:=by omega
  subst ha hm
  refine(aF X.p.s S Gs (a':Int) (m':Int) W hs (Ff.of (by omega) (by omega)) (Ff.of (by omega) (by omega))).mono ?_
  rw[he]
  rintro e w' ⟨h5,h6⟩
  obtain⟨G',k1,k2,k3⟩:=Ef _ _ h6
  have h7:=h1.step Bp k1 (k2.mono fun k hk=>.inl hk) k3 (Qd (first:=a') (nb:=m') (k:=k) (h:=hh) (l:=l) (sz:=X.sz)) trivial (fun k hk=>hk.elim) ⟨rfl,rfl⟩ h1.alive id h1.Ab (fun _ _=>rfl) (fun _=>h2) rfl rfl (fun _ _ hw _=>hw) (fun b n hb=>by cases hb) ⟨hg.first,hg.blocks⟩ (fun z=>by
    show hasB s'.fr z↔(hasB S.fr z∨En (0,0) z)∧¬En (a',m') z
    rw[hg.has z]
    exact⟨fun⟨x,y⟩=>⟨.inl x,y⟩,fun⟨x,y⟩=>⟨x.elim id fun h=>absurd h (AZ _ _),y⟩⟩) (fun z hz=>.inr (h3 z hz.1 hz.2)) (by
    show Ax s'.fr+m'=Ax S.fr+0
    have:=hg.sum;omega)
  rw[List.set_set]at h7
  exact⟨h5,G',_,_,_,h7⟩
 ·exact absurd (fun b Aj AX=>h3 b Aj AX) (NP first nb rfl rfl (by omega))
theorem V9(h:Wd X os m W)(hi:os[i]?=some (Cb first nb k hh l X.sz))(hf:first≤2000000)(hn:nb≤2000000)(c:Nat):
  Calls Tryz.prog 45 #[.pointer (some ⟨X.p.w,0,none⟩),.agg #[.int .i64 first,.int .i64 nb,.int .i64 k,.int .i64 c]] W fun e w'=>e=.returned (.bool true)∧Wd X os m w':=by
 have hlt:=IT hi
 have qL:=EI hi
 obtain⟨W1,B2⟩:∃W1,W1=W.alloc (.cells #[.int .i64 first,.int .i64 nb,.int .i64 k,.int .i64 c] 39):=⟨_,rfl⟩
 have Aj:Below W.heap.size W W1:=by rw[B2];exact(Below.refl _ _).alloc (Nat.le_refl _) _
 have BS:Row W1 W.heap.size 39 [.int .i64 first,.int .i64 nb,.int .i64 k,.int .i64 c]:=by rw[B2];exact heap_alloc_new _ _
 have h1:Wd X (os++[AI W.heap.size 39 [.int .i64 first,.int .i64 nb,.int .i64 k,.int .i64 c]]) m W1:=h.new Aj BS (Nat.le_refl _)
 have XK:(os++[AI W.heap.size 39 [.int .i64 first,.int .i64 nb,.int .i64 k,.int .i64 c]])[i]?=some (Cb first nb k hh l X.sz):=Ae hi
 have cq:=Lib.hid (YX h1 XK hf hn c)
 have b0:W1.cell? ⟨W.heap.size,0,none⟩=some (.int .i64 first):=BS.cell 0
 have b1:W1.cell? ⟨W.heap.size,1,none⟩=some (.int .i64 nb):=BS.cell 1
 have b2:W1.cell? ⟨W.heap.size,2,none⟩=some (.int .i64 k):=BS.cell 2
 have b3:W1.cell? ⟨W.heap.size,3,none⟩=some (.int .i64 c):=BS.cell 3
 have ER:=Lib.hid B2
 generalize YD:W.heap.size=s0 at*
 have rU:∀w,Wd X ((os++[AI s0 39 [.int .i64 first,.int .i64 nb,.int .i64 k,.int .i64 c]]).set i (Cb first nb k hh l X.sz)) m w→Wd X os m w:=fun w hw=>by
  rw[EI XK]at hw
  exact hw.forget (AM ⟨rfl,rfl⟩ BQ)
 have Aq:=Lib.hid rU
 have hil:i<(os++[AI s0 39 [.int .i64 first,.int .i64 nb,.int .i64 k,.int .i64 c]]).length:=IT XK
 have hrow:∀w,JQ X (os++[AI s0 39 [.int .i64 first,.int .i64 nb,.int .i64 k,.int .i64 c]]) i m first nb k hh l w→Row w s0 39 [.int .i64 first,.int .i64 nb,.int .i64 k,.int .i64 c]:=fun w hw=>by
  have h9:=hw.wd
  rw[Dp hi]at h9
  exact h9.row (by
   have ID:=AL (os.set i Bl) [AI s0 39 [.int .i64 first,.int .i64 nb,.int .i64 k,.int .i64 c]] 0
   exact ID)
 have Df:=Lib.hid hrow
 clear B2 Aj BS h h1 XK rU hrow qL
 have AC4:(nb:Int)≤2000000:=by omega
 go_enter Tryz.func45,Tryz.ntmps45
 go_upto_region 1 with(fail)
 rw[←ER.out]
 clear ER YD
 go_wp2_with fail
 refine cq.out.mono ?_
 rintro e w2 ⟨rfl,h2⟩
 have Ap:=Df.out w2 h2
 clear cq b0 b1 b2 b3
 rcases Nat.eq_zero_or_pos nb with h0|h0
 ·have h2n:Wd X ((os++[AI s0 39 [.int .i64 first,.int .i64 nb,.int .i64 k,.int .i64 c]]).set i (Cb first nb k hh l X.sz)) m w2:=by subst h0;exact h2.none hil
  have H3:=Lib.hid (Aq.out w2 h2n)
  clear h2n
  have c1:w2.drew.cell? ⟨s0,1,none⟩=some (.int .i64 nb):=Ap.cell 1
  have c0:w2.drew.cell? ⟨s0,0,none⟩=some (.int .i64 first):=Ap.cell 0
  have g0:((nb:Int)==0)=true:=by simp;omega
  have H4:=Lib.hid (H3.out.drewN 1)
  have H2:=Lib.hid h2
  clear h2 Ap
  go_wp2_with fail
  go_region
  go_wp2
  go_ret
  exact⟨rfl,H4.out⟩
 ·have uW:=h2.below (AH (Below.refl _ _))
  have lG:=Df.out _ uW
  have c1:w2.drew.cell? ⟨s0,1,none⟩=some (.int .i64 nb):=lG.cell 1
  have c0:w2.drew.cell? ⟨s0,0,none⟩=some (.int .i64 first):=lG.cell 0
  have g0:((nb:Int)==0)=false:=by simp;omega
  have HH:=Lib.hid (YW uW hil ⟨h0,hn⟩ hf)
  have gJ:=Lib.hid (YR uW.wd)
  have H2:=Lib.hid h2
  have HH3:Hid (∀w,Wd X ((os++[AI s0 39 [.int .i64 first,.int .i64 nb,.int .i64 k,.int .i64 c]]).set i (Cb first nb k hh l X.sz)) m w→w.cell? ⟨s0,1,none⟩=some (.int .i64 nb)∧w.cell? ⟨s0,0,none⟩=some (.int .i64 first)):=fun w hw=>by
   rw[Dp hi]at hw
   have ID:=hw.row (AL (os.set i (Cb first nb k hh l X.sz)) [AI s0 39 [.int .i64 first,.int .i64 nb,.int .i64 k,.int .i64 c]] 0)
   exact⟨ID.cell 1,ID.cell 0⟩
  clear h2 Ap uW lG
  go_wp2_with fail
  go_region_held3 (fun w=>w.cell? ⟨s0,1,none⟩=some (.int .i64 nb)∧w.cell? ⟨s0,0,none⟩=some (.int .i64 first)) (first|with_reducible exact⟨c1,c0⟩|with_reducible exact q5)
   (first
    |(go_at_call 16;(with_reducible refine gJ.out.mono ?_);rintro e w5 ⟨rfl,rfl⟩)
    |(go_at_call 70;(with_reducible refine HH.out.mono ?_);rintro e w5 ⟨rfl,h5⟩;have q5:=HH3.out w5 h5))
  have H9:=Lib.hid (Aq.out _ h5)
  clear h5 q5
  go_wp2
  go_ret
  exact⟨rfl,H9.out⟩
theorem RV{rm rb Ak:Nat}(h:Wd X os m W)(k0:0<k∧k≤5)(JG:hh=AE X.sz k)(DO:0<hh)(JE:min (X.rm-Aa AU.gw os) 65536=rm)(hsz:2*X.sz≤rm)(hrb:(rm-2*X.sz)/(hh*k)=rb)(Lz:(rm-X.sz)/(X.sz+k)=Ak):
  Calls Tryz.prog 47 #[.pointer (some ⟨X.p.w,0,none⟩),.int .i64 k] W fun e w'=>e=.returned (.agg #[.int .i64 k,.int .i64 hh,.int .i64 rb,.int .i64 Ak])∧Below W.heap.size W w':=by
 obtain⟨W1,B2⟩:∃W1,W1=W.alloc (.cells #[.int .i64 0,.int .i64 0,.int .i64 0,.int .i64 0] 95):=⟨_,rfl⟩
 have Aj:Below W.heap.size W W1:=by rw[B2];exact(Below.refl _ _).alloc (Nat.le_refl _) _
 have BS:Row W1 W.heap.size 95 [.int .i64 0,.int .i64 0,.int .i64 0,.int .i64 0]:=by rw[B2];exact heap_alloc_new _ _
 have h1:=h.below Aj
 have hbd:=h.bounds
 have HD:=Lib.hid (TO h1)
 have HZ:=Lib.hid (RH h1)
 have HO:=Lib.hid (YV h1 k)
 rw[←JG]at HO
 have pI:=Lib.hid (Ph h1)
 have jV:=Lib.hid (Ut h1)
 have Ed:hh≤256:=by rw[JG];exact Nat.le_trans (Dm _ _) (by have:=hbd.1.2;omega)
 have AB5:rm≤65536:=by rw[←JE];exact Nat.min_le_right _ _
 generalize hG:X.rm-Aa AU.gw os=LF at*
 have iQ:(if 65536<LF then (65536:Int)else (LF:Int))=(rm:Int):=by rw[←JE];split<;>omega
 have qp:(if (65536:Int)<(LF:Int)then (65536:Int)else (LF:Int))=(rm:Int):=by rw[←JE];split<;>omega
 generalize hz:X.sz=sz at*
 obtain⟨S2,hS2⟩:∃S2,2*sz=S2:=⟨_,rfl⟩
 obtain⟨A1,oX⟩:∃A1,rm-S2=A1:=⟨_,rfl⟩
 obtain⟨HK,rT⟩:∃HK,hh*k=HK:=⟨_,rfl⟩
 obtain⟨B1,rW⟩:∃B1,rm-sz=B1:=⟨_,rfl⟩
 obtain⟨SK,hSK⟩:∃SK,sz+k=SK:=⟨_,rfl⟩
 rw[hS2]at hrb
 rw[oX,rT]at hrb
 rw[rW,hSK]at Lz
 have HK0:0<HK:=by rw[←rT];exact Nat.mul_pos DO k0.1
 have HKb:HK≤1280:=by rw[←rT];exact Nat.mul_le_mul Ed k0.2
 have e1:(2:Int)*(sz:Int)=(S2:Int):=by omega
 have e2:(rm:Int)-(S2:Int)=(A1:Int):=by omega
 have e3:(hh:Int)*(k:Int)=(HK:Int):=by rw[←rT];exact(Int.natCast_mul hh k).symm
 have e4:(A1:Int).tdiv (HK:Int)=(rb:Int):=by rw[←hrb];rfl
 have e5:(rm:Int)-(sz:Int)=(B1:Int):=by omega
 have e6:(sz:Int)+(k:Int)=(SK:Int):=by omega
 have e7:(B1:Int).tdiv (SK:Int)=(Ak:Int):=by rw[←Lz];rfl
 have n1:¬((HK:Int)=0):=by omega
 have n2:¬((SK:Int)=0):=by omega
 have n3:((HK:Int)==0)=false:=by simpa using n1
 have n4:((SK:Int)==0)=false:=by simpa using n2
 have n5:¬(HK=0):=by omega
 have n6:¬(SK=0):=by omega
 have AB7:rb≤65536:=by rw[←hrb];exact Nat.le_trans (Nat.div_le_self _ _) (by omega)
 have AD5:Ak≤65536:=by rw[←Lz];exact Nat.le_trans (Nat.div_le_self _ _) (by omega)
 have w1:IntKind.i64.wrap (S2:Int)=(S2:Int):=IntWalk.i64_in _ (by omega)
 have w2:IntKind.i64.wrap (A1:Int)=(A1:Int):=IntWalk.i64_in _ (by omega)
 have w3:IntKind.i64.wrap (HK:Int)=(HK:Int):=IntWalk.i64_in _ (by omega)
 have w4:IntKind.i64.wrap (rb:Int)=(rb:Int):=IntWalk.i64_in _ (by omega)
 have w5:IntKind.i64.wrap (B1:Int)=(B1:Int):=IntWalk.i64_in _ (by omega)
 have w6:IntKind.i64.wrap (SK:Int)=(SK:Int):=IntWalk.i64_in _ (by omega)
 have w7:IntKind.i64.wrap (Ak:Int)=(Ak:Int):=IntWalk.i64_in _ (by omega)
 have ER:=Lib.hid B2
 have Kj:=Lib.hid Aj
 have Dr:=Lib.hid BS
 generalize YD:W.heap.size=s0 at*
 have x0:W1.cell? ⟨s0,0,none⟩=some (.int .i64 0):=Dr.out.cell 0
 have x1:W1.cell? ⟨s0,1,none⟩=some (.int .i64 0):=Dr.out.cell 1
 have x2:W1.cell? ⟨s0,2,none⟩=some (.int .i64 0):=Dr.out.cell 2
 have x3:W1.cell? ⟨s0,3,none⟩=some (.int .i64 0):=Dr.out.cell 3
 have f0:W1.frozen? ⟨s0,0,none⟩=false:=Dr.out.free 0
 have f1:W1.frozen? ⟨s0,1,none⟩=false:=Dr.out.free 1
 have f2:W1.frozen? ⟨s0,2,none⟩=false:=Dr.out.free 2
 have f3:W1.frozen? ⟨s0,3,none⟩=false:=Dr.out.free 3
 clear B2 Aj BS h h1 JE hG hS2 oX rT rW hSK JG hrb Lz hz hbd hsz
 go_enter Tryz.func47,Tryz.ntmps47
 go_upto_region 1 with(fail)
 rw[←ER.out]
 clear ER
 go_wp2_with fail
 refine HD.out.mono ?_
 rintro e w ⟨rfl,rfl⟩
 go_wp2_with fail
 refine HZ.out.mono ?_
 rintro e w' ⟨rfl,rfl⟩
 go_wp2_with fail
 refine HO.out.mono ?_
 rintro e DG ⟨rfl,rfl⟩
 go_wp2_with fail
 refine pI.out.mono ?_
 rintro e w3' ⟨rfl,rfl⟩
 go_wp2_with fail
 refine jV.out.mono ?_
 rintro e nu ⟨rfl,rfl⟩
 go_upto_region 3 with(fail)
 refine wp_region_still_tail 18 (by kernel_rfl) (by kernel_rfl) ?_
 simp only[List.take_succ_cons,List.take_zero,List.drop_succ_cons,List.drop_zero]
 change wpStill Tryz.prog _ nu.drew (fun a'=>wpList Tryz.prog _ _ _ a' nu.drew) _ _
 repeat still_step
 refine wpStill_nil ?_
 go_wp2
 have N5:Row (((((nu.setCell ⟨s0,0,none⟩ (.int .i64 k)).setCell ⟨s0,1,none⟩ (.int .i64 hh)).setCell ⟨s0,2,none⟩ (.int .i64 rb)).setCell ⟨s0,3,none⟩ (.int .i64 Ak)).drew) s0 95 [.int .i64 k,.int .i64 hh,.int .i64 rb,.int .i64 Ak]:=((((Dr.out.set 0 (.int .i64 k)).set 1 (.int .i64 hh)).set 2 (.int .i64 rb)).set 3 (.int .i64 Ak)).drewN 1
 have uT:Below W.heap.size W (((((nu.setCell ⟨s0,0,none⟩ (.int .i64 k)).setCell ⟨s0,1,none⟩ (.int .i64 hh)).setCell ⟨s0,2,none⟩ (.int .i64 rb)).setCell ⟨s0,3,none⟩ (.int .i64 Ak)).drew):=by
  have h0:Below s0 W nu:=Kj.out
  have h1:=h0.setCell (p:=⟨s0,0,none⟩) (Nat.le_refl _) (.int .i64 (k:Int))
  have h2:=h1.setCell (p:=⟨s0,1,none⟩) (Nat.le_refl _) (.int .i64 (hh:Int))
  have h3:=h2.setCell (p:=⟨s0,2,none⟩) (Nat.le_refl _) (.int .i64 (rb:Int))
  have h4:=(h3.setCell (p:=⟨s0,3,none⟩) (Nat.le_refl _) (.int .i64 (Ak:Int))).drew
  rw[YD];exact h4
 generalize((((nu.setCell ⟨s0,0,none⟩ (.int .i64 k)).setCell ⟨s0,1,none⟩ (.int .i64 hh)).setCell ⟨s0,2,none⟩ (.int .i64 rb)).setCell ⟨s0,3,none⟩ (.int .i64 Ak)).drew=w9 at*
 have q0:=N5.cell 0
 have q1:=N5.cell 1
 have q2:=N5.cell 2
 have q3:=N5.cell 3
 rw[YD]at uT
 exact bodyPost_ret (v:=.agg #[.int .i64 k,.int .i64 hh,.int .i64 rb,.int .i64 Ak]) (by simp[results,Tryz.results47,go_sem,q0,q1,q2,q3]) rfl ⟨rfl,uT⟩
end
section
variable {X : Cx} {os : List AU} {m i : Nat} {W W' : World} {G : Nat → Prop} {D : St} {A : Ar} {S : Sp} {first nb k hh count : Nat} {l : List AB}
def jk(W w:World)(a:Nat):Prop:=Below W.heap.size W w∧W.heap.size≤a∧Ez w (fun k=>k=a) a (empty 0)
theorem jk.below{W w w':World}{a:Nat}(h:jk W w a)(hb:Below w.heap.size w w'):jk W w' a:=
 ⟨h.1.trans (hb.mono h.1.size),h.2.1,h.2.2.CU (AK.AJ hb fun _=>False) (fun _ _ h=>h) (fun _ _ h=>h)⟩
theorem dP{w:World}{a wp n:Nat}{p:Wp}(h:Sys W G p ⟨D,A,S⟩ n)(h0:jk W w a)(hr:Row w wp 70 [ptr p.d,ptr a,ptr p.s])(hw:W.heap.size≤wp∧wp≠a):∃G',Sys w G' ⟨wp,p.d,a,p.s⟩ ⟨D,empty 0,S⟩ n:=by
 have hlt:=fun k hk=>h.lt (k:=k) hk
 obtain⟨hb,ML,ha⟩:=h0
 obtain⟨Gd,Ga,Gs,hrw,hd,KS,hs,hg,h1,h2,h3,h4⟩:=h.below hb
 have hG:∀k,Gd k∨Gs k→k<W.heap.size:=fun k hk=>hlt k ((hg k).2 (hk.elim (fun h=>.inr (.inl h)) fun h=>.inr (.inr (.inr h))))
 refine⟨fun k=>k=wp∨Gd k∨k=a∨Gs k,Gd,fun k=>k=a,Gs,hr,hd,ha,hs,fun k=>Iff.rfl,fun k hk=>⟨fun e=>?_,(h1 k hk).2.1,fun e=>?_⟩,fun k hk=>⟨fun FK=>?_,fun e=>?_⟩,fun k hk e=>?_,fun q hq=>by cases hq⟩
 ·have e:k=a:=e
  have:=hG k (.inl hk);omega
 ·have e:k=wp:=e
  have:=hG k (.inl hk);omega
 ·have hk:k=a:=hk
  have:=hG k (.inr FK);omega
 ·have hk:k=a:=hk
  have e:k=wp:=e
  omega
 ·have e:k=wp:=e
  have:=hG k (.inr hk);omega
theorem Xi(h:Wd X os m W)(JG:hh=AE X.sz k)(DO:0<hh)(Hz:nb=AA hh count)(FM:count≤100000):
  Calls Tryz.prog 42 #[.pointer (some ⟨X.p.w,0,none⟩),.agg #[.int .i64 first,.int .i64 nb,.int .i64 k,.int .i64 count]] W fun e w'=>e=.returned (.bool true)∧Below W.heap.size W w':=by
 obtain⟨W1,B2⟩:∃W1,W1=W.alloc (.cells #[.int .i64 first,.int .i64 nb,.int .i64 k,.int .i64 count] 39):=⟨_,rfl⟩
 have Aj:Below W.heap.size W W1:=by rw[B2];exact(Below.refl _ _).alloc (Nat.le_refl _) _
 have BS:Row W1 W.heap.size 39 [.int .i64 first,.int .i64 nb,.int .i64 k,.int .i64 count]:=by rw[B2];exact heap_alloc_new _ _
 obtain⟨G,D,A,S,hF⟩:=h
 have h1:=hF.below Aj
 have hbd:8≤X.sz:=(Wd.bounds ⟨G,D,A,S,hF⟩).1.1
 have u9:Hid (∀w,Below W1.heap.size W1 w→Calls Tryz.prog 18 #[.pointer (some ⟨X.p.w,0,none⟩)] w fun e w'=>e=.returned (.pointer (some ⟨X.p.d,0,none⟩))∧w'=w):=fun w hb=>TO ⟨G,D,A,S,h1.below hb⟩
 have gJ:Hid (∀w,Below W1.heap.size W1 w→Calls Tryz.prog 16 #[.pointer (some ⟨X.p.w,0,none⟩)] w fun e w'=>e=.returned (.pointer (some ⟨X.p.s,0,none⟩))∧w'=w):=fun w hb=>YR ⟨G,D,A,S,h1.below hb⟩
 have zT:Hid (∀w,Below W1.heap.size W1 w→Calls Tryz.prog 31 #[.int .i64 0] w fun e w'=>∃a,e=.returned (.pointer (some ⟨a,0,none⟩))∧jk W1 w' a):=fun w hb=>by
  refine(PZ 0 w (by omega) (by omega)).mono ?_
  rintro e w' ⟨he,ha,AX⟩
  exact⟨w.heap.size,he,hb.trans (AX.mono hb.size),hb.size,ha⟩
 have cC:Hid (∀w a,jk W1 w a→Calls Tryz.prog 30 #[.pointer (some ⟨X.p.d,0,none⟩),.pointer (some ⟨a,0,none⟩),.pointer (some ⟨X.p.s,0,none⟩)] w fun e w'=>∃wp,e=.returned (.pointer (some ⟨wp,0,none⟩))∧jk W1 w' a∧Row w' wp 70 [ptr X.p.d,ptr a,ptr X.p.s]∧W1.heap.size≤wp∧wp≠a):=fun w a h0=>by
  refine(SV X.p.d a X.p.s w).mono ?_
  rintro e w' ⟨he,rfl⟩
  have oV:a<w.heap.size:=h0.2.2.lt rfl
  exact⟨w.heap.size,he,h0.below ((Below.refl _ _).alloc (Nat.le_refl _) _),heap_alloc_new _ _,h0.1.size,by omega⟩
 have Nu:Hid (∀w a wp,jk W1 w a→Row w wp 70 [ptr X.p.d,ptr a,ptr X.p.s]→W1.heap.size≤wp→wp≠a→Calls Tryz.prog 50 #[.pointer (some ⟨wp,0,none⟩),.agg #[.int .i64 first,.int .i64 nb,.int .i64 k,.int .i64 count]] w fun e w'=>e=.returned (.tuple #[.pointer none,.int .i64 7])∧Below W1.heap.size W1 w'):=fun w a wp h0 hr hw hne=>by
  obtain⟨G',lC⟩:=dP h1.sys h0 hr ⟨hw,hne⟩
  have UD:D.size=X.sz:=hF.size
  refine(UN lC k hh first nb count (by show hh=AE D.size k;rw[UD];exact JG) DO Hz (by omega) (by show (empty 0).room-(empty 0).used<D.size;rw[UD];exact Nat.lt_of_lt_of_le (by show 0-0<8;omega) hbd)).mono ?_
  rintro e w' ⟨he,hb⟩
  exact⟨he,h0.1.trans (hb.mono h0.1.size)⟩
 have Um:Hid (∀w,Below W1.heap.size W1 w→w.cell? ⟨W.heap.size,0,none⟩=some (.int .i64 first)∧w.cell? ⟨W.heap.size,1,none⟩=some (.int .i64 nb)∧w.cell? ⟨W.heap.size,2,none⟩=some (.int .i64 k)∧w.cell? ⟨W.heap.size,3,none⟩=some (.int .i64 count)):=fun w hb=>by
  have h9:=BS.below hb BS.lt
  exact⟨h9.cell 0,h9.cell 1,h9.cell 2,h9.cell 3⟩
 have Fg:Hid (∀w,Below W1.heap.size W1 w→Below W.heap.size W w):=fun w hb=>Aj.trans (hb.mono Aj.size)
 have hb0:Below W1.heap.size W1 W1.drew:=AH (Below.refl _ _)
 have q0:=Um.out _ hb0
 have ER:=Lib.hid B2
 have si:=Lib.hid Hz
 have HHE:=Lib.hid JG
 generalize YD:W.heap.size=s0 at*
 clear B2 Aj BS hF h1 Hz JG
 go_enter Tryz.func42,Tryz.ntmps42
 go_upto_region 1 with(fail)
 rw[←ER.out]
 clear ER
 go_region_held3 (fun w=>w.cell? ⟨s0,0,none⟩=some (.int .i64 first)∧w.cell? ⟨s0,1,none⟩=some (.int .i64 nb)∧w.cell? ⟨s0,2,none⟩=some (.int .i64 k)∧w.cell? ⟨s0,3,none⟩=some (.int .i64 count)) (first|with_reducible exact q0|with_reducible exact q5|with_reducible exact q6|with_reducible exact q7)
  (first
   |(go_at_call 18;(with_reducible refine(u9.out _ (by first|with_reducible exact hb0|with_reducible exact DS)).mono ?_);rintro e w4 ⟨rfl,rfl⟩)
   |(go_at_call 16;(with_reducible refine(gJ.out _ (by first|with_reducible exact hb0|with_reducible exact DS)).mono ?_);rintro e w4 ⟨rfl,rfl⟩)
   |(go_at_call 31;(with_reducible refine(zT.out _ hb0).mono ?_);rintro e w5 ⟨a,rfl,h5⟩;have DS:=h5.1;have q5:=Um.out w5 DS;have q6:=q5;have q7:=q5)
   |(go_at_call 30;(with_reducible refine(cC.out _ _ h5).mono ?_);rintro e w6 ⟨wp,rfl,h6,FJ,ki,hn6⟩;have q6:=Um.out w6 h6.1)
   |(go_at_call 50;(with_reducible refine(Nu.out _ _ _ h6 FJ ki hn6).mono ?_);rintro e w7 ⟨rfl,xk⟩;have q7:=Um.out w7 xk))
 all_goals
  have H9:=Lib.hid (Fg.out _ xk)
  clear xk q7 q6 q5 q0 h6 FJ ki hn6 h5 DS hb0
  go_wp2
  go_ret
  exact⟨rfl,by rw[YD]at*;exact H9.out⟩
end
section
variable {X : Cx} {os : List AU} {m i : Nat} {W W' : World} {first nb k hh count : Nat} {l : List AB} {o : AB} {once : Bool}
theorem U5{z2:List AU}{z n:Nat}(h:Rm X os z n)(hz:GP z2):Rm X (os++z2) z n:=fun y h1 h2=>by
 obtain⟨k1,k2⟩:=h y h1 h2
 refine⟨k1,fun j a hj hx=>?_⟩
 rcases List.mem_append.1 (List.mem_of_getElem? hj)with hm|hm
 ·obtain⟨j2,hj2,e⟩:=List.getElem_of_mem hm
  exact k2 j2 a (by rw[List.getElem?_eq_getElem hj2,e]) hx
 ·have h4:=(hz a hm).2
  unfold En at hx;rw[h4]at hx;omega
def Qm(X:Cx)(os:List AU)(i m nb k hh:Nat)(l:List AB)(o:AB)(once:Bool)(e:Ending)(w':World):Prop:=
 (∃(F N C:Nat) (l':List AB) (m' j:Nat),e=.returned (.tuple #[.agg #[.int .i64 (F:Nat),.int .i64 (N:Nat),.int .i64 k,.int .i64 (C:Nat)],.int .i64 0])∧(∃s,Gz o s∧Cl o l s∧l'=BC once o s)∧Jr F N k hh l' X.sz∧C=l'.length∧
  (j=0∨2^(j-1)<nb)∧m'≤m+2*nb*(1+j)∧Wd X (os.set i Bl++[Cb F N k hh l' X.sz]) m' w')∨
 (∃er,e=.returned (.tuple #[.agg #[.int .i64 0,.int .i64 0,.int .i64 0,.int .i64 0],.int .i64 er])∧((er=5∧∀z,¬Rm X os z (3*nb))∨(er=6∧¬X.cm))∧∃m',Wd X os m' w')
def Qn(X:Cx)(os:List AU)(m nb k hh:Nat)(l:List AB)(o:AB)(once:Bool)(zs:List AU)(F N k' C:Nat)(er:Int)(w':World):Prop:=
 (er=0∧k'=k∧∃(l':List AB) (m' j:Nat),((∃s,Gz o s∧Cl o l s∧l'=BC once o s)∧Jr F N k hh l' X.sz∧C=l'.length∧(j=0∨2^(j-1)<nb)∧m'≤m+2*nb*(1+j))∧Wd X (os++zs++[Cb F N k hh l' X.sz]) m' w')∨
 ((F=0∧N=0∧k'=0∧C=0)∧((er=5∧∀z,¬Rm X os z (3*nb))∨(er=6∧¬X.cm))∧∃m',Wd X (os++zs) m' w')
end
section
variable {X : Cx} {os : List AU} {m i : Nat} {W W' : World} {first nb k hh count : Nat} {l : List AB} {o : AB} {once : Bool}
theorem TY{sz hh k g pX rm rb Ak:Nat}(hk:0<k∧k≤5)(DO:0<hh∧hh*k≤sz-2)(hsz:8≤sz∧sz≤256)(JE:min (pX-g) 65536=rm)(h5:5*sz≤pX-g)(hrb:(rm-2*sz)/(hh*k)=rb)(Lz:(rm-sz)/(sz+k)=Ak):
  (0<rb∧rb≤100000)∧(2≤Ak∧Ak≤7281)∧g+2*sz+rb*hh*k≤pX∧g+sz+Ak*k+Ak*sz≤pX:=by
 have GQ:5*sz≤rm:=by omega
 have hrl:rm≤65536∧rm≤pX-g:=by omega
 have hp:0<hh*k:=Nat.mul_pos DO.1 hk.1
 have h1:rb*(hh*k)≤rm-2*sz:=by rw[←hrb];exact Nat.div_mul_le_self _ _
 have h2:Ak*(sz+k)≤rm-sz:=by rw[←Lz];exact Nat.div_mul_le_self _ _
 have h3:1≤rb:=by rw[←hrb];exact(Nat.le_div_iff_mul_le hp).2 (by omega)
 have h4:2≤Ak:=by rw[←Lz];exact(Nat.le_div_iff_mul_le (by omega)).2 (by omega)
 have h6:rb≤rb*(hh*k):=Nat.le_mul_of_pos_right _ hp
 have h7:Ak*9≤Ak*(sz+k):=Nat.mul_le_mul_left _ (by omega)
 rw[Nat.mul_add]at h2 h7
 rw[Nat.mul_assoc]
 refine⟨⟨h3,by omega⟩,⟨h4,by omega⟩,by omega,by omega⟩
theorem Qn.fin{b5 b6 b8 OE sb F N k' C:Nat}{er:Int}{w9 Fl:World}{rb Ak:Nat}(hi:os[i]?=some (Cb first nb k hh l X.sz))
  (h:(er=0∧k'=k∧∃(l':List AB) (m' j:Nat),((∃s,Gz o s∧Cl o l s∧l'=BC once o s)∧Jr F N k hh l' X.sz∧C=l'.length∧(j=0∨2^(j-1)<nb)∧m'≤m+2*nb*(1+j))∧Wd X (os.set i Bl++([AP b5 first nb k count,AI b6 26 [.int .i64 o.a,.int .i64 o.b,.int .i64 o.c,.int .i64 o.d,.int .i64 o.e],AP b8 0 0 0 0]++[AI sb 98 (Bc X.p.w k hh rb Ak o once count)])++[Cb F N k hh l' X.sz,AP OE F N k C]) m' w9)∨
   ((F=0∧N=0∧k'=0∧C=0)∧((er=5∧∀z,¬Rm X os z (3*nb))∨(er=6∧¬X.cm))∧∃m',Wd X (os++([AP b5 first nb k count,AI b6 26 [.int .i64 o.a,.int .i64 o.b,.int .i64 o.c,.int .i64 o.d,.int .i64 o.e],AP b8 0 0 0 0]++[AI sb 98 (Bc X.p.w k hh rb Ak o once count)])++[AP OE 0 0 0 0]) m' w9)) (hw:Fl=((((w9.setCell ⟨b8,0,none⟩ (.int .i64 (F:Nat))).setCell ⟨b8,1,none⟩ (.int .i64 (N:Nat))).setCell ⟨b8,2,none⟩ (.int .i64 (k':Nat))).setCell ⟨b8,3,none⟩ (.int .i64 (C:Nat)))):
  (Fl.cell? ⟨b8,0,none⟩=some (.int .i64 (F:Nat))∧Fl.cell? ⟨b8,1,none⟩=some (.int .i64 (N:Nat))∧Fl.cell? ⟨b8,2,none⟩=some (.int .i64 (k':Nat))∧Fl.cell? ⟨b8,3,none⟩=some (.int .i64 (C:Nat)))∧
   Hid (Qm X os i m nb k hh l o once (.returned (.tuple #[.agg #[.int .i64 (F:Nat),.int .i64 (N:Nat),.int .i64 (k':Nat),.int .i64 (C:Nat)],.int .i64 er])) Fl):=by
 subst hw
 have key:∀(os' z:List AU) m',Wd X (os'++([AP b5 first nb k count,AI b6 26 [.int .i64 o.a,.int .i64 o.b,.int .i64 o.c,.int .i64 o.d,.int .i64 o.e],AP b8 0 0 0 0]++[AI sb 98 (Bc X.p.w k hh rb Ak o once count)])++z) m' w9→(Row (((((w9.setCell ⟨b8,0,none⟩ (.int .i64 (F:Nat))).setCell ⟨b8,1,none⟩ (.int .i64 (N:Nat))).setCell ⟨b8,2,none⟩ (.int .i64 (k':Nat))).setCell ⟨b8,3,none⟩ (.int .i64 (C:Nat)))) b8 39 [.int .i64 (F:Nat),.int .i64 (N:Nat),.int .i64 (k':Nat),.int .i64 (C:Nat)])∧Wd X (os'++z) m' (((((w9.setCell ⟨b8,0,none⟩ (.int .i64 (F:Nat))).setCell ⟨b8,1,none⟩ (.int .i64 (N:Nat))).setCell ⟨b8,2,none⟩ (.int .i64 (k':Nat))).setCell ⟨b8,3,none⟩ (.int .i64 (C:Nat)))):=fun os' z m' h1=>by
  rw[List.append_assoc]at h1
  have Bp:(os'++([AP b5 first nb k count,AI b6 26 [.int .i64 o.a,.int .i64 o.b,.int .i64 o.c,.int .i64 o.d,.int .i64 o.e],AP b8 0 0 0 0]++[AI sb 98 (Bc X.p.w k hh rb Ak o once count)]++z))[os'.length+2]?=some (AI b8 39 [.int .i64 ((0:Nat):Int),.int .i64 ((0:Nat):Int),.int .i64 ((0:Nat):Int),.int .i64 ((0:Nat):Int)]):=AL os' _ 2
  obtain⟨k1,k2⟩:=D8 (F:=F) (N:=N) (k:=k') (C:=C) (h1.row Bp)
  have h4:=h1.Jz Bp (by decide) k2 k1
  rw[List.set_append_right _ _ (by omega),Nat.add_sub_cancel_left]at h4
  refine⟨k1,?_⟩
  have h5:Wd X (os'++[AP b5 first nb k count,AI b6 26 [.int .i64 o.a,.int .i64 o.b,.int .i64 o.c,.int .i64 o.d,.int .i64 o.e],AP b8 F N k' C,AI sb 98 (Bc X.p.w k hh rb Ak o once count)]++z) m' (((((w9.setCell ⟨b8,0,none⟩ (.int .i64 (F:Nat))).setCell ⟨b8,1,none⟩ (.int .i64 (N:Nat))).setCell ⟨b8,2,none⟩ (.int .i64 (k':Nat))).setCell ⟨b8,3,none⟩ (.int .i64 (C:Nat)))):=by rw[List.append_assoc];exact h4
  exact h5.fh _ (AM ⟨rfl,rfl⟩ (AM ⟨rfl,rfl⟩ (AM ⟨rfl,rfl⟩ (AM ⟨rfl,rfl⟩ BQ))))
 rcases h with⟨rfl,rfl,l',m',j,⟨h1,h2,h3,h4,h5⟩,h6⟩|⟨⟨rfl,rfl,rfl,rfl⟩,h2,m',h6⟩
 ·obtain⟨k1,k2⟩:=key _ _ _ h6
  have k3:Wd X ((os.set i Bl++[Cb F N k' hh l' X.sz])++[AP OE F N k' C]) m' (((((w9.setCell ⟨b8,0,none⟩ (.int .i64 (F:Nat))).setCell ⟨b8,1,none⟩ (.int .i64 (N:Nat))).setCell ⟨b8,2,none⟩ (.int .i64 (k':Nat))).setCell ⟨b8,3,none⟩ (.int .i64 (C:Nat)))):=by rw[List.append_assoc];exact k2
  exact⟨⟨k1.cell 0,k1.cell 1,k1.cell 2,k1.cell 3⟩,.inl ⟨F,N,C,l',m',j,rfl,h1,h2,h3,h4,h5,k3.forget (AM ⟨rfl,rfl⟩ BQ)⟩⟩
 ·obtain⟨k1,k2⟩:=key _ _ _ h6
  exact⟨⟨k1.cell 0,k1.cell 1,k1.cell 2,k1.cell 3⟩,.inr ⟨er,rfl,h2,m',k2.forget (AM ⟨rfl,rfl⟩ BQ)⟩⟩
theorem dJ (h : Wd X os m W) (hi : os[i]? = some (Cb first nb k hh l X.sz)) (hf : Jr first nb k hh l X.sz) (hc : l.length = count) (oT : Fm o) (hroom : 5 * X.sz ≤ X.rm - Aa AU.gw os) (ey : X.rm ≤ 1000000) (Hz : nb ≤ 10000) (hn : X.N + m + 40 * nb + 3 * count + 10 ≤ 1000000) :
    Calls Tryz.prog 20 #[.pointer (some ⟨X.p.w, 0, none⟩), .agg #[.int .i64 first, .int .i64 nb, .int .i64 k, .int .i64 count], .agg #[.int .i64 o.a, .int .i64 o.b, .int .i64 o.c, .int .i64 o.d, .int .i64 o.e], .bool once] W (Qm X os i m nb k hh l o once) := by
  have Dv : count ≤ 100000 := by rw [← hc]; exact hf.len
  have Hy : nb = AA hh count := by rw [← hc]; exact hf.bn
  have hbd := h.bounds
  obtain ⟨rm, JE⟩ : ∃ rm, min (X.rm - Aa AU.gw os) 65536 = rm := ⟨_, rfl⟩
  obtain ⟨rb, hrb⟩ : ∃ rb, (rm - 2 * X.sz) / (hh * k) = rb := ⟨_, rfl⟩
  obtain ⟨Ak, Lz⟩ : ∃ Ak, (rm - X.sz) / (X.sz + k) = Ak := ⟨_, rfl⟩
  obtain ⟨n1, n2, n3, n4⟩ := TY hf.kk ⟨hf.hh.1, hf.hh.2.1⟩ hbd.1 JE hroom hrb Lz
  obtain ⟨W1, B2⟩ : ∃ W1, W1 = W.alloc (.cells #[.int .i64 first, .int .i64 nb, .int .i64 k, .int .i64 count] 39) := ⟨_, rfl⟩
  obtain ⟨W2, S4⟩ : ∃ W2, W2 = W1.alloc (.cells #[.int .i64 o.a, .int .i64 o.b, .int .i64 o.c, .int .i64 o.d, .int .i64 o.e] 26) := ⟨_, rfl⟩
  obtain ⟨W3, Q0⟩ : ∃ W3, W3 = W2.alloc (.cells #[.int .i64 0, .int .i64 0, .int .i64 0, .int .i64 0] 39) := ⟨_, rfl⟩
  obtain ⟨b5, e5⟩ : ∃ b5, W.heap.size = b5 := ⟨_, rfl⟩
  obtain ⟨b6, e6⟩ : ∃ b6, b5 + 1 = b6 := ⟨_, rfl⟩
  obtain ⟨b8, e8⟩ : ∃ b8, b6 + 1 = b8 := ⟨_, rfl⟩
  have z1 : W1.heap.size = b6 := by rw [B2]; simp; omega
  have z2 : W2.heap.size = b8 := by rw [S4]; simp; omega
  have h1 : Wd X (os ++ [AP b5 first nb k count]) m W1 := h.new (by rw [B2]; exact (Below.refl _ _).alloc (Nat.le_refl _) _) (by rw [B2, ← e5]; exact heap_alloc_new _ _) (by omega)
  have h2 : Wd X (os ++ [AP b5 first nb k count] ++ [AI b6 26 [.int .i64 o.a, .int .i64 o.b, .int .i64 o.c, .int .i64 o.d, .int .i64 o.e]]) m W2 := h1.new (by rw [S4]; exact (Below.refl _ _).alloc (Nat.le_refl _) _) (by rw [S4, ← z1]; exact heap_alloc_new _ _) (by omega)
  have oY : Wd X (os ++ [AP b5 first nb k count] ++ [AI b6 26 [.int .i64 o.a, .int .i64 o.b, .int .i64 o.c, .int .i64 o.d, .int .i64 o.e]] ++ [AP b8 0 0 0 0]) m W3 := h2.new (by rw [Q0]; exact (Below.refl _ _).alloc (Nat.le_refl _) _) (by rw [Q0, ← z2]; exact heap_alloc_new _ _) (by omega)
  have h3 : Wd X (os ++ [AP b5 first nb k count, AI b6 26 [.int .i64 o.a, .int .i64 o.b, .int .i64 o.c, .int .i64 o.d, .int .i64 o.e], AP b8 0 0 0 0]) m W3 := by rw [List.append_assoc, List.append_assoc] at oY; exact oY
  have Q6 : Hid (W3 = ((W.alloc (.cells #[.int .i64 first, .int .i64 nb, .int .i64 k, .int .i64 count] 39)).alloc (.cells #[.int .i64 o.a, .int .i64 o.b, .int .i64 o.c, .int .i64 o.d, .int .i64 o.e] 26)).alloc (.cells #[.int .i64 0, .int .i64 0, .int .i64 0, .int .i64 0] 39)) := by unfold Hid; rw [Q0, S4, B2]
  have L2 : GP [AP b5 first nb k count, AI b6 26 [.int .i64 o.a, .int .i64 o.b, .int .i64 o.c, .int .i64 o.d, .int .i64 o.e], AP b8 0 0 0 0] := AM ⟨rfl, rfl⟩ (AM ⟨rfl, rfl⟩ (AM ⟨rfl, rfl⟩ BQ))
  have Ds : Aa AU.gw (os ++ [AP b5 first nb k count, AI b6 26 [.int .i64 o.a, .int .i64 o.b, .int .i64 o.c, .int .i64 o.d, .int .i64 o.e], AP b8 0 0 0 0]) = Aa AU.gw os := by rw [BI, Fx _ L2]; rfl
  have u7 : Hid (Calls Tryz.prog 25 #[.agg #[.int .i64 o.a, .int .i64 o.b, .int .i64 o.c, .int .i64 o.d, .int .i64 o.e]] W3 fun e w' => e = .returned (.bool true) ∧ Below W3.heap.size W3 w') := by
    have h1 := Jg o W3
    rw [decide_eq_true oT] at h1; exact h1
  have HCB : Hid (∀ w, Wd X (os ++ [AP b5 first nb k count, AI b6 26 [.int .i64 o.a, .int .i64 o.b, .int .i64 o.c, .int .i64 o.d, .int .i64 o.e], AP b8 0 0 0 0]) m w → Calls Tryz.prog 42 #[.pointer (some ⟨X.p.w, 0, none⟩), .agg #[.int .i64 first, .int .i64 nb, .int .i64 k, .int .i64 count]] w fun e w' => e = .returned (.bool true) ∧ Wd X (os ++ [AP b5 first nb k count, AI b6 26 [.int .i64 o.a, .int .i64 o.b, .int .i64 o.c, .int .i64 o.d, .int .i64 o.e], AP b8 0 0 0 0]) m w') := fun w hw => (Xi hw hf.N7 hf.hh.1 Hy Dv).mono fun e w' ⟨he, hb⟩ => ⟨he, hw.below hb⟩
  have pI : Hid (∀ w, Wd X (os ++ [AP b5 first nb k count, AI b6 26 [.int .i64 o.a, .int .i64 o.b, .int .i64 o.c, .int .i64 o.d, .int .i64 o.e], AP b8 0 0 0 0]) m w → Calls Tryz.prog 13 #[.pointer (some ⟨X.p.w, 0, none⟩)] w fun e w' => e = .returned (.pointer (some ⟨X.p.a, 0, none⟩)) ∧ w' = w) := fun w hw => Ph hw
  have u9 : Hid (∀ w, Wd X (os ++ [AP b5 first nb k count, AI b6 26 [.int .i64 o.a, .int .i64 o.b, .int .i64 o.c, .int .i64 o.d, .int .i64 o.e], AP b8 0 0 0 0]) m w → Calls Tryz.prog 18 #[.pointer (some ⟨X.p.w, 0, none⟩)] w fun e w' => e = .returned (.pointer (some ⟨X.p.d, 0, none⟩)) ∧ w' = w) := fun w hw => TO hw
  obtain ⟨LF, hLF⟩ : ∃ LF, X.rm - Aa AU.gw os = LF := ⟨_, rfl⟩
  have jV : Hid (∀ w, Wd X (os ++ [AP b5 first nb k count, AI b6 26 [.int .i64 o.a, .int .i64 o.b, .int .i64 o.c, .int .i64 o.d, .int .i64 o.e], AP b8 0 0 0 0]) m w → Calls Tryz.prog 43 #[.pointer (some ⟨X.p.a, 0, none⟩)] w fun e w' => e = .returned (.int .i64 (LF : Nat)) ∧ w' = w) := fun w hw => by
    have h1 := Ut hw; rw [Ds, hLF] at h1; exact h1
  obtain ⟨sz, hsz⟩ : ∃ sz, X.sz = sz := ⟨_, rfl⟩
  have HDS : Hid (∀ w, Wd X (os ++ [AP b5 first nb k count, AI b6 26 [.int .i64 o.a, .int .i64 o.b, .int .i64 o.c, .int .i64 o.d, .int .i64 o.e], AP b8 0 0 0 0]) m w → Calls Tryz.prog 44 #[.pointer (some ⟨X.p.d, 0, none⟩)] w fun e w' => e = .returned (.int .i64 (sz : Nat)) ∧ w' = w) := fun w hw => by
    have h1 := RH hw; rw [hsz] at h1; exact h1
  have KJ : first ≤ 2000000 := hf.fst
  have Kg : Hid (∀ w, Wd X (os ++ [AP b5 first nb k count, AI b6 26 [.int .i64 o.a, .int .i64 o.b, .int .i64 o.c, .int .i64 o.d, .int .i64 o.e], AP b8 0 0 0 0]) m w → Calls Tryz.prog 45 #[.pointer (some ⟨X.p.w, 0, none⟩), .agg #[.int .i64 first, .int .i64 nb, .int .i64 k, .int .i64 count]] w fun e w' => e = .returned (.bool true) ∧ Wd X (os ++ [AP b5 first nb k count, AI b6 26 [.int .i64 o.a, .int .i64 o.b, .int .i64 o.c, .int .i64 o.d, .int .i64 o.e], AP b8 0 0 0 0]) m w') := fun w hw => V9 hw (Ae hi) KJ (by omega) count
  have uh : Hid (∀ w, Wd X (os ++ [AP b5 first nb k count, AI b6 26 [.int .i64 o.a, .int .i64 o.b, .int .i64 o.c, .int .i64 o.d, .int .i64 o.e], AP b8 0 0 0 0]) m w → Calls Tryz.prog 47 #[.pointer (some ⟨X.p.w, 0, none⟩), .int .i64 k] w fun e w' => e = .returned (.agg #[.int .i64 k, .int .i64 hh, .int .i64 rb, .int .i64 Ak]) ∧ Wd X (os ++ [AP b5 first nb k count, AI b6 26 [.int .i64 o.a, .int .i64 o.b, .int .i64 o.c, .int .i64 o.d, .int .i64 o.e], AP b8 0 0 0 0]) m w') := fun w hw =>
    (RV (rm := rm) hw hf.kk hf.N7 hf.hh.1 (by rw [Ds]; exact JE) (by omega) hrb Lz).mono fun e w' ⟨he, hb⟩ => ⟨he, hw.below hb⟩
  have Df : Hid (∀ (z : List AU) m w, Wd X (os ++ ([AP b5 first nb k count, AI b6 26 [.int .i64 o.a, .int .i64 o.b, .int .i64 o.c, .int .i64 o.d, .int .i64 o.e], AP b8 0 0 0 0] ++ z)) m w → Row w b5 39 [.int .i64 (first : Nat), .int .i64 (nb : Nat), .int .i64 (k : Nat), .int .i64 (count : Nat)] ∧ Row w b6 26 [.int .i64 o.a, .int .i64 o.b, .int .i64 o.c, .int .i64 o.d, .int .i64 o.e] ∧ Row w b8 39 [.int .i64 0, .int .i64 0, .int .i64 0, .int .i64 0]) := fun z m w hw => ⟨hw.row (AL os _ 0), hw.row (AL os _ 1), hw.row (AL os _ 2)⟩
  have Vr : Hid (∀ w, Wd X (os ++ [AP b5 first nb k count, AI b6 26 [.int .i64 o.a, .int .i64 o.b, .int .i64 o.c, .int .i64 o.d, .int .i64 o.e], AP b8 0 0 0 0]) m w → Row w b5 39 [.int .i64 (first : Nat), .int .i64 (nb : Nat), .int .i64 (k : Nat), .int .i64 (count : Nat)] ∧ Row w b6 26 [.int .i64 o.a, .int .i64 o.b, .int .i64 o.c, .int .i64 o.d, .int .i64 o.e] ∧ Row w b8 39 [.int .i64 0, .int .i64 0, .int .i64 0, .int .i64 0]) := fun w hw => Df.out [] m w (by rw [List.append_nil]; exact hw)
  have HSS : Hid (∀ w sb, Wd X (os ++ ([AP b5 first nb k count, AI b6 26 [.int .i64 o.a, .int .i64 o.b, .int .i64 o.c, .int .i64 o.d, .int .i64 o.e], AP b8 0 0 0 0] ++ [AI sb 98 (Bc X.p.w k hh rb Ak o once count)])) m w → Calls Tryz.prog 48 #[.pointer (some ⟨sb, 0, none⟩), .agg #[.int .i64 first, .int .i64 nb, .int .i64 k, .int .i64 count]] w fun e w' => ∃ (F N k' C : Nat) (er : Int), e = .returned (.tuple #[.agg #[.int .i64 (F : Nat), .int .i64 (N : Nat), .int .i64 (k' : Nat), .int .i64 (C : Nat)], .int .i64 er]) ∧ Qn X os m nb k hh l o once ([AP b5 first nb k count, AI b6 26 [.int .i64 o.a, .int .i64 o.b, .int .i64 o.c, .int .i64 o.d, .int .i64 o.e], AP b8 0 0 0 0] ++ [AI sb 98 (Bc X.p.w k hh rb Ak o once count)]) F N k' C er w') := fun w sb hw => by
    let P : SP := ⟨X, os ++ ([AP b5 first nb k count, AI b6 26 [.int .i64 o.a, .int .i64 o.b, .int .i64 o.c, .int .i64 o.d, .int .i64 o.e], AP b8 0 0 0 0] ++ [AI sb 98 (Bc X.p.w k hh rb Ak o once count)]), sb, rb, Ak, o, once, k, hh, first, nb, count, l, m, w.heap.size, w.heap.size + 1, w.heap.size + 1 + 1, w.heap.size + 1 + 1 + 1, 0⟩
    have fK : GP ([AP b5 first nb k count, AI b6 26 [.int .i64 o.a, .int .i64 o.b, .int .i64 o.c, .int .i64 o.d, .int .i64 o.e], AP b8 0 0 0 0] ++ [AI sb 98 (Bc X.p.w k hh rb Ak o once count)]) := AM ⟨rfl, rfl⟩ (AM ⟨rfl, rfl⟩ (AM ⟨rfl, rfl⟩ (AM ⟨rfl, rfl⟩ BQ)))
    have hgP : Aa AU.gw (os ++ ([AP b5 first nb k count, AI b6 26 [.int .i64 o.a, .int .i64 o.b, .int .i64 o.c, .int .i64 o.d, .int .i64 o.e], AP b8 0 0 0 0] ++ [AI sb 98 (Bc X.p.w k hh rb Ak o once count)])) = Aa AU.gw os := by rw [BI, Fx _ fK]; rfl
    have hP : P.Ok (os.length + 3) := {
      row := AL os _ 3
      f := hf
      c := hc
      src := ⟨i, _, Ae hi, fun D hD hd => by rw [← hf.bn]; exact hd hD, fun _ => by
        show first ≤ first ∧ first + AA hh l.length ≤ first + nb
        rw [← hf.bn]; omega⟩
      rb := n1
      Ak := ⟨n2.1, by show Ak ≤ 1000000; omega⟩
      room1 := by show Aa AU.gw (os ++ ([AP b5 first nb k count, AI b6 26 [.int .i64 o.a, .int .i64 o.b, .int .i64 o.c, .int .i64 o.d, .int .i64 o.e], AP b8 0 0 0 0] ++ [AI sb 98 (Bc X.p.w k hh rb Ak o once count)])) + 2 * X.sz + rb * hh * k ≤ X.rm; rw [hgP]; exact n3
      room2 := by show Aa AU.gw (os ++ ([AP b5 first nb k count, AI b6 26 [.int .i64 o.a, .int .i64 o.b, .int .i64 o.c, .int .i64 o.d, .int .i64 o.e], AP b8 0 0 0 0] ++ [AI sb 98 (Bc X.p.w k hh rb Ak o once count)])) + X.sz + Ak * k + Ak * X.sz ≤ X.rm; rw [hgP]; exact n4
      rm := ey
      n := hn
      prod := by
        show nb * Ak ≤ 100000000
        exact Nat.le_trans (Nat.mul_le_mul Hz n2.2) (by omega) }
    refine (dB hP hw rfl rfl rfl rfl).mono ?_
    rintro e w' (⟨F, N, C, l', m', j, he, h1, h2, h3, h4, h5, h6⟩ | ⟨er, he, h1, m', h6⟩)
    · exact ⟨F, N, k, C, 0, he, .inl ⟨rfl, rfl, l', m', j, ⟨h1, h2, h3, h4, h5⟩, h6⟩⟩
    · refine ⟨0, 0, 0, 0, er, he, .inr ⟨⟨rfl, rfl, rfl, rfl⟩, ?_, m', h6⟩⟩
      rcases h1 with ⟨h1, h7⟩ | h1
      · exact .inl ⟨h1, fun z hz => h7 z (U5 hz fK)⟩
      · exact .inr h1
  have Fg : Hid (∀ OE sb F N k' C er w9 Fl, ((er = 0 ∧ k' = k ∧ ∃ (l' : List AB) (m' j : Nat), ((∃ s, Gz o s ∧ Cl o l s ∧ l' = BC once o s) ∧ Jr F N k hh l' X.sz ∧ C = l'.length ∧ (j = 0 ∨ 2 ^ (j - 1) < nb) ∧ m' ≤ m + 2 * nb * (1 + j)) ∧ Wd X (os.set i Bl ++ ([AP b5 first nb k count, AI b6 26 [.int .i64 o.a, .int .i64 o.b, .int .i64 o.c, .int .i64 o.d, .int .i64 o.e], AP b8 0 0 0 0] ++ [AI sb 98 (Bc X.p.w k hh rb Ak o once count)]) ++ [Cb F N k hh l' X.sz, AP OE F N k C]) m' w9) ∨
      ((F = 0 ∧ N = 0 ∧ k' = 0 ∧ C = 0) ∧ ((er = 5 ∧ ∀ z, ¬ Rm X os z (3 * nb)) ∨ (er = 6 ∧ ¬ X.cm)) ∧ ∃ m', Wd X (os ++ ([AP b5 first nb k count, AI b6 26 [.int .i64 o.a, .int .i64 o.b, .int .i64 o.c, .int .i64 o.d, .int .i64 o.e], AP b8 0 0 0 0] ++ [AI sb 98 (Bc X.p.w k hh rb Ak o once count)]) ++ [AP OE 0 0 0 0]) m' w9)) → Fl = ((((w9.setCell ⟨b8, 0, none⟩ (.int .i64 (F : Nat))).setCell ⟨b8, 1, none⟩ (.int .i64 (N : Nat))).setCell ⟨b8, 2, none⟩ (.int .i64 (k' : Nat))).setCell ⟨b8, 3, none⟩ (.int .i64 (C : Nat))) →
    (Fl.cell? ⟨b8, 0, none⟩ = some (.int .i64 (F : Nat)) ∧ Fl.cell? ⟨b8, 1, none⟩ = some (.int .i64 (N : Nat)) ∧ Fl.cell? ⟨b8, 2, none⟩ = some (.int .i64 (k' : Nat)) ∧ Fl.cell? ⟨b8, 3, none⟩ = some (.int .i64 (C : Nat))) ∧
      Hid (Qm X os i m nb k hh l o once (.returned (.tuple #[.agg #[.int .i64 (F : Nat), .int .i64 (N : Nat), .int .i64 (k' : Nat), .int .i64 (C : Nat)], .int .i64 er])) Fl)) := fun OE sb F N k' C er w9 Fl h hw => Qn.fin (first := first) hi h hw
  have H3 := Lib.hid h3
  have HI := Lib.hid hi
  have SC : sz ≤ 256 := by rw [← hsz]; exact hbd.1.2
  obtain ⟨S5, hS5⟩ : ∃ S5, 5 * sz = S5 := ⟨_, rfl⟩
  have e55 : (5 : Int) * (sz : Int) = (S5 : Int) := by omega
  have AE1 : S5 ≤ 1280 := by omega
  have hge : S5 ≤ LF := by omega
  have qm : decide (LF < S5) = false := by simp; omega
  have AA3 : decide ((LF : Int) < (S5 : Int)) = false := by simp; omega
  have Cm := Vr.out W3 h3
  have c0 : W3.cell? ⟨b6, 0, none⟩ = some (.int .i64 o.a) := Cm.2.1.cell 0
  have c1 : W3.cell? ⟨b6, 1, none⟩ = some (.int .i64 o.b) := Cm.2.1.cell 1
  have c2 : W3.cell? ⟨b6, 2, none⟩ = some (.int .i64 o.c) := Cm.2.1.cell 2
  have c3 : W3.cell? ⟨b6, 3, none⟩ = some (.int .i64 o.d) := Cm.2.1.cell 3
  have c4 : W3.cell? ⟨b6, 4, none⟩ = some (.int .i64 o.e) := Cm.2.1.cell 4
  have XH : nb ≤ 2000000 := by omega
  clear Cm h h1 h2 h3 oY hi hf hc oT hroom ey Hz hn Hy hbd JE hrb Lz n1 n2 n3 n4 B2 S4 Q0 z1 z2 L2 Ds hLF hsz hS5 Dv
  go_enter Tryz.func20, Tryz.ntmps20
  go_upto_region 1 with (fail)
  rw [← Q6.out]
  clear Q6 e5 e6 e8
  go_wp2_with fail
  refine u7.out.mono ?_
  rintro e w4 ⟨rfl, Dz⟩
  have h4 := H3.out.below Dz
  have r4 := (Vr.out w4 h4).1
  have d0 : w4.cell? ⟨b5, 0, none⟩ = some (.int .i64 first) := r4.cell 0
  have d1 : w4.cell? ⟨b5, 1, none⟩ = some (.int .i64 nb) := r4.cell 1
  have d2 : w4.cell? ⟨b5, 2, none⟩ = some (.int .i64 k) := r4.cell 2
  have d3 : w4.cell? ⟨b5, 3, none⟩ = some (.int .i64 count) := r4.cell 3
  have HC4 := Lib.hid (HCB.out w4 h4)
  clear c0 c1 c2 c3 c4 r4 Dz u7 H3 h4 HCB
  go_wp2_with fail
  refine HC4.out.mono ?_
  rintro e w5 ⟨rfl, h5⟩
  have H1 := Lib.hid (pI.out w5 h5)
  have H2 := Lib.hid (jV.out w5 h5)
  have H3 := Lib.hid (u9.out w5 h5)
  have H4 := Lib.hid (HDS.out w5 h5)
  have HT := Lib.hid (Kg.out w5 h5)
  have r5 := (Vr.out w5 h5).1
  have g0 : w5.cell? ⟨b5, 0, none⟩ = some (.int .i64 first) := r5.cell 0
  have g1 : w5.cell? ⟨b5, 1, none⟩ = some (.int .i64 nb) := r5.cell 1
  have g2 : w5.cell? ⟨b5, 2, none⟩ = some (.int .i64 k) := r5.cell 2
  have g3 : w5.cell? ⟨b5, 3, none⟩ = some (.int .i64 count) := r5.cell 3
  clear h5 r5 HC4 d0 d1 d2 d3 pI jV u9 HDS Kg
  go_wp2_with fail
  refine H1.out.mono ?_
  rintro e w ⟨rfl, rfl⟩
  go_wp2_with fail
  refine H2.out.mono ?_
  rintro e w' ⟨rfl, rfl⟩
  go_wp2_with fail
  refine H3.out.mono ?_
  rintro e w6 ⟨rfl, rfl⟩
  go_wp2_with fail
  refine H4.out.mono ?_
  rintro e w7 ⟨rfl, rfl⟩
  clear H1 H2 H3 H4
  go_wp2_with fail
  refine HT.out.mono ?_
  rintro e w8 ⟨rfl, h8⟩
  clear HT g0 g1 g2 g3
  have x9 := h8.below (AH (Below.refl _ _))
  have sO := Lib.hid (uh.out _ x9)
  have um : Hid (∀ w, Wd X (os ++ [AP b5 first nb k count, AI b6 26 [.int .i64 o.a, .int .i64 o.b, .int .i64 o.c, .int .i64 o.d, .int .i64 o.e], AP b8 0 0 0 0]) m w → (w.cell? ⟨b6, 0, none⟩ = some (.int .i64 o.a) ∧ w.cell? ⟨b6, 1, none⟩ = some (.int .i64 o.b) ∧ w.cell? ⟨b6, 2, none⟩ = some (.int .i64 o.c) ∧ w.cell? ⟨b6, 3, none⟩ = some (.int .i64 o.d) ∧ w.cell? ⟨b6, 4, none⟩ = some (.int .i64 o.e) ∧ w.cell? ⟨b5, 3, none⟩ = some (.int .i64 count) ∧ w.cell? ⟨b5, 2, none⟩ = some (.int .i64 k))) := fun w hw => by
    obtain ⟨j5, j6, _⟩ := Vr.out w hw
    exact ⟨j6.cell 0, j6.cell 1, j6.cell 2, j6.cell 3, j6.cell 4, j5.cell 3, j5.cell 2⟩
  have s1 := um.out _ x9
  clear h8 x9 uh
  go_upto_region 7 with (fail)
  go_region_held3 (fun w => w.cell? ⟨b6, 0, none⟩ = some (.int .i64 o.a) ∧ w.cell? ⟨b6, 1, none⟩ = some (.int .i64 o.b) ∧ w.cell? ⟨b6, 2, none⟩ = some (.int .i64 o.c) ∧ w.cell? ⟨b6, 3, none⟩ = some (.int .i64 o.d) ∧ w.cell? ⟨b6, 4, none⟩ = some (.int .i64 o.e) ∧ w.cell? ⟨b5, 3, none⟩ = some (.int .i64 count) ∧ w.cell? ⟨b5, 2, none⟩ = some (.int .i64 k)) (first | with_reducible exact s1 | with_reducible exact s2 | with_reducible exact s3)
    ((go_at_call 47; (with_reducible refine sO.out.mono ?_); rintro e w9 ⟨rfl, h9⟩; have s2 := um.out w9 h9; have s3 := um.out _ (h9.below ((Below.refl _ _).alloc (Nat.le_refl _) (.cells #[.int .i64 k, .int .i64 hh, .int .i64 rb, .int .i64 Ak, .pointer (some ⟨X.p.w, 0, none⟩), .int .i64 o.a, .int .i64 o.b, .int .i64 o.c, .int .i64 o.d, .int .i64 o.e, .bool once, .int .i64 count] 98)))))
  have ID : Wd X (os ++ ([AP b5 first nb k count, AI b6 26 [.int .i64 o.a, .int .i64 o.b, .int .i64 o.c, .int .i64 o.d, .int .i64 o.e], AP b8 0 0 0 0] ++ [AI w9.heap.size 98 (Bc X.p.w k hh rb Ak o once count)])) m (w9.alloc (.cells #[.int .i64 k, .int .i64 hh, .int .i64 rb, .int .i64 Ak, .pointer (some ⟨X.p.w, 0, none⟩), .int .i64 o.a, .int .i64 o.b, .int .i64 o.c, .int .i64 o.d, .int .i64 o.e, .bool once, .int .i64 count] 98)) := by
    have OT := h9.new ((Below.refl _ _).alloc (Nat.le_refl _) _) (g := w9.heap.size) (t := 98) (cs := Bc X.p.w k hh rb Ak o once count) (heap_alloc_new w9 (.cells #[.int .i64 k, .int .i64 hh, .int .i64 rb, .int .i64 Ak, .pointer (some ⟨X.p.w, 0, none⟩), .int .i64 o.a, .int .i64 o.b, .int .i64 o.c, .int .i64 o.d, .int .i64 o.e, .bool once, .int .i64 count] 98)) (Nat.le_refl _)
    rw [List.append_assoc] at OT; exact OT
  clear s1 s2 s3 h9 sO um
  generalize w9.alloc (.cells #[.int .i64 k, .int .i64 hh, .int .i64 rb, .int .i64 Ak, .pointer (some ⟨X.p.w, 0, none⟩), .int .i64 o.a, .int .i64 o.b, .int .i64 o.c, .int .i64 o.d, .int .i64 o.e, .bool once, .int .i64 count] 98) = Fl at *
  generalize w9.heap.size = sb at *
  obtain ⟨j5, j6, j8⟩ := Df.out _ _ _ ID
  have d0 : Fl.cell? ⟨b5, 0, none⟩ = some (.int .i64 first) := j5.cell 0
  have d1 : Fl.cell? ⟨b5, 1, none⟩ = some (.int .i64 nb) := j5.cell 1
  have d2 : Fl.cell? ⟨b5, 2, none⟩ = some (.int .i64 k) := j5.cell 2
  have d3 : Fl.cell? ⟨b5, 3, none⟩ = some (.int .i64 count) := j5.cell 3
  have sP := Lib.hid (HSS.out Fl sb ID)
  clear j5 j6 j8 ID HSS
  go_wp2_with fail
  refine sP.out.mono ?_
  rintro e Bn ⟨F, N, k', C, er, rfl, Du⟩
  clear d0 d1 d2 d3 sP
  have IB : Below Bn.heap.size Bn (Bn.alloc (.cells #[.int .i64 (F : Nat), .int .i64 (N : Nat), .int .i64 (k' : Nat), .int .i64 (C : Nat)] 39)) := (Below.refl _ _).alloc (Nat.le_refl _) _
  have hrl : Row (Bn.alloc (.cells #[.int .i64 (F : Nat), .int .i64 (N : Nat), .int .i64 (k' : Nat), .int .i64 (C : Nat)] 39)) Bn.heap.size 39 [.int .i64 (F : Nat), .int .i64 (N : Nat), .int .i64 (k' : Nat), .int .i64 (C : Nat)] := heap_alloc_new _ _
  rcases Du with ⟨rfl, hkk, l', m', j, uK, E5⟩ | ⟨⟨rfl, rfl, rfl, rfl⟩, NP, m', E5⟩
  · have hkk := hkk.symm
    subst hkk
    have K6 : Wd X (os ++ ([AP b5 first nb k count, AI b6 26 [.int .i64 o.a, .int .i64 o.b, .int .i64 o.c, .int .i64 o.d, .int .i64 o.e], AP b8 0 0 0 0] ++ [AI sb 98 (Bc X.p.w k hh rb Ak o once count)]) ++ [Cb F N k hh l' X.sz, AP Bn.heap.size F N k C]) m' (Bn.alloc (.cells #[.int .i64 (F : Nat), .int .i64 (N : Nat), .int .i64 (k : Nat), .int .i64 (C : Nat)] 39)) := by
      have OD := E5.new IB hrl (Nat.le_refl _)
      rw [List.append_assoc] at OD; exact OD
    have So := Lib.hid uK
    clear E5 IB hrl uK
    have Kf : Wd X (os ++ ([AP b5 first nb k count, AI b6 26 [.int .i64 o.a, .int .i64 o.b, .int .i64 o.c, .int .i64 o.d, .int .i64 o.e], AP b8 0 0 0 0] ++ ([AI sb 98 (Bc X.p.w k hh rb Ak o once count)] ++ [Cb F N k hh l' X.sz, AP Bn.heap.size F N k C]))) m' (Bn.alloc (.cells #[.int .i64 (F : Nat), .int .i64 (N : Nat), .int .i64 (k : Nat), .int .i64 (C : Nat)] 39)) := by
      rw [List.append_assoc, List.append_assoc] at K6; exact K6
    obtain ⟨j5, _, _⟩ := Df.out _ _ _ Kf
    have d0 : (Bn.alloc (.cells #[.int .i64 (F : Nat), .int .i64 (N : Nat), .int .i64 (k : Nat), .int .i64 (C : Nat)] 39)).cell? ⟨b5, 0, none⟩ = some (.int .i64 first) := j5.cell 0
    have d1 : (Bn.alloc (.cells #[.int .i64 (F : Nat), .int .i64 (N : Nat), .int .i64 (k : Nat), .int .i64 (C : Nat)] 39)).cell? ⟨b5, 1, none⟩ = some (.int .i64 nb) := j5.cell 1
    have d2 : (Bn.alloc (.cells #[.int .i64 (F : Nat), .int .i64 (N : Nat), .int .i64 (k : Nat), .int .i64 (C : Nat)] 39)).cell? ⟨b5, 2, none⟩ = some (.int .i64 k) := j5.cell 2
    have d3 : (Bn.alloc (.cells #[.int .i64 (F : Nat), .int .i64 (N : Nat), .int .i64 (k : Nat), .int .i64 (C : Nat)] 39)).cell? ⟨b5, 3, none⟩ = some (.int .i64 count) := j5.cell 3
    have cq : Hid (Calls Tryz.prog 49 #[.pointer (some ⟨X.p.w, 0, none⟩), .agg #[.int .i64 first, .int .i64 nb, .int .i64 k, .int .i64 count]] (Bn.alloc (.cells #[.int .i64 (F : Nat), .int .i64 (N : Nat), .int .i64 (k : Nat), .int .i64 (C : Nat)] 39)) fun e w' => e = .returned (.int .i64 0) ∧ Wd X (os.set i Bl ++ ([AP b5 first nb k count, AI b6 26 [.int .i64 o.a, .int .i64 o.b, .int .i64 o.c, .int .i64 o.d, .int .i64 o.e], AP b8 0 0 0 0] ++ [AI sb 98 (Bc X.p.w k hh rb Ak o once count)]) ++ [Cb F N k hh l' X.sz, AP Bn.heap.size F N k C]) m' w') := by
      refine (Uu K6 (Ae (Ae HI.out)) KJ XH count).mono ?_
      rintro e w' ⟨he, h16⟩
      rw [List.append_assoc, Dp HI.out, ← List.append_assoc] at h16
      exact ⟨he, h16⟩
    clear K6 Kf j5
    go_upto_region 10 with (fail)
    generalize Bn.alloc (.cells #[.int .i64 (F : Nat), .int .i64 (N : Nat), .int .i64 (k : Nat), .int .i64 (C : Nat)] 39) = X5 at *
    generalize Bn.heap.size = OE at *
    go_wp2_with fail
    refine cq.out.mono ?_
    rintro e w9 ⟨rfl, h9⟩
    clear d0 d1 d2 d3 cq
    have Kf : Wd X (os.set i Bl ++ ([AP b5 first nb k count, AI b6 26 [.int .i64 o.a, .int .i64 o.b, .int .i64 o.c, .int .i64 o.d, .int .i64 o.e], AP b8 0 0 0 0] ++ ([AI sb 98 (Bc X.p.w k hh rb Ak o once count)] ++ [Cb F N k hh l' X.sz, AP OE F N k C]))) m' w9 := by
      rw [List.append_assoc, List.append_assoc] at h9; exact h9
    have r8 : Row w9 b8 39 [.int .i64 0, .int .i64 0, .int .i64 0, .int .i64 0] := Kf.row (AL _ _ 2)
    have ZL : Row w9 OE 39 [.int .i64 (F : Nat), .int .i64 (N : Nat), .int .i64 (k : Nat), .int .i64 (C : Nat)] := Kf.row (AL _ _ 5)
    have x0 : w9.cell? ⟨OE, 0, none⟩ = some (.int .i64 F) := ZL.cell 0
    have x1 : w9.cell? ⟨OE, 1, none⟩ = some (.int .i64 N) := ZL.cell 1
    have x2 : w9.cell? ⟨OE, 2, none⟩ = some (.int .i64 k) := ZL.cell 2
    have x3 : w9.cell? ⟨OE, 3, none⟩ = some (.int .i64 C) := ZL.cell 3
    have y0 : w9.cell? ⟨b8, 0, none⟩ = some (.int .i64 0) := r8.cell 0
    have y1 : w9.cell? ⟨b8, 1, none⟩ = some (.int .i64 0) := r8.cell 1
    have y2 : w9.cell? ⟨b8, 2, none⟩ = some (.int .i64 0) := r8.cell 2
    have y3 : w9.cell? ⟨b8, 3, none⟩ = some (.int .i64 0) := r8.cell 3
    have f0 : w9.frozen? ⟨b8, 0, none⟩ = false := r8.free 0
    have f1 : w9.frozen? ⟨b8, 1, none⟩ = false := r8.free 1
    have f2 : w9.frozen? ⟨b8, 2, none⟩ = false := r8.free 2
    have f3 : w9.frozen? ⟨b8, 3, none⟩ = false := r8.free 3
    have Es := Fg.out OE sb F N k C 0 w9 _ (.inl ⟨rfl, rfl, l', m', j, So.out, h9⟩) rfl
    clear h9 Kf r8 ZL Fg So
    go_wp2
    generalize ((((w9.setCell ⟨b8, 0, none⟩ (.int .i64 (F : Nat))).setCell ⟨b8, 1, none⟩ (.int .i64 (N : Nat))).setCell ⟨b8, 2, none⟩ (.int .i64 (k : Nat))).setCell ⟨b8, 3, none⟩ (.int .i64 (C : Nat))) = Fl at *
    obtain ⟨⟨q0, q1, q2, q3⟩, HD⟩ := Es
    exact bodyPost_ret (v := .tuple #[.agg #[.int .i64 (F : Nat), .int .i64 (N : Nat), .int .i64 (k : Nat), .int .i64 (C : Nat)], .int .i64 0]) (by simp [results, Tryz.results20, go_sem, q0, q1, q2, q3]) rfl HD.out
  · have K6 : Wd X (os ++ ([AP b5 first nb k count, AI b6 26 [.int .i64 o.a, .int .i64 o.b, .int .i64 o.c, .int .i64 o.d, .int .i64 o.e], AP b8 0 0 0 0] ++ [AI sb 98 (Bc X.p.w k hh rb Ak o once count)]) ++ [AP Bn.heap.size 0 0 0 0]) m' (Bn.alloc (.cells #[.int .i64 0, .int .i64 0, .int .i64 0, .int .i64 0] 39)) := E5.new IB hrl (Nat.le_refl _)
    have HBD := Lib.hid NP
    have XL : er = 5 ∨ er = 6 := NP.elim (fun h => .inl h.1) fun h => .inr h.1
    have ne0 : (er == 0) = false := by rcases XL with rfl | rfl <;> rfl
    clear E5 IB hrl NP XL
    go_upto_region 11 with (fail)
    have Kf : Wd X (os ++ ([AP b5 first nb k count, AI b6 26 [.int .i64 o.a, .int .i64 o.b, .int .i64 o.c, .int .i64 o.d, .int .i64 o.e], AP b8 0 0 0 0] ++ ([AI sb 98 (Bc X.p.w k hh rb Ak o once count)] ++ [AP Bn.heap.size 0 0 0 0]))) m' (Bn.alloc (.cells #[.int .i64 0, .int .i64 0, .int .i64 0, .int .i64 0] 39)) := by
      rw [List.append_assoc, List.append_assoc] at K6; exact K6
    generalize Bn.alloc (.cells #[.int .i64 0, .int .i64 0, .int .i64 0, .int .i64 0] 39) = w9 at *
    generalize Bn.heap.size = OE at *
    have r8 : Row w9 b8 39 [.int .i64 0, .int .i64 0, .int .i64 0, .int .i64 0] := Kf.row (AL _ _ 2)
    have ZL : Row w9 OE 39 [.int .i64 0, .int .i64 0, .int .i64 0, .int .i64 0] := Kf.row (AL _ _ 4)
    have x0 : w9.cell? ⟨OE, 0, none⟩ = some (.int .i64 0) := ZL.cell 0
    have x1 : w9.cell? ⟨OE, 1, none⟩ = some (.int .i64 0) := ZL.cell 1
    have x2 : w9.cell? ⟨OE, 2, none⟩ = some (.int .i64 0) := ZL.cell 2
    have x3 : w9.cell? ⟨OE, 3, none⟩ = some (.int .i64 0) := ZL.cell 3
    have y0 : w9.cell? ⟨b8, 0, none⟩ = some (.int .i64 0) := r8.cell 0
    have y1 : w9.cell? ⟨b8, 1, none⟩ = some (.int .i64 0) := r8.cell 1
    have y2 : w9.cell? ⟨b8, 2, none⟩ = some (.int .i64 0) := r8.cell 2
    have y3 : w9.cell? ⟨b8, 3, none⟩ = some (.int .i64 0) := r8.cell 3
    have f0 : w9.frozen? ⟨b8, 0, none⟩ = false := r8.free 0
    have f1 : w9.frozen? ⟨b8, 1, none⟩ = false := r8.free 1
    have f2 : w9.frozen? ⟨b8, 2, none⟩ = false := r8.free 2
    have f3 : w9.frozen? ⟨b8, 3, none⟩ = false := r8.free 3
    have Es := Fg.out OE sb 0 0 0 0 er w9 _ (.inr ⟨⟨rfl, rfl, rfl, rfl⟩, HBD.out, m', K6⟩) rfl
    clear K6 Kf r8 ZL Fg HBD
    go_wp2
    generalize ((((w9.setCell ⟨b8, 0, none⟩ (.int .i64 ((0 : Nat) : Int))).setCell ⟨b8, 1, none⟩ (.int .i64 ((0 : Nat) : Int))).setCell ⟨b8, 2, none⟩ (.int .i64 ((0 : Nat) : Int))).setCell ⟨b8, 3, none⟩ (.int .i64 ((0 : Nat) : Int))) = Fl at *
    obtain ⟨⟨q0, q1, q2, q3⟩, HD⟩ := Es
    exact bodyPost_ret (v := .tuple #[.agg #[.int .i64 0, .int .i64 0, .int .i64 0, .int .i64 0], .int .i64 er]) (by simp [results, Tryz.results20, go_sem, q0, q1, q2, q3]) rfl HD.out
end
theorem QF(w:World):Calls Tryz.prog 41 #[.int .i64 (-1)] w fun e w'=>e=.returned (.agg #[.bool false,.int .i64 0])∧Below w.heap.size w w':=by
 go_enter Tryz.func41,Tryz.ntmps41
 go_wp2
 refine bodyPost_ret (v:=.agg #[.bool false,.int .i64 0]) (by simp[results,Tryz.results41,go_sem]) rfl ?_
 exact⟨rfl,(Below.refl _ w).alloc (Nat.le_refl _) _⟩
theorem Pv(p:Nat)(s:St)(n:Nat)(G:Nat→Prop)(w:World)(h:Gu w G p s n):
  Calls Tryz.prog 19 #[.pointer (some ⟨p,0,none⟩),.int .i64 (-1)] w fun e w'=>e=.returned (.tuple #[])∧Gu w' G p {s with tb:=false,tn:=0} n∧AK (fun k=>k=p) w w':=by
 obtain⟨bl,bf,v,nl,hr,_⟩:=id h.2
 have hfit:Fits {s with tb:=false,tn:=0} n:=⟨h.1.size,h.1.blocks,h.1.fn,⟨by show (0:Int)≤0;omega,by show (0:Int)≤1000000;omega⟩,h.1.Ab,h.1.small,h.1.Ah,h.1.fl⟩
 have hd:=Lib.hid h
 clear h
 have hb:=QF w
 go_enter Tryz.func19,Tryz.ntmps19
 go_wp2_with fail
 refine hb.mono ?_
 rintro e w1 ⟨rfl,Aj⟩
 have BS:=hr.below Aj hr.lt
 have IF:=Lib.hid (hd.out.below Aj)
 have c5:w1.cell? ⟨p,7,none⟩=some (.bool s.tb):=BS.cell 7
 have c6:w1.cell? ⟨p,8,none⟩=some (.int .i64 s.tn):=BS.cell 8
 have f5:=BS.free 7
 have f6:=BS.free 8
 have OH:=Lib.hid (AK.AJ Aj (fun k=>k=p))
 have Dr:=Lib.hid BS
 clear Aj BS hb
 go_wp2
 go_end0
 exact⟨rfl,IF.out.Jz Dr.out ((Dr.out.DK (s':={s with tb:=false}) 7 _ rfl).DK (s':={s with tb:=false,tn:=0}) 8 _ rfl) (Fy (Fy (AK.refl _ _) _ _) _ _) hfit (Nat.le_refl _) rfl rfl,Fy (Fy OH.out _ _) _ _⟩
section
variable {X : Cx} {os : List AU} {m i : Nat} {W W' w0 w w' : World} {G : Nat → Prop} {D D' : St} {A A' : Ar} {S S1 : Sp} {p : Wp} {t : Wt} {l : List AB}
theorem Fb.re{N C n m':Nat}{cm:Prop}(h:Fb X os m W G D A S)(hN:X.n+m=n+m')(hF:n≤N∧N+m'≤1000000)(hC:D.Ab≤((C+m':Nat):Int))(hc:cm→Calm D):Fb {X with N:=N,C:=C,cm:=cm,n:=n} os m' W G D A S:=
 {h with sys:=by rw[show ({X with N:=N,C:=C,cm:=cm,n:=n}:Cx).n+m'=X.n+m from hN.symm];exact h.sys,Ii:=hF,calm:=hc,Ab:=hC}
theorem Wd.vJ{N:Nat}(h:Wd X os m W)(h1:X.n≤N)(h2:N≤X.N):Wd {X with N:=N} os m W:=by
 obtain⟨G,D,A,S,hw⟩:=h
 exact⟨G,D,A,S,{hw with Ii:=⟨h1,by have:=hw.Ii;show N+m≤1000000;omega⟩}⟩
theorem Wd.base(h:Wd X os m W):∃D A S,Fh X.w0 X.p ⟨D,A,S⟩ (X.n+m) [] W:=by
 obtain⟨G,D,A,S,hw⟩:=h
 exact⟨D,A,S,G,hw.sys,hw.base,hw.Lg,fun r hr=>by cases hr⟩
theorem YT(h:Wd X os m W):Calls Tryz.prog 17 #[.pointer (some ⟨X.p.s,0,none⟩)] W fun e w'=>e=.returned (.int .i64 ((Ax X.S0.fr-Aa AU.xw os:Nat):Int))∧Wd X os m w':=by
 obtain⟨G,D,A,S,hw⟩:=id h
 obtain⟨Gs,hs,_⟩:=hw.sys.pR
 have Ky:=hw.sum
 refine(aa X.p.s S Gs W hs).mono fun e w' ⟨he,hb⟩=>⟨he.trans ?_,h.below hb⟩
 rw[show Ax S.fr=Ax X.S0.fr-Aa AU.xw os by omega]
theorem cz(h:Wd X os m W):Calls Tryz.prog 21 #[.pointer (some ⟨X.p.a,0,none⟩)] W fun e w'=>e=.returned (.int .i64 ((Aa AU.gw os:Nat):Int))∧w'=W:=by
 obtain⟨G,D,A,S,hw⟩:=h
 have:=hw.sys.YY
 rw[show ({D:=D,A:=A,S:=S}:Fs).A.used=Aa AU.gw os from hw.used]at this;exact this
theorem tU(h:Wd X os m W):Calls Tryz.prog 14 #[.pointer (some ⟨X.p.a,0,none⟩)] W fun e w'=>e=.returned (.int .i64 (X.rm:Int))∧w'=W:=by
 obtain⟨G,D,A,S,hw⟩:=h
 obtain⟨Gd,Ga,Gs,hr,hd,ha,_⟩:=hw.sys
 obtain⟨h0,⟨mm,hr,_⟩,_⟩:=id ha
 have:=Jl X.p.a A mm W hr
 rw[hw.room]at this;exact this
theorem tW(h:Wd X os m W):∃a:Nat,a≤X.C+m∧Wd {X with N:=X.N+m,C:=a,n:=X.n+m} os 0 W∧Calls Tryz.prog 26 #[.pointer (some ⟨X.p.d,0,none⟩)] W fun e w'=>e=.returned (.int .i64 (a:Int))∧w'=W:=by
 obtain⟨G,D,A,S,hw⟩:=h
 obtain⟨Gd,hd,_⟩:=hw.sys.dev
 have h0:=hd.1.Ab
 have h1:=hw.Ab
 obtain⟨bl,bf,v,nl,hr,_⟩:=hd.2
 refine⟨D.Ab.toNat,by omega,⟨G,D,A,S,hw.re rfl (by have:=hw.Ii;omega) (by omega) hw.calm⟩,?_⟩
 have rY:0≤D.Ab:=h0.1
 rw[Int.toNat_of_nonneg rY]
 exact bL X.p.d D bl bf v W hr
theorem Fb.flip {cm : Prop} (h : Fb X os m W G D A S) (hs : AQ W G X.p ⟨D', A, S⟩ (X.n + m) W') (hD : D'.size = D.size ∧ D'.blocks = D.blocks) (alive : D'.down = false ∧ D'.fb = false) (hc : cm → Calm D') (Ab : D'.Ab = D.Ab) (now : ∀ z : Nat, D'.now z = D.now z) : Wd { X with cm := cm } os m W' := by
  obtain ⟨G', k1, k2, k3⟩ := hs
  have hz := k2.size
  have hb0 := h.Lg.size
  exact ⟨G', D', A, S, {
    sys := k1
    Ii := h.Ii
    base := fun k hk => (k3 k hk).elim (h.base k) fun hl => by show X.w0.heap.size ≤ k; omega
    Lg := h.Lg.trans (k2.below hb0 h.base)
    size := hD.1.trans h.size
    blocks := hD.2.trans h.blocks
    alive := alive
    calm := hc
    Ab := by rw [Ab]; exact h.Ab
    room := h.room
    used := h.used
    ok := h.ok
    st := h.st
    mem := fun j b hb => ⟨(h.ok j b hb).okA W W' (h.mem j b hb).1 fun k hk => k2.block k ((h.mem j b hb).2 k hk).1 ((h.mem j b hb).2 k hk).2.2, fun k hk => by
      obtain ⟨h1, h2, h3⟩ := (h.mem j b hb).2 k hk
      exact ⟨by omega, h2, fun hg => (k3 k hg).elim h3 fun hl => by omega⟩⟩
    Nb := fun j b hb => (h.ok j b hb).okD D D' (h.Nb j b hb) hD.1 fun z _ => now z
    apart := h.apart
    exa := h.exa
    exs := h.exs
    s0 := h.s0
    sp := h.sp
    free := h.free
    sum := h.sum
    range := h.range }⟩
theorem pK(h:Wd X os m W)(n:Nat)(hn:n≤1000000):Calls Tryz.prog 19 #[.pointer (some ⟨X.p.d,0,none⟩),.int .i64 n] W fun e w'=>e=.returned (.tuple #[])∧Wd {X with cm:=False} os m w':=by
 obtain⟨G,D,A,S,hw⟩:=h
 obtain⟨Gd,hd,Ef⟩:=hw.sys.dev
 refine(Pw X.p.d D (X.n+m) Gd n W hd (by omega) (by omega)).mono ?_
 rintro e w' ⟨he,h1,h2⟩
 have hs:=Ef _ _ _ ⟨Gd,h1,h2.mono fun k hk=>by rw[hk];exact hd.I3,fun k hk=>.inl hk⟩
 exact⟨he,hw.flip hs ⟨rfl,rfl⟩ hw.alive (fun hf=>hf.elim) rfl fun _=>rfl⟩
theorem tV(h:Wd X os m W):Calls Tryz.prog 19 #[.pointer (some ⟨X.p.d,0,none⟩),.int .i64 (-1)] W fun e w'=>e=.returned (.tuple #[])∧Wd {X with cm:=True} os m w':=by
 obtain⟨G,D,A,S,hw⟩:=h
 obtain⟨Gd,hd,Ef⟩:=hw.sys.dev
 refine(Pv X.p.d D (X.n+m) Gd W hd).mono ?_
 rintro e w' ⟨he,h1,h2⟩
 have hs:=Ef _ _ _ ⟨Gd,h1,h2.mono fun k hk=>by rw[hk];exact hd.I3,fun k hk=>.inl hk⟩
 exact⟨he,hw.flip hs ⟨rfl,rfl⟩ hw.alive (fun _=>⟨hw.alive.1,hw.alive.2,rfl⟩) rfl fun _=>rfl⟩
theorem dF {sz rm b n : Nat} (hG : ∀ k, G k → w0.heap.size ≤ k) (hb : Below w0.heap.size w0 w) (KR : b ≤ 1000000)
    (hd : MS w G p ⟨fresh sz b, empty rm, BP 0 b⟩ n t S1 l w') (ht : Gq (BP 0 b) S1 t.first t.blocks) : Wd ⟨w0, p, BP 0 b, rm, sz, b, True, n + l.length + 1, t.blocks, n + l.length + 1⟩ [Cb t.first t.blocks t.k t.h l sz] 0 w' := by
  obtain ⟨hfit, D', hw, hst, G', k1, k2, k3⟩ := hd
  have OQ : (BP 0 b).ok := KD (by omega) KR
  have hz := hb.size
  have one : ∀ {j : Nat} {a : AU}, [Cb t.first t.blocks t.k t.h l sz][j]? = some a → j = 0 ∧ a = Cb t.first t.blocks t.k t.h l sz := fun {j a} h => by
    rcases j with _ | j
    · simp at h; exact ⟨rfl, h.symm⟩
    · simp at h
  have YB : ∀ z, hasB S1.fr z ↔ hasB (BP 0 b).fr z ∧ ¬ En (t.first, t.blocks) z := fun z => by
    rcases ht with ⟨h0, h1, rfl⟩ | ⟨h0, ht, _⟩
    · rw [h0]; exact ⟨fun h => ⟨h, AZ _ z⟩, fun h => h.1⟩
    · exact ht.has z
  have hex : ∀ z, En (t.first, t.blocks) z → hasB (BP 0 b).fr z := fun z hz => by
    rcases ht with ⟨h0, h1, rfl⟩ | ⟨h0, ht, _⟩
    · rw [h0] at hz; exact absurd hz (AZ _ z)
    · exact ht.room z hz.1 hz.2
  have Ky := Og ht
  have hsp : S1.first = (BP 0 b).first ∧ S1.blocks = (BP 0 b).blocks := by
    rcases ht with ⟨h0, h1, rfl⟩ | ⟨h0, ht, _⟩
    · exact ⟨rfl, rfl⟩
    · exact ⟨ht.first, ht.blocks⟩
  refine ⟨G', D', _, S1, {
    sys := k1
    Ii := ⟨Nat.le_refl _, k1.fits.small⟩
    base := fun k hk => (k3 k hk).elim (hG k) fun hl => by show w0.heap.size ≤ k; omega
    Lg := hb.trans (k2.below hz hG)
    size := hw.size
    blocks := hw.blocks
    alive := hw.alive ⟨rfl, rfl⟩
    calm := fun _ => hw.calm (Jf _ _)
    Ab := by rw [hw.Ab]; show (0 : Int) + _ ≤ _; show (0 : Int) + (t.blocks : Nat) ≤ ((t.blocks + 0 : Nat) : Int); omega
    room := Wx ⟨fresh sz b, empty rm, BP 0 b⟩ S1 t.b D'
    used := Ww ⟨fresh sz b, empty rm, BP 0 b⟩ S1 t.b D'
    ok := fun j a ha => by rw [(one ha).2]; exact Qd
    st := fun j a b' n' ha hg => by rw [(one ha).2] at hg; cases hg
    mem := fun j a ha => by rw [(one ha).2]; exact ⟨trivial, fun k hk => hk.elim⟩
    Nb := fun j a ha => by rw [(one ha).2]; exact fun _ => hst
    apart := fun j j2 a a2 ha KS hne => absurd ((one ha).1.trans (one KS).1.symm) hne
    exa := fun j j2 a a2 ha KS hne => absurd ((one ha).1.trans (one KS).1.symm) hne
    exs := fun j a ha => by rw [(one ha).2]; exact hex
    s0 := OQ
    sp := hsp
    free := fun z => ⟨fun h => ⟨((YB z).1 h).1, fun j a ha => by rw [(one ha).2]; exact ((YB z).1 h).2⟩, fun h => (YB z).2 ⟨h.1, h.2 0 _ rfl⟩⟩
    sum := Ky
    range := by show ((0 + b : Nat) : Int) ≤ b; omega }⟩
end
end Go.Proofs.YteldegofbbfaeaaGreat
