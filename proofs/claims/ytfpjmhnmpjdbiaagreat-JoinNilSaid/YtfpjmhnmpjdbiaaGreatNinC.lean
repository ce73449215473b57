/- What the laws stand on. -/
import Derived.Test.YtfpjmhnmpjdbiaaGreatNinB
namespace Go.Proofs.YtfpjmhnmpjdbiaaGreat
set_option linter.unusedVariables false
set_option maxRecDepth 100000
set_option maxHeartbeats 8000000
open Go.ChangeShapes Go.WideShapes Go.ChangeAt Go.RowKit
open Go.Joins Go.Deep
open Go.ChangeShapes Go.WideShapes Go.ChangeAt Go.RowKit Go.Maps
open Go.ChangeMaps (setBlock heap_setBlock_same heap_setBlock_other)
theorem now_len8{s:St}{n:Nat}(h:Fits s n)(x:Int):(s.now x).length=s.size:=by
 unfold St.now blk
 split
 ·next l hl=>exact lay_all (fun l=>l.length=s.size) s.later s.fl h.fl (fun e he=>(h.later e he).2) x l hl
 ·simp
theorem tag_u64{b:List Nat}(h:∀x∈b,x<18446744073709551616):tagW b<18446744073709551616:=by
 unfold tagW
 rw[List.getD_eq_getElem?_getD]
 rcases hx:b[b.length-2]?with _|x
 ·simp
 ·exact h x (List.mem_of_getElem? hx)
theorem splice_len0{α:Type}(ws l:List α)(h:l.length≤ws.length):(splice ws 0 l).length=ws.length:=by unfold splice;simp;omega
theorem set5{w:World}{g:Nat}{t:TypeId}{a b c d e:Value}(h:Row w g t [a,b,c,d,e])(v0 v1 v2 v3 v4:Value):Row (((((w.setCell ⟨g,0,none⟩ v0).setCell ⟨g,1,none⟩ v1).setCell ⟨g,2,none⟩ v2).setCell ⟨g,3,none⟩ v3).setCell ⟨g,4,none⟩ v4) g t [v0,v1,v2,v3,v4]:=
 ((((h.set 0 v0).set 1 v1).set 2 v2).set 3 v3).set 4 v4
theorem far5(w:World)(g:Nat)(v0 v1 v2 v3 v4:Value):Far (fun k=>k=g) w (((((w.setCell ⟨g,0,none⟩ v0).setCell ⟨g,1,none⟩ v1).setCell ⟨g,2,none⟩ v2).setCell ⟨g,3,none⟩ v3).setCell ⟨g,4,none⟩ v4):=
 (((((Far.refl (fun k=>k=g) w).set (p:=⟨g,0,none⟩) (.inl rfl) v0).set (p:=⟨g,1,none⟩) (.inl rfl) v1).set (p:=⟨g,2,none⟩) (.inl rfl) v2).set (p:=⟨g,3,none⟩) (.inl rfl) v3).set (p:=⟨g,4,none⟩) (.inl rfl) v4
theorem splice_mapf{α β:Type}(f:α→β)(ws l:List α)(off:Nat):splice (ws.map f) off (l.map f)=(splice ws off l).map f:=by unfold splice;simp[List.map_take,List.map_drop]
theorem splice_u64s{ws l:List Nat}(h:U64s ws)(hl:∀y∈l,y<18446744073709551616):U64s (splice ws 0 l):=by
 intro y hy
 unfold splice at hy
 rcases List.mem_append.1 hy with hy|hy
 ·exact h y (List.mem_of_mem_take hy)
 ·rcases List.mem_append.1 hy with hy|hy
  ·exact hl y hy
  ·exact h y (List.mem_of_mem_drop hy)
theorem sys_read{w:World}{G:Nat→Prop}{p:Wp}{F:Fs}{n:Nat}(h:Sys w G p F n)(hn:n<1000000)(i:Int)(hi:I64 i):
  Calls Tryz.prog 80 #[.pointer (some ⟨p.d,0,none⟩),.int .i64 i] w fun e w'=>∃v,e=.returned (.tuple #[v,.int .i64 (read F.D i).1])∧((read F.D i).1≠0→v=.slice none 0 0)∧
   ((read F.D i).1=0→∃A c,v=.slice A F.D.size c∧F.D.size≤c∧Reads .u64 w' w'.heap.size A F.D.size (F.D.now i))∧SysTo w G p {F with D:=(read F.D i).2} (n+1) w':=by
 obtain⟨Gd,hd,hback⟩:=h.dev
 have hnl:=now_len8 hd.fits i
 refine(read_any p.d F.D n Gd i w hd hn hi).mono ?_
 rintro e w' ⟨v,he,h1,h2,h3,h4⟩
 refine⟨v,he,h1,fun h0=>?_,hback _ _ _ ⟨Gd,h3,h4.mono fun k hk=>by rw[hk];exact hd.mine,fun k hk=>.inl hk⟩⟩
 have hw4:=h2 h0
 obtain⟨A,c,e1,_,e2⟩:=hw4.reads
 obtain⟨g',c',cs,e3,_,_,e4,_⟩:=id hw4
 rw[hnl]at e1 e2 e4 e3
 rw[e1]at e3
 injection e3 with e3 _ e5
 exact⟨A,c,e1,by omega,e2⟩
def Blk(w:World)(G:Nat→Prop)(p:Wp)(F:Fs)(n x:Nat)(r:Rt)(ws:List Nat)(w':World):Prop:=
 ∃G',Sys w' G' p F n∧RMem w' x p r F.D.size ws∧Far (fun k=>G k∨k=r.g) w w'∧∀k,G' k→G k∨w.heap.size≤k
theorem SysTo.blk{w w':World}{G:Nat→Prop}{p:Wp}{F F':Fs}{n' x:Nat}{r:Rt}{ws:List Nat}(h:SysTo w G p F' n' w')(hs:F'.D.size=F.D.size)(hm:RMem w x p r F.D.size ws)(ho:ROut G x r):Blk w G p F' n' x r ws w':=by
 obtain⟨G',h1,h2,h3⟩:=h
 refine⟨G',h1,?_,h2.mono fun k hk=>.inl hk,h3⟩
 rw[hs];exact hm.far h2 ho.x ho.b ho.g
theorem SysTo.blk_set{w w1 w':World}{G:Nat→Prop}{p:Wp}{F F':Fs}{n' x:Nat}{r:Rt}{ws ws':List Nat}(h:SysTo w G p F' n' w1)(hs:F'.D.size=F.D.size)(hm:RMem w x p r F.D.size ws)(ho:ROut G x r)
  (hf:Far (fun k=>k=r.g) w1 w') (hr:Row w' r.g 133 (ws'.map vw)) (hl:ws'.length=F.D.size) (hu:U64s ws'):Blk w G p F' n' x r ws' w':=by
 obtain⟨hx,hb,hg⟩:=hm.lt
 obtain⟨a1,a2,a3⟩:=hm.apart
 obtain⟨G',h1,h2,h3,h4⟩:=h.apart
 have hm1:=hm.far h2 ho.x ho.b ho.g
 have hng:¬G' r.g:=h4 _ hg ho.g
 refine⟨G',h1.far hf (fun k hk e=>hng (e▸hk)) fun q hq e=>?_,?_,(h2.mono fun k hk=>.inl hk).trans hf (fun b hb=>.inl (.inr hb)),h3⟩
 ·have:=(h1.buf hq).1
  obtain⟨v,hv⟩:=this
  exact absurd ((e▸hv:Row w1 r.g 132 _).typed hm1.words) (by decide)
 ·rw[hs]
  exact⟨hf.row hm1.row a2,hf.row hm1.buf a3,hr,hl,hu⟩
theorem rblk_err{w:World}{G:Nat→Prop}{p:Wp}{F:Fs}{n x:Nat}{r:Rt}{ws:List Nat}(h:Sys w G p F n)(hn:n<1000000)(hok:RtOk r F.D.size)(hm:RMem w x p r F.D.size ws)(ho:ROut G x r)(hpos:r.pos<r.count)
  (he:(read F.D ((r.first+r.pos/r.h:Nat):Int)).1≠0):
  Calls Tryz.prog 65 #[.pointer (some ⟨x,0,none⟩)] w fun e w'=>e=.returned (.int .i64 (read F.D ((r.first+r.pos/r.h:Nat):Int)).1)∧Blk w G p {F with D:=(read F.D ((r.first+r.pos/r.h:Nat):Int)).2} (n+1) x r ws w':=by
 obtain⟨hx,hbw,hgw⟩:=hm.lt
 have hsz:=hok.sz
 have hk:=hok.k
 have hh:=hok.h
 have hct:=hok.count
 have hfi:=hok.first
 have hnl:=now_len8 h.fits ((r.first+r.pos/r.h:Nat):Int)
 have hmm0:=Nat.le_trans (Nat.mul_le_mul_right r.k (Nat.min_le_left r.h (r.count-r.pos/r.h*r.h))) hh.2.1
 have hsr:(read F.D ((r.first+r.pos/r.h:Nat):Int)).2.size=F.D.size:=(now_read F.D ((r.first+r.pos/r.h:Nat):Int) 0).2.1
 have HP0:Hid (∀W,SysTo w G p {F with D:=(read F.D ((r.first+r.pos/r.h:Nat):Int)).2} (n+1) W→Blk w G p {F with D:=(read F.D ((r.first+r.pos/r.h:Nat):Int)).2} (n+1) x r ws W):=fun W h1=>h1.blk hsr hm ho
 have HP1:Hid (∀W1 W ws',SysTo w G p {F with D:=(read F.D ((r.first+r.pos/r.h:Nat):Int)).2} (n+1) W1→Far (fun k=>k=r.g) W1 W→Row W r.g 133 (ws'.map vw)→ws'.length=F.D.size→U64s ws'→Blk w G p {F with D:=(read F.D ((r.first+r.pos/r.h:Nat):Int)).2} (n+1) x r ws' W):=fun W1 W ws' h1 h2 h3 h4 h5=>h1.blk_set hsr hm ho h2 h3 h4 h5
 have hjq:r.pos/r.h≤r.pos:=Nat.div_le_self _ _
 have hjh:r.pos/r.h*r.h≤r.count:=Nat.le_trans (Nat.div_mul_le_self _ _) (by omega)
 have HW:Hid (∀W,Calls Tryz.prog 82 #[.agg #[.int .i64 r.k,.int .i64 r.h],.int .i64 (r.pos/r.h:Nat),.int .i64 r.count] W fun e w'=>e=.returned (.int .i64 (min r.h (r.count-r.pos/r.h*r.h)*r.k:Nat))∧Below W.heap.size W w'):=fun W=>wrds_any r.k r.h (r.pos/r.h) r.count W hk.2 hh.2.2 hct.1 hjh
 have hi64:I64 ((r.first+r.pos/r.h:Nat):Int):=by
  have hb:r.first+r.pos/r.h≤200000000:=by omega
  generalize r.first+r.pos/r.h=z at hb
  exact I64.of (by omega) (by omega)
 have hq:Int.tdiv (r.pos:Int) (r.h:Int)=((r.pos/r.h:Nat):Int):=rfl
 have hadl:r.first+r.pos/r.h≤200000000:=by clear hq;omega
 have had:(r.first:Int)+((r.pos/r.h:Nat):Int)=((r.first+r.pos/r.h:Nat):Int):=by clear hq;omega
 have HRD:Hid (∀W,Below w.heap.size w W→Calls Tryz.prog 80 #[.pointer (some ⟨p.d,0,none⟩),.int .i64 (r.first+r.pos/r.h:Nat)] W fun e w'=>∃v,e=.returned (.tuple #[v,.int .i64 (read F.D ((r.first+r.pos/r.h:Nat):Int)).1])∧((read F.D ((r.first+r.pos/r.h:Nat):Int)).1≠0→v=.slice none 0 0)∧
   ((read F.D ((r.first+r.pos/r.h:Nat):Int)).1=0→∃A c,v=.slice A F.D.size c∧F.D.size≤c∧Reads .u64 w' w'.heap.size A F.D.size (F.D.now ((r.first+r.pos/r.h:Nat):Int)))∧SysTo w G p {F with D:=(read F.D ((r.first+r.pos/r.h:Nat):Int)).2} (n+1) w'):=fun W hb=>
  (sys_read (h.below hb) hn _ hi64).mono fun e w' ⟨v,h1,h2,h3,h4⟩=>⟨v,h1,h2,h3,h4.behind hb⟩
 have HNR:Hid (∀W,SysTo w G p {F with D:=(read F.D ((r.first+r.pos/r.h:Nat):Int)).2} (n+1) W→Row W x 126 (rdC p r)∧Row W r.b 132 [.slice (some ⟨r.g,0,none⟩) F.D.size F.D.size]∧Row W r.g 133 (ws.map vw)):=fun W h1=>⟨h1.row hm.row ho.x,h1.row hm.buf ho.b,h1.row hm.words ho.g⟩
 have HWL:Hid (ws.length=F.D.size∧U64s ws):=⟨hm.len,hm.u64⟩
 have r0:=hm.row.below (below_drew (Below.refl _ _)) hx
 have r1:=(h.below (below_drew (Below.refl _ _))).row
 have c3:w.cell? ⟨x,7,none⟩=some (.int .i64 r.pos):=hm.row.cell 7
 have c1:w.cell? ⟨x,1,none⟩=some (.int .i64 r.h):=hm.row.cell 1
 have d2:w.drew.cell? ⟨x,3,none⟩=some (.int .i64 r.first):=r0.cell 3
 have d5:w.drew.cell? ⟨x,2,none⟩=some (.pointer (some ⟨p.w,0,none⟩)):=r0.cell 2
 have d6:w.drew.cell? ⟨p.w,0,none⟩=some (.pointer (some ⟨p.d,0,none⟩)):=r1.cell 0
 have hh0:¬((r.h:Int)=0):=by omega
 have HB1:Hid (Below w.heap.size w w.drew):=below_drew (Below.refl _ _)
 clear r0 r1 hm ho hok h hsr hx hbw hgw
 generalize({F with D:=(read F.D ((r.first+r.pos/r.h:Nat):Int)).2}:Fs)=F1 at*
 generalize(read F.D ((r.first+r.pos/r.h:Nat):Int)).1=er at*
 generalize min r.h (r.count-r.pos/r.h*r.h)*r.k=m at*
 obtain⟨k,hh2,first,blocks,count,pos,b,g⟩:=r
 unfold rdC at*
 simp only at*
 generalize pos/hh2=j at*
 generalize first+j=ad at*
 generalize F.D.now (ad:Int)=bl at*
 generalize F.D.size=size at*
 generalize Blk w G p F1 (n+1) x ⟨k,hh2,first,blocks,count,pos,b,g⟩=POST at*
 have g9:(er !=0)=true:=by simpa using he
 clear HP1 HNR HWL HW
 go_enter Tryz.func65,Tryz.ntmps65
 go_wp2
 go_region
 go_wp2_with fail
 refine(HRD.out _ HB1.out).mono ?_;rintro e w4 ⟨v,rfl,hv,_,h4⟩
 have H4:=Lib.hid (HP0.out w4 h4)
 clear h4 HP0 HRD hv
 go_wp2
 go_ret
 exact⟨rfl,H4.out⟩
theorem rblk_good{w:World}{G:Nat→Prop}{p:Wp}{F:Fs}{n x:Nat}{r:Rt}{ws:List Nat}(h:Sys w G p F n)(hn:n<1000000)(hok:RtOk r F.D.size)(hm:RMem w x p r F.D.size ws)(ho:ROut G x r)(hpos:r.pos<r.count)
  (he:(read F.D ((r.first+r.pos/r.h:Nat):Int)).1=0) (hk0:okW (F.D.now ((r.first+r.pos/r.h:Nat):Int)) (r.first+r.pos/r.h)=true) (htg:tagW (F.D.now ((r.first+r.pos/r.h:Nat):Int))=r.k) (hnm:numW (F.D.now ((r.first+r.pos/r.h:Nat):Int))-1=min r.h (r.count-r.pos/r.h*r.h)*r.k):
  Calls Tryz.prog 65 #[.pointer (some ⟨x,0,none⟩)] w fun e w'=>e=.returned (.int .i64 0)∧Blk w G p {F with D:=(read F.D ((r.first+r.pos/r.h:Nat):Int)).2} (n+1) x r (splice ws 0 ((F.D.now ((r.first+r.pos/r.h:Nat):Int)).take (min r.h (r.count-r.pos/r.h*r.h)*r.k))) w':=by
 obtain⟨hx,hbw,hgw⟩:=hm.lt
 have hsz:=hok.sz
 have hk:=hok.k
 have hh:=hok.h
 have hct:=hok.count
 have hfi:=hok.first
 have hnl:=now_len8 h.fits ((r.first+r.pos/r.h:Nat):Int)
 have hmm0:=Nat.le_trans (Nat.mul_le_mul_right r.k (Nat.min_le_left r.h (r.count-r.pos/r.h*r.h))) hh.2.1
 have hsr:(read F.D ((r.first+r.pos/r.h:Nat):Int)).2.size=F.D.size:=(now_read F.D ((r.first+r.pos/r.h:Nat):Int) 0).2.1
 have HP0:Hid (∀W,SysTo w G p {F with D:=(read F.D ((r.first+r.pos/r.h:Nat):Int)).2} (n+1) W→Blk w G p {F with D:=(read F.D ((r.first+r.pos/r.h:Nat):Int)).2} (n+1) x r ws W):=fun W h1=>h1.blk hsr hm ho
 have HP1:Hid (∀W1 W ws',SysTo w G p {F with D:=(read F.D ((r.first+r.pos/r.h:Nat):Int)).2} (n+1) W1→Far (fun k=>k=r.g) W1 W→Row W r.g 133 (ws'.map vw)→ws'.length=F.D.size→U64s ws'→Blk w G p {F with D:=(read F.D ((r.first+r.pos/r.h:Nat):Int)).2} (n+1) x r ws' W):=fun W1 W ws' h1 h2 h3 h4 h5=>h1.blk_set hsr hm ho h2 h3 h4 h5
 have hjq:r.pos/r.h≤r.pos:=Nat.div_le_self _ _
 have hjh:r.pos/r.h*r.h≤r.count:=Nat.le_trans (Nat.div_mul_le_self _ _) (by omega)
 have HW:Hid (∀W,Calls Tryz.prog 82 #[.agg #[.int .i64 r.k,.int .i64 r.h],.int .i64 (r.pos/r.h:Nat),.int .i64 r.count] W fun e w'=>e=.returned (.int .i64 (min r.h (r.count-r.pos/r.h*r.h)*r.k:Nat))∧Below W.heap.size W w'):=fun W=>wrds_any r.k r.h (r.pos/r.h) r.count W hk.2 hh.2.2 hct.1 hjh
 have hi64:I64 ((r.first+r.pos/r.h:Nat):Int):=by
  have hb:r.first+r.pos/r.h≤200000000:=by omega
  generalize r.first+r.pos/r.h=z at hb
  exact I64.of (by omega) (by omega)
 have hq:Int.tdiv (r.pos:Int) (r.h:Int)=((r.pos/r.h:Nat):Int):=rfl
 have hadl:r.first+r.pos/r.h≤200000000:=by clear hq;omega
 have had:(r.first:Int)+((r.pos/r.h:Nat):Int)=((r.first+r.pos/r.h:Nat):Int):=by clear hq;omega
 have HRD:Hid (∀W,Below w.heap.size w W→Calls Tryz.prog 80 #[.pointer (some ⟨p.d,0,none⟩),.int .i64 (r.first+r.pos/r.h:Nat)] W fun e w'=>∃v,e=.returned (.tuple #[v,.int .i64 (read F.D ((r.first+r.pos/r.h:Nat):Int)).1])∧((read F.D ((r.first+r.pos/r.h:Nat):Int)).1≠0→v=.slice none 0 0)∧
   ((read F.D ((r.first+r.pos/r.h:Nat):Int)).1=0→∃A c,v=.slice A F.D.size c∧F.D.size≤c∧Reads .u64 w' w'.heap.size A F.D.size (F.D.now ((r.first+r.pos/r.h:Nat):Int)))∧SysTo w G p {F with D:=(read F.D ((r.first+r.pos/r.h:Nat):Int)).2} (n+1) w'):=fun W hb=>
  (sys_read (h.below hb) hn _ hi64).mono fun e w' ⟨v,h1,h2,h3,h4⟩=>⟨v,h1,h2,h3,h4.behind hb⟩
 have HNR:Hid (∀W,SysTo w G p {F with D:=(read F.D ((r.first+r.pos/r.h:Nat):Int)).2} (n+1) W→Row W x 126 (rdC p r)∧Row W r.b 132 [.slice (some ⟨r.g,0,none⟩) F.D.size F.D.size]∧Row W r.g 133 (ws.map vw)):=fun W h1=>⟨h1.row hm.row ho.x,h1.row hm.buf ho.b,h1.row hm.words ho.g⟩
 have HWL:Hid (ws.length=F.D.size∧U64s ws):=⟨hm.len,hm.u64⟩
 have r0:=hm.row.below (below_drew (Below.refl _ _)) hx
 have r1:=(h.below (below_drew (Below.refl _ _))).row
 have c3:w.cell? ⟨x,7,none⟩=some (.int .i64 r.pos):=hm.row.cell 7
 have c1:w.cell? ⟨x,1,none⟩=some (.int .i64 r.h):=hm.row.cell 1
 have d2:w.drew.cell? ⟨x,3,none⟩=some (.int .i64 r.first):=r0.cell 3
 have d5:w.drew.cell? ⟨x,2,none⟩=some (.pointer (some ⟨p.w,0,none⟩)):=r0.cell 2
 have d6:w.drew.cell? ⟨p.w,0,none⟩=some (.pointer (some ⟨p.d,0,none⟩)):=r1.cell 0
 have hh0:¬((r.h:Int)=0):=by omega
 have HB1:Hid (Below w.heap.size w w.drew):=below_drew (Below.refl _ _)
 clear r0 r1 hm ho hok h hsr hx hbw hgw
 generalize({F with D:=(read F.D ((r.first+r.pos/r.h:Nat):Int)).2}:Fs)=F1 at*
 generalize(read F.D ((r.first+r.pos/r.h:Nat):Int)).1=er at*
 generalize min r.h (r.count-r.pos/r.h*r.h)*r.k=m at*
 obtain⟨k,hh2,first,blocks,count,pos,b,g⟩:=r
 unfold rdC at*
 simp only at*
 generalize pos/hh2=j at*
 generalize first+j=ad at*
 generalize F.D.now (ad:Int)=bl at*
 generalize F.D.size=size at*
 generalize Blk w G p F1 (n+1) x ⟨k,hh2,first,blocks,count,pos,b,g⟩=POST at*
 subst he
 have hwk:IntKind.u64.wrap (k:Int)=(k:Int):=IntWalk.u64_in _ ⟨by omega,by omega⟩
 go_enter Tryz.func65,Tryz.ntmps65
 go_wp2
 go_region
 go_wp2_with fail
 refine(HRD.out _ HB1.out).mono ?_;rintro e w4 ⟨v,rfl,_,hv,h4⟩
 obtain⟨A,c,rfl,hsc,hra⟩:=hv (by trivial)
 have hbu:∀y∈bl,y<18446744073709551616:=fun y hy=>u64_lt (hra.2.1 y hy)
 have HBU:=Lib.hid hbu
 have HTL:Hid (tagW bl<18446744073709551616):=tag_u64 hbu
 have HG:=Lib.hid (get_may A size c ad bl w4 hra (Nat.le_refl _) hsc hsz.1 hsz.2 (by omega))
 have H4:=Lib.hid h4
 obtain⟨n0,n1,n2⟩:=HNR.out w4 h4
 have N0:=Lib.hid n0
 have N1:=Lib.hid n1
 have N2:=Lib.hid n2
 have HP2:Hid (∀W,Below w4.heap.size w4 W→POST ws W):=fun W hb=>HP0.out W (h4.ahead hb)
 clear h4 HP0 HRD hv hra n0 n1 n2 HNR hbu
 generalize tagW bl=tg at*
 go_wp2_with fail
 refine HG.out.mono ?_
 rintro e w5 (⟨hok2,_⟩|⟨_,v5,rfl,hown,hb⟩)
 ·exact absurd (hok2.symm.trans hk0) (by decide)
 have HTL2:=HTL.out
 have HB5:=Lib.hid hb
 have M0:=Lib.hid (N0.out.below hb N0.out.lt)
 have M1:=Lib.hid (N1.out.below hb N1.out.lt)
 have M2:=Lib.hid (N2.out.below hb N2.out.lt)
 clear hb N0 N1 N2 HG
 have k0:∀d os,(Sort.grow (redrawn w5 d) os).cell? ⟨x,0,none⟩=some (.int .i64 k):=cell_regrown (M0.out.cell 0)
 have k1:∀d os,(Sort.grow (redrawn w5 d) os).cell? ⟨x,1,none⟩=some (.int .i64 hh2):=cell_regrown (M0.out.cell 1)
 have k6:∀d os,(Sort.grow (redrawn w5 d) os).cell? ⟨x,6,none⟩=some (.int .i64 count):=cell_regrown (M0.out.cell 6)
 have Q1:Hid (∀d os,Calls Tryz.prog 82 #[.agg #[.int .i64 k,.int .i64 hh2],.int .i64 j,.int .i64 count] (Sort.grow (redrawn w5 d) os) fun e w''=>e=.returned (.int .i64 (m:Nat))∧∃p:Regrown,w''=Sort.grow (redrawn w5 p.d) p.os):=fun d os=>Calls.regrown_of (HW.out _)
 obtain rfl:tg=k:=htg
 have hne:((tg:Int) !=(tg:Int))=false:=by simp
 rw[hnm]at hown
 have HTK:Hid ((bl.take m).length=m):=by
  unfold Hid;rw[List.length_take];omega
 obtain⟨A5,c5,rfl,hrd5,hl5⟩:=own_reads (k:=.u64) (l:=bl.take m) hown (fun x hx=>u64_wf (HBU.out x (List.mem_of_mem_take hx)))
 have g9:((m:Int) !=(m:Int))=false:=by simp
 have HRD5:=Lib.hid hrd5
 clear hown hl5 hrd5
 go_wp2
 refine wp_region_quiet_below (by kernel_rfl) (by kernel_rfl) ?_
 repeat(any_goals(first|go_big_quiet_step (with_reducible exact Q1.out _ _)|quiet_step (with_reducible exact Q1.out _ _)))
 refine wpQuiet_nil ?_
 intro w6 hw6
 obtain⟨⟨dq,osq⟩,hw6⟩:=hw6
 have hb6:=below_regrown w5 dq osq
 rw[←hw6]at hb6
 clear hw6 Q1 k0 k1 k6
 have HR5:=Lib.hid ((HRD5.out.keep hb6))
 have O0:=Lib.hid (M0.out.below hb6 M0.out.lt)
 have O1:=Lib.hid (M1.out.below hb6 M1.out.lt)
 have O2:=Lib.hid (M2.out.below hb6 M2.out.lt)
 have H6:=Lib.hid (H4.out.ahead (HB5.out.trans (hb6.mono HB5.out.size)))
 clear HP2 hb6 HB5 M0 M1 M2 HW H4 HRD5
 have e8:w6.cell? ⟨x,8,none⟩=some (.pointer (some ⟨b,0,none⟩)):=O0.out.cell 8
 have e0:w6.cell? ⟨b,0,none⟩=some (.slice (some ⟨g,0,none⟩) size size):=O1.out.cell 0
 go_wp2_with (with_reducible refine stopAt 83 ?_)
 unfold Hid
 refine wpList_copy_rows rfl _ _ 129 129 rfl 133 Tryz.underlying129 sizeW (by decide) (some ⟨g,0,none⟩) A5 size size m c5 rfl rfl g 0 _ 133 O2.out ((bl.take m).map vw) (by rw[List.length_map,HTK.out,Nat.mul_one];exact(Nat.min_eq_left (by omega)).symm) (fun h0=>⟨rfl,HR5.out.source (by have:=HTK.out;rw[List.length_map]at h0;omega)⟩) (by rw[List.length_map,List.length_map,HTK.out,HWL.out.1];omega) (fun v hv=>by obtain⟨x,_,rfl⟩:=List.mem_map.1 hv;rfl) ?_
 intro w7 hr7 hf7
 have HR7:Hid (Row w7 g 133 ((splice ws 0 (bl.take m)).map vw)):=by
  have h:=hr7.out
  rw[splice_mapf]at h;exact h
 have H7:=Lib.hid (HP1.out w6 w7 _ H6.out hf7.out HR7.out (by rw[splice_len0 _ _ (by rw[HTK.out,HWL.out.1];omega)];exact HWL.out.1) (splice_u64s HWL.out.2 fun y hy=>HBU.out y (List.mem_of_mem_take hy)))
 clear HP1 H6 hr7 hf7 HR7 HR5 O0 O1 O2
 go_wp2
 go_ret
 exact⟨rfl,H7.out⟩
def NextTo(w:World)(G:Nat→Prop)(p:Wp)(F:Fs)(n x:Nat)(r:Rt)(ws:List Nat)(w':World):Prop:=
 ∃G',Sys w' G' p F n∧RMem w' x p r F.D.size ws∧Far (fun k=>G k∨k=r.g∨k=x) w w'∧∀k,G' k→G k∨w.heap.size≤k
def tupAt(r:Rt)(ws:List Nat):Tup:=tupOf r.k ((ws.drop (r.pos%r.h*r.k)).take r.k)
def colC(k:Nat)(l:List Nat)(i c:Nat):Value:=.int .i64 (if c<i∧c<k then IntKind.i64.wrap ((l.getD c 0:Nat):Int)else 0)
def colsC(k:Nat)(l:List Nat)(i:Nat):List Value:=[colC k l i 0,colC k l i 1,colC k l i 2,colC k l i 3,colC k l i 4]
theorem colsC_zero(k:Nat)(l:List Nat):colsC k l 0=[.int .i64 0,.int .i64 0,.int .i64 0,.int .i64 0,.int .i64 0]:=by simp[colsC,colC]
theorem colsC_set{k:Nat}(hk:k≤5)(l:List Nat){i:Nat}(hi:i<k):(colsC k l i).set i (.int .i64 (IntKind.i64.wrap ((l.getD i 0:Nat):Int)))=colsC k l (i+1):=by
 match i,hi with
 |0,hi=>simp[colsC,colC,hi]
 |1,hi=>simp[colsC,colC,hi]
 |2,hi=>simp[colsC,colC,hi]
 |3,hi=>simp[colsC,colC,hi]
 |4,hi=>simp[colsC,colC,hi]
 |i+5,hi=>omega
theorem colsC_all{k:Nat}(_hk:k≤5)(l:List Nat):colsC k l k=[.int .i64 (tupOf k l).a,.int .i64 (tupOf k l).b,.int .i64 (tupOf k l).c,.int .i64 (tupOf k l).d,.int .i64 (tupOf k l).e]:=by
 simp[colsC,colC,tupOf]
theorem fnext_mid{w:World}{G:Nat→Prop}{p:Wp}{F:Fs}{n x:Nat}{r:Rt}{ws:List Nat}(h:Sys w G p F n)(hok:RtOk r F.D.size)(hm:RMem w x p r F.D.size ws)(ho:ROut G x r)(hpos:r.pos<r.count)
  (hmid:r.pos%r.h≠0):
  Calls Tryz.prog 41 #[.pointer (some ⟨x,0,none⟩)] w fun e w'=>e=.returned (.tuple #[.agg #[.int .i64 (tupAt r ws).a,.int .i64 (tupAt r ws).b,.int .i64 (tupAt r ws).c,.int .i64 (tupAt r ws).d,.int .i64 (tupAt r ws).e],.bool true,.int .i64 0])∧NextTo w G p F n x {r with pos:=r.pos+1} ws w':=by
 obtain⟨hx,hbw,hgw⟩:=hm.lt
 obtain⟨a1,a2,a3⟩:=hm.apart
 have hsz:=hok.sz
 have hk:=hok.k
 have hh:=hok.h
 have hct:=hok.count
 have hmod:=Nat.mod_lt r.pos hh.1
 have hqk:r.pos%r.h*r.k+r.k≤F.D.size-2:=by
  have h1:(r.pos%r.h+1)*r.k≤r.h*r.k:=Nat.mul_le_mul_right _ hmod
  rw[Nat.add_mul,Nat.one_mul]at h1
  exact Nat.le_trans h1 hh.2.1
 obtain⟨w0,hw0⟩:∃w0,w0=w.alloc (.cells #[.int .i64 0,.int .i64 0,.int .i64 0,.int .i64 0,.int .i64 0] 56):=⟨_,rfl⟩
 have hb0:Below w.heap.size w w0:=by rw[hw0];exact(Below.refl w.heap.size w).alloc (Nat.le_refl _) _
 have hr0:Row w0 w.heap.size 56 [.int .i64 0,.int .i64 0,.int .i64 0,.int .i64 0,.int .i64 0]:=by rw[hw0];exact heap_alloc_new _ _
 have hm0:=hm.below hb0
 have hcl:=rclosed_any hm0.row hm0.buf
 rw[decide_eq_true (show 0<F.D.size by omega)]at hcl
 have HCL:Hid (Calls Tryz.prog 63 #[.pointer (some ⟨x,0,none⟩)] (w.alloc (.cells #[.int .i64 0,.int .i64 0,.int .i64 0,.int .i64 0,.int .i64 0] 56)) fun e w'=>e=.returned (.bool (!true))∧w'=w.alloc (.cells #[.int .i64 0,.int .i64 0,.int .i64 0,.int .i64 0,.int .i64 0] 56)):=by rw[hw0]at hcl;exact hcl
 have HR00:=Lib.hid hr0
 have HNG0:Hid (¬G w.heap.size):=fun hg=>by have:=h.lt hg;omega
 have HEND:Hid (∀W4 W9,Blk w0 G p F n x r ws W4→Far (fun k=>k=x∨k=w.heap.size) W4 W9→Row W9 x 126 (rdC p {r with pos:=r.pos+1})→NextTo w G p F n x {r with pos:=r.pos+1} ws W9):=by
  intro W4 W9 ⟨G4,k1,k2,k3,k4⟩ hf hr
  have hxG:¬G4 x:=fun hg=>(k4 x hg).elim ho.x fun h=>by have:=hb0.size;omega
  have hRG:¬G4 w.heap.size:=fun hg=>(k4 _ hg).elim HNG0.out fun h=>by have:=hr0.lt;omega
  have hR4:Row W4 w.heap.size 56 [.int .i64 0,.int .i64 0,.int .i64 0,.int .i64 0,.int .i64 0]:=k3.row hr0 (by
   rintro(hg|hg)
   ·exact HNG0.out hg
   ·omega)
  refine⟨G4,k1.touch hf ?_,⟨hr,hf.row k2.buf ?_,hf.row k2.words ?_,k2.len,k2.u64⟩,?_,fun k hk=>(k4 k hk).imp_right fun h=>Nat.le_trans hb0.size h⟩
  ·rintro k (rfl|rfl)
   ·exact⟨hxG,fun v hv=>absurd (hv.typed k2.row) (by decide)⟩
   ·exact⟨hRG,fun v hv=>absurd (hv.typed hR4) (by decide)⟩
  ·rintro(e|e)
   ·exact a1 e.symm
   ·exact absurd e (Nat.ne_of_lt hbw)
  ·rintro(e|e)
   ·exact a2 e.symm
   ·exact absurd e (Nat.ne_of_lt hgw)
  ·refine(((Far.of_below hb0 _).trans k3 fun b hb=>hb.elim (fun h=>.inl (.inl h)) fun h=>.inl (.inr (.inl h)))).trans hf ?_
   rintro b (rfl|rfl)
   ·exact .inl (.inr (.inr rfl))
   ·exact .inr (Nat.le_refl _)
 have H0:Hid (Row (w.alloc (.cells #[.int .i64 0,.int .i64 0,.int .i64 0,.int .i64 0,.int .i64 0] 56)) x 126 (rdC p r)):=by rw[←hw0];exact hm0.row
 have hqm:Int.tmod (r.pos:Int) (r.h:Int)=((r.pos%r.h:Nat):Int):=rfl
 have hh0:¬((r.h:Int)=0):=by omega
 have g3:((r.pos:Int)==(r.count:Int))=false:=by simp;omega
 have hp1:(r.pos:Int)+1=((r.pos+1:Nat):Int):=by omega
 have c7:(w.alloc (.cells #[.int .i64 0,.int .i64 0,.int .i64 0,.int .i64 0,.int .i64 0] 56)).cell? ⟨x,7,none⟩=some (.int .i64 r.pos):=H0.out.cell 7
 have c6:(w.alloc (.cells #[.int .i64 0,.int .i64 0,.int .i64 0,.int .i64 0,.int .i64 0] 56)).cell? ⟨x,6,none⟩=some (.int .i64 r.count):=H0.out.cell 6
 have d7:(w.alloc (.cells #[.int .i64 0,.int .i64 0,.int .i64 0,.int .i64 0,.int .i64 0] 56)).drew.cell? ⟨x,7,none⟩=some (.int .i64 r.pos):=H0.out.cell 7
 have d1:(w.alloc (.cells #[.int .i64 0,.int .i64 0,.int .i64 0,.int .i64 0,.int .i64 0] 56)).drew.cell? ⟨x,1,none⟩=some (.int .i64 r.h):=H0.out.cell 1
 have HB0:Hid (Below w.heap.size w (w.alloc (.cells #[.int .i64 0,.int .i64 0,.int .i64 0,.int .i64 0,.int .i64 0] 56)).drew.drew):=by rw[←hw0];exact below_drew (below_drew hb0)
 have g5:(((r.pos%r.h:Nat):Int)==0)=false:=by simp;omega
 have HBK:Hid (Blk w0 G p F n x r ws (w.alloc (.cells #[.int .i64 0,.int .i64 0,.int .i64 0,.int .i64 0,.int .i64 0] 56)).drew.drew):=(SysTo.of_below (h.below hb0) (by rw[←hw0];exact below_drew (below_drew (Below.refl _ _)))).blk rfl hm0 ⟨ho.x,ho.b,ho.g⟩
 clear hcl h hm hm0 hok ho hr0 hb0
 go_enter Tryz.func41,Tryz.ntmps41
 go_wp2_with fail
 refine HCL.out.mono ?_;rintro e w1 ⟨rfl,rfl⟩
 go_wp2
 go_region
 go_wp2
 go_region
 generalize(w.alloc (.cells #[.int .i64 0,.int .i64 0,.int .i64 0,.int .i64 0,.int .i64 0] 56)).drew.drew=W4 at*
 have HEND4:Hid (∀W9,Far (fun k=>k=x∨k=w.heap.size) W4 W9→Row W9 x 126 (rdC p {r with pos:=r.pos+1})→NextTo w G p F n x {r with pos:=r.pos+1} ws W9):=fun W9 h1 h2=>HEND.out W4 W9 HBK.out h1 h2
 obtain⟨G4,k1,k2,k3,k4⟩:=HBK.out
 have X4:=Lib.hid k2.row
 have Y4:=Lib.hid k2.buf
 have Z4:=Lib.hid k2.words
 have HLU:Hid (ws.length=F.D.size∧U64s ws):=⟨k2.len.trans rfl,k2.u64⟩
 have R4:Hid (Row W4 w.heap.size 56 [.int .i64 0,.int .i64 0,.int .i64 0,.int .i64 0,.int .i64 0]):=k3.row HR00.out (by
  rintro(hg|hg)
  ·exact HNG0.out hg
  ·omega)
 clear HBK k1 k2 k3 k4 HEND HNG0 G4
 have HPL:Hid (∀W,Calls Tryz.prog 66 #[.agg #[.int .i64 r.k,.int .i64 r.h],.slice (some ⟨r.g,0,none⟩) F.D.size F.D.size,.int .i64 r.pos] W fun e w'=>e=.returned (.slice (some ⟨r.g,r.pos%r.h*r.k,none⟩) r.k (F.D.size-r.pos%r.h*r.k))∧Below W.heap.size W w'):=fun W=>plc_any r.k r.h r.pos r.g F.D.size W hk.1 hk.2 hh.1 hh.2.2 (by omega) (by omega) hsz.2
 have HALL:Hid (colsC r.k ((ws.drop (r.pos%r.h*r.k)).take r.k) r.k=[.int .i64 (tupAt r ws).a,.int .i64 (tupAt r ws).b,.int .i64 (tupAt r ws).c,.int .i64 (tupAt r ws).d,.int .i64 (tupAt r ws).e]):=colsC_all hk.2 _
 have HZERO:Hid (colsC r.k ((ws.drop (r.pos%r.h*r.k)).take r.k) 0=[.int .i64 0,.int .i64 0,.int .i64 0,.int .i64 0,.int .i64 0]):=colsC_zero _ _
 have HCL5:Hid (∀i j,j<5→∃v,(colsC r.k ((ws.drop (r.pos%r.h*r.k)).take r.k) i)[j]?=some v):=fun i j hj=>⟨_,List.getElem?_eq_getElem (show j<(colsC r.k ((ws.drop (r.pos%r.h*r.k)).take r.k) i).length from hj)⟩
 have HXR:Hid (x≠w.heap.size):=by unfold Hid;omega
 have HSTEP:Hid (∀i,i<r.k→(colsC r.k ((ws.drop (r.pos%r.h*r.k)).take r.k) i).set i (.int .i64 (IntKind.i64.wrap (((ws.getD (r.pos%r.h*r.k+i) 0:Nat):Nat):Int)))=colsC r.k ((ws.drop (r.pos%r.h*r.k)).take r.k) (i+1)):=by
  intro i hi
  rw[←colsC_set hk.2 _ hi]
  congr 4
  rw[List.getD_eq_getElem?_getD,List.getD_eq_getElem?_getD,List.getElem?_take,if_pos hi,List.getElem?_drop]
 generalize hPO:NextTo w G p F n x {r with pos:=r.pos+1} ws=POST at*
 replace hPO:=Lib.hid hPO
 generalize hTU:tupAt r ws=TU at*
 replace hTU:=Lib.hid hTU
 generalize colsC r.k ((ws.drop (r.pos%r.h*r.k)).take r.k)=CC at*
 clear hmod hw0 HCL H0 c7 c6 d7 d1 HB0 hqm hh0 g3
 obtain⟨TA,TB,TC,TD,TE⟩:=TU
 obtain⟨k,hh2,first,blocks,count,pos,b,g⟩:=r
 unfold rdC at*
 simp only at*
 generalize pos%hh2*k=off at*
 generalize F.D.size=size at*
 generalize hP1:pos+1=pos1 at*
 replace hP1:=Lib.hid hP1
 have hb5:=(Below.refl W4.heap.size W4).alloc (Nat.le_refl _) (.cells #[.int .i64 0,.int .i64 0,.int .i64 0,.int .i64 0,.int .i64 0] 56)
 have hr5:Row (W4.alloc (.cells #[.int .i64 0,.int .i64 0,.int .i64 0,.int .i64 0,.int .i64 0] 56)) W4.heap.size 56 [.int .i64 0,.int .i64 0,.int .i64 0,.int .i64 0,.int .i64 0]:=heap_alloc_new _ _
 have HX5:=Lib.hid (X4.out.below hb5 X4.out.lt)
 have HY5:=Lib.hid (Y4.out.below hb5 Y4.out.lt)
 have k0:∀d os,(Sort.grow (redrawn (W4.alloc (.cells #[.int .i64 0,.int .i64 0,.int .i64 0,.int .i64 0,.int .i64 0] 56)) d) os).cell? ⟨x,0,none⟩=some (.int .i64 k):=cell_regrown (HX5.out.cell 0)
 have k1:∀d os,(Sort.grow (redrawn (W4.alloc (.cells #[.int .i64 0,.int .i64 0,.int .i64 0,.int .i64 0,.int .i64 0] 56)) d) os).cell? ⟨x,1,none⟩=some (.int .i64 hh2):=cell_regrown (HX5.out.cell 1)
 have k7:∀d os,(Sort.grow (redrawn (W4.alloc (.cells #[.int .i64 0,.int .i64 0,.int .i64 0,.int .i64 0,.int .i64 0] 56)) d) os).cell? ⟨x,7,none⟩=some (.int .i64 pos):=cell_regrown (HX5.out.cell 7)
 have k8:∀d os,(Sort.grow (redrawn (W4.alloc (.cells #[.int .i64 0,.int .i64 0,.int .i64 0,.int .i64 0,.int .i64 0] 56)) d) os).cell? ⟨x,8,none⟩=some (.pointer (some ⟨b,0,none⟩)):=cell_regrown (HX5.out.cell 8)
 have kb:∀d os,(Sort.grow (redrawn (W4.alloc (.cells #[.int .i64 0,.int .i64 0,.int .i64 0,.int .i64 0,.int .i64 0] 56)) d) os).cell? ⟨b,0,none⟩=some (.slice (some ⟨g,0,none⟩) size size):=cell_regrown (HY5.out.cell 0)
 have Q4:Hid (∀d os,Calls Tryz.prog 66 #[.agg #[.int .i64 k,.int .i64 hh2],.slice (some ⟨g,0,none⟩) size size,.int .i64 pos] (Sort.grow (redrawn (W4.alloc (.cells #[.int .i64 0,.int .i64 0,.int .i64 0,.int .i64 0,.int .i64 0] 56)) d) os) fun e w''=>e=.returned (.slice (some ⟨g,off,none⟩) k (size-off))∧∃p:Regrown,w''=Sort.grow (redrawn (W4.alloc (.cells #[.int .i64 0,.int .i64 0,.int .i64 0,.int .i64 0,.int .i64 0] 56)) p.d) p.os):=fun d os=>Calls.regrown_of (HPL.out _)
 have HB5:=Lib.hid hb5
 have HR5:=Lib.hid hr5
 clear hb5 hr5 HPL HX5 HY5
 go_wp2
 refine wp_region_quiet_below (by kernel_rfl) (by kernel_rfl) ?_
 repeat(any_goals(first|go_big_quiet_step (with_reducible first|exact Q4.out _ _)|quiet_step (with_reducible first|exact Q4.out _ _)))
 refine wpQuiet_nil ?_
 intro w7 hw7
 obtain⟨⟨dq,osq⟩,hw7⟩:=hw7
 have hbw7:=below_regrown (W4.alloc (.cells #[.int .i64 0,.int .i64 0,.int .i64 0,.int .i64 0,.int .i64 0] 56)) dq osq
 rw[←hw7]at hbw7
 clear hw7
 have HB7:=Lib.hid (HB5.out.trans (hbw7.mono HB5.out.size))
 have HR7:Hid (Row w7 W4.heap.size 56 (CC 0)):=by unfold Hid;rw[HZERO.out];exact HR5.out.below hbw7 HR5.out.lt
 clear hbw7 Q4 k0 k1 k7 k8 kb HR5 HB5 HZERO
 have hxt:=X4.out.lt
 have hgt:=Z4.out.lt
 have hrt:=R4.out.lt
 have HLT4:Hid (x<W4.heap.size∧g<W4.heap.size∧w.heap.size<W4.heap.size):=⟨hxt,hgt,hrt⟩
 clear hxt hgt hrt
 generalize hT:W4.heap.size=T at*
 go_wp2
 go_loopw [61] (fun iv wr=>∃i:Nat,i≤k∧iv=.int .i64 (i:Int)∧Hid (Below T W4 wr)∧Hid (Row wr T 56 (CC i))) (fun iv _=>k-(intOf iv).toNat)
 case atStart=>exact⟨0,Nat.zero_le _,rfl,HB7.out,HR7.out⟩
 case round=>
  obtain⟨i,hi,rfl,HF,HRT⟩:=hrel
  by_cases hlt:i<k
  ·have hset:=HSTEP.out i hlt
   have hol:off+i<ws.length:=by have:=HLU.out.1;omega
   have cw:wr.cell? ⟨g,off+i,none⟩=some (.int .u64 (ws.getD (off+i) 0:Nat)):=by
    rw[(Z4.out.below HF.out HLT4.out.2.1).cell (off+i)];exact map_at hol
   have hi5:i<5:=by omega
   have ct:∃v,wr.cell? ⟨T,i,none⟩=some v:=by
    rw[HRT.out.cell i]
    exact HCL5.out i i hi5
   obtain⟨v0,ct⟩:=ct
   have fg:=HRT.out.free i
   have HST:Hid (Row (wr.setCell ⟨T,i,none⟩ (.int .i64 (IntKind.i64.wrap ((ws.getD (off+i) 0:Nat):Int)))) T 56 (CC (i+1))):=by
    have h1:=HRT.out.set i (.int .i64 (IntKind.i64.wrap ((ws.getD (off+i) 0:Nat):Int)))
    rw[hset]at h1;exact h1
   have HFF:Hid (Below T W4 (wr.setCell ⟨T,i,none⟩ (.int .i64 (IntKind.i64.wrap ((ws.getD (off+i) 0:Nat):Int))))):=HF.out.setCell (Nat.le_refl _) _
   have hj0:(0:Int)≤(i:Int):=by omega
   have hj1:(i:Int)<(k:Int):=by omega
   have hj5:(i:Int)<5:=by omega
   clear hset hol hi
   generalize ws.getD (off+i) 0=u at*
   obtain⟨z,hz⟩:∃z,IntKind.i64.wrap (u:Int)=z:=⟨_,rfl⟩
   rw[hz]at HST HFF
   go_wp2
   go_roundw
   case rel=>exact⟨i+1,by omega,by go_num,HFF.out,HST.out⟩
   case measure=>simp[intOf];omega
  ·obtain rfl:i=k:=by omega
   have hrx:=X4.out.below HF.out HLT4.out.1
   have c7:wr.cell? ⟨x,7,none⟩=some (.int .i64 pos):=hrx.cell 7
   have f7:=hrx.free 7
   have hrx8:=hrx.set 7 (.int .i64 pos1)
   have hrt8:Row (wr.setCell ⟨x,7,none⟩ (.int .i64 pos1)) T 56 (CC i):=HRT.out.far (p:=⟨x,7,none⟩) (fun e=>by have:=HLT4.out.1;simp only at e;omega) _
   rw[HALL.out]at hrt8
   have hrr8:Row (wr.setCell ⟨x,7,none⟩ (.int .i64 pos1)) w.heap.size 56 [.int .i64 0,.int .i64 0,.int .i64 0,.int .i64 0,.int .i64 0]:=(R4.out.below HF.out HLT4.out.2.2).far (p:=⟨x,7,none⟩) (fun e=>HXR.out e.symm) (.int .i64 pos1)
   have hf8:Far (fun k=>k=x∨k=w.heap.size) W4 (wr.setCell ⟨x,7,none⟩ (.int .i64 pos1)):=(Far.of_below (by rw[hT];exact HF.out) (fun k=>k=x∨k=w.heap.size)).set (p:=⟨x,7,none⟩) (.inl (.inl rfl)) _
   have HRT8:=Lib.hid hrt8
   have HRR8:=Lib.hid hrr8
   have HRX8:=Lib.hid hrx8
   have HF8:=Lib.hid hf8
   clear hrx hrx8 hrt8 hrr8 hf8 HRT HF
   generalize hw8:wr.setCell ⟨x,7,none⟩ (.int .i64 pos1)=w8 at HRT8 HRR8 HRX8 HF8
   have t0:w8.cell? ⟨T,0,none⟩=some (.int .i64 TA):=HRT8.out.cell 0
   have t1:w8.cell? ⟨T,1,none⟩=some (.int .i64 TB):=HRT8.out.cell 1
   have t2:w8.cell? ⟨T,2,none⟩=some (.int .i64 TC):=HRT8.out.cell 2
   have t3:w8.cell? ⟨T,3,none⟩=some (.int .i64 TD):=HRT8.out.cell 3
   have t4:w8.cell? ⟨T,4,none⟩=some (.int .i64 TE):=HRT8.out.cell 4
   have z0:w8.cell? ⟨w.heap.size,0,none⟩=some (.int .i64 0):=HRR8.out.cell 0
   have z1:w8.cell? ⟨w.heap.size,1,none⟩=some (.int .i64 0):=HRR8.out.cell 1
   have z2:w8.cell? ⟨w.heap.size,2,none⟩=some (.int .i64 0):=HRR8.out.cell 2
   have z3:w8.cell? ⟨w.heap.size,3,none⟩=some (.int .i64 0):=HRR8.out.cell 3
   have z4:w8.cell? ⟨w.heap.size,4,none⟩=some (.int .i64 0):=HRR8.out.cell 4
   have f0:=HRR8.out.free 0
   have f1:=HRR8.out.free 1
   have f2:=HRR8.out.free 2
   have f3:=HRR8.out.free 3
   have f4:=HRR8.out.free 4
   have HR9:=Lib.hid (set5 HRR8.out (.int .i64 TA) (.int .i64 TB) (.int .i64 TC) (.int .i64 TD) (.int .i64 TE))
   have HF9:=Lib.hid (HF8.out.trans (far5 w8 w.heap.size (.int .i64 TA) (.int .i64 TB) (.int .i64 TC) (.int .i64 TD) (.int .i64 TE)) fun b hb=>.inl (.inr hb))
   have HX9:=Lib.hid ((far5 w8 w.heap.size (.int .i64 TA) (.int .i64 TB) (.int .i64 TC) (.int .i64 TD) (.int .i64 TE)).row HRX8.out HXR.out)
   clear HRT8 HRR8 HRX8 HF8
   subst hw8
   go_wp2
   have H9:=Lib.hid (HEND4.out _ HF9.out HX9.out)
   clear HEND4 HF9 HX9
   have q0:=HR9.out.cell 0
   have q1:=HR9.out.cell 1
   have q2:=HR9.out.cell 2
   have q3:=HR9.out.cell 3
   have q4:=HR9.out.cell 4
   refine bodyPost_ret (v:=.tuple #[.agg #[.int .i64 TA,.int .i64 TB,.int .i64 TC,.int .i64 TD,.int .i64 TE],.bool true,.int .i64 0]) ?_ rfl ⟨by rw[hTU.out],by obtain rfl:=hP1.out;rw[hPO.out];exact H9.out⟩
   generalize(((((((wr.setCell ⟨x,7,none⟩ (.int .i64 pos1)).setCell ⟨w.heap.size,0,none⟩ (.int .i64 TA)).setCell ⟨w.heap.size,1,none⟩ (.int .i64 TB)).setCell ⟨w.heap.size,2,none⟩ (.int .i64 TC)).setCell ⟨w.heap.size,3,none⟩ (.int .i64 TD)).setCell ⟨w.heap.size,4,none⟩ (.int .i64 TE)))=w9 at*
   simp only[List.getElem?_cons_zero,List.getElem?_cons_succ]at q0 q1 q2 q3 q4
   simp[results,Tryz.results41,go_sem,q0,q1,q2,q3,q4]
theorem fnext_good{w:World}{G:Nat→Prop}{p:Wp}{F:Fs}{n x:Nat}{r:Rt}{ws:List Nat}(h:Sys w G p F n)(hok:RtOk r F.D.size)(hm:RMem w x p r F.D.size ws)(ho:ROut G x r)(hpos:r.pos<r.count)
  {F1:Fs} {n1:Nat} {ws1:List Nat} (hs1:F1.D.size=F.D.size) (hmid:r.pos%r.h=0) (hB:∀W,Below w.heap.size w W→Calls Tryz.prog 65 #[.pointer (some ⟨x,0,none⟩)] W fun e w'=>e=.returned (.int .i64 0)∧Blk W G p F1 n1 x r ws1 w'):
  Calls Tryz.prog 41 #[.pointer (some ⟨x,0,none⟩)] w fun e w'=>e=.returned (.tuple #[.agg #[.int .i64 (tupAt r ws1).a,.int .i64 (tupAt r ws1).b,.int .i64 (tupAt r ws1).c,.int .i64 (tupAt r ws1).d,.int .i64 (tupAt r ws1).e],.bool true,.int .i64 0])∧NextTo w G p F1 n1 x {r with pos:=r.pos+1} ws1 w':=by
 obtain⟨hx,hbw,hgw⟩:=hm.lt
 obtain⟨a1,a2,a3⟩:=hm.apart
 have hsz:=hok.sz
 have hk:=hok.k
 have hh:=hok.h
 have hct:=hok.count
 have hmod:=Nat.mod_lt r.pos hh.1
 have hqk:r.pos%r.h*r.k+r.k≤F.D.size-2:=by
  have h1:(r.pos%r.h+1)*r.k≤r.h*r.k:=Nat.mul_le_mul_right _ hmod
  rw[Nat.add_mul,Nat.one_mul]at h1
  exact Nat.le_trans h1 hh.2.1
 obtain⟨w0,hw0⟩:∃w0,w0=w.alloc (.cells #[.int .i64 0,.int .i64 0,.int .i64 0,.int .i64 0,.int .i64 0] 56):=⟨_,rfl⟩
 have hb0:Below w.heap.size w w0:=by rw[hw0];exact(Below.refl w.heap.size w).alloc (Nat.le_refl _) _
 have hr0:Row w0 w.heap.size 56 [.int .i64 0,.int .i64 0,.int .i64 0,.int .i64 0,.int .i64 0]:=by rw[hw0];exact heap_alloc_new _ _
 have hm0:=hm.below hb0
 have hcl:=rclosed_any hm0.row hm0.buf
 rw[decide_eq_true (show 0<F.D.size by omega)]at hcl
 have HCL:Hid (Calls Tryz.prog 63 #[.pointer (some ⟨x,0,none⟩)] (w.alloc (.cells #[.int .i64 0,.int .i64 0,.int .i64 0,.int .i64 0,.int .i64 0] 56)) fun e w'=>e=.returned (.bool (!true))∧w'=w.alloc (.cells #[.int .i64 0,.int .i64 0,.int .i64 0,.int .i64 0,.int .i64 0] 56)):=by rw[hw0]at hcl;exact hcl
 have HR00:=Lib.hid hr0
 have HNG0:Hid (¬G w.heap.size):=fun hg=>by have:=h.lt hg;omega
 have HEND:Hid (∀W4 W9,Blk w0 G p F1 n1 x r ws1 W4→Far (fun k=>k=x∨k=w.heap.size) W4 W9→Row W9 x 126 (rdC p {r with pos:=r.pos+1})→NextTo w G p F1 n1 x {r with pos:=r.pos+1} ws1 W9):=by
  intro W4 W9 ⟨G4,k1,k2,k3,k4⟩ hf hr
  have hxG:¬G4 x:=fun hg=>(k4 x hg).elim ho.x fun h=>by have:=hb0.size;omega
  have hRG:¬G4 w.heap.size:=fun hg=>(k4 _ hg).elim HNG0.out fun h=>by have:=hr0.lt;omega
  have hR4:Row W4 w.heap.size 56 [.int .i64 0,.int .i64 0,.int .i64 0,.int .i64 0,.int .i64 0]:=k3.row hr0 (by
   rintro(hg|hg)
   ·exact HNG0.out hg
   ·omega)
  refine⟨G4,k1.touch hf ?_,⟨hr,hf.row k2.buf ?_,hf.row k2.words ?_,k2.len,k2.u64⟩,?_,fun k hk=>(k4 k hk).imp_right fun h=>Nat.le_trans hb0.size h⟩
  ·rintro k (rfl|rfl)
   ·exact⟨hxG,fun v hv=>absurd (hv.typed k2.row) (by decide)⟩
   ·exact⟨hRG,fun v hv=>absurd (hv.typed hR4) (by decide)⟩
  ·rintro(e|e)
   ·exact a1 e.symm
   ·exact absurd e (Nat.ne_of_lt hbw)
  ·rintro(e|e)
   ·exact a2 e.symm
   ·exact absurd e (Nat.ne_of_lt hgw)
  ·refine(((Far.of_below hb0 _).trans k3 fun b hb=>hb.elim (fun h=>.inl (.inl h)) fun h=>.inl (.inr (.inl h)))).trans hf ?_
   rintro b (rfl|rfl)
   ·exact .inl (.inr (.inr rfl))
   ·exact .inr (Nat.le_refl _)
 have H0:Hid (Row (w.alloc (.cells #[.int .i64 0,.int .i64 0,.int .i64 0,.int .i64 0,.int .i64 0] 56)) x 126 (rdC p r)):=by rw[←hw0];exact hm0.row
 have hqm:Int.tmod (r.pos:Int) (r.h:Int)=((r.pos%r.h:Nat):Int):=rfl
 have hh0:¬((r.h:Int)=0):=by omega
 have g3:((r.pos:Int)==(r.count:Int))=false:=by simp;omega
 have hp1:(r.pos:Int)+1=((r.pos+1:Nat):Int):=by omega
 have c7:(w.alloc (.cells #[.int .i64 0,.int .i64 0,.int .i64 0,.int .i64 0,.int .i64 0] 56)).cell? ⟨x,7,none⟩=some (.int .i64 r.pos):=H0.out.cell 7
 have c6:(w.alloc (.cells #[.int .i64 0,.int .i64 0,.int .i64 0,.int .i64 0,.int .i64 0] 56)).cell? ⟨x,6,none⟩=some (.int .i64 r.count):=H0.out.cell 6
 have d7:(w.alloc (.cells #[.int .i64 0,.int .i64 0,.int .i64 0,.int .i64 0,.int .i64 0] 56)).drew.cell? ⟨x,7,none⟩=some (.int .i64 r.pos):=H0.out.cell 7
 have d1:(w.alloc (.cells #[.int .i64 0,.int .i64 0,.int .i64 0,.int .i64 0,.int .i64 0] 56)).drew.cell? ⟨x,1,none⟩=some (.int .i64 r.h):=H0.out.cell 1
 have HB0:Hid (Below w.heap.size w (w.alloc (.cells #[.int .i64 0,.int .i64 0,.int .i64 0,.int .i64 0,.int .i64 0] 56)).drew.drew):=by rw[←hw0];exact below_drew (below_drew hb0)
 have g5:(((r.pos%r.h:Nat):Int)==0)=true:=by simp;omega
 have HBC:Hid (Calls Tryz.prog 65 #[.pointer (some ⟨x,0,none⟩)] (w.alloc (.cells #[.int .i64 0,.int .i64 0,.int .i64 0,.int .i64 0,.int .i64 0] 56)).drew.drew fun e w'=>e=.returned (.int .i64 0)∧Blk w0 G p F1 n1 x r ws1 w'):=(hB _ HB0.out).mono fun e w' ⟨h1,G',k1,k2,k3,k4⟩=>
  have hbx:Below w0.heap.size w0 (w.alloc (.cells #[.int .i64 0,.int .i64 0,.int .i64 0,.int .i64 0,.int .i64 0] 56)).drew.drew:=by rw[←hw0];exact below_drew (below_drew (Below.refl _ _))
  ⟨h1,G',k1,k2,(Far.of_below hbx _).trans k3 fun b hb=>.inl hb,fun k hk=>(k4 k hk).imp_right fun h=>Nat.le_trans hbx.size h⟩
 clear hcl h hm hm0 hok ho hr0 hb0 hB
 go_enter Tryz.func41,Tryz.ntmps41
 go_wp2_with fail
 refine HCL.out.mono ?_;rintro e w1 ⟨rfl,rfl⟩
 go_wp2
 go_region
 go_wp2
 go_region
 go_wp2_with fail
 refine HBC.out.mono ?_;rintro e W4 ⟨rfl,hbk4⟩
 have HBK:=Lib.hid hbk4
 clear hbk4 HBC
 have HEND4:Hid (∀W9,Far (fun k=>k=x∨k=w.heap.size) W4 W9→Row W9 x 126 (rdC p {r with pos:=r.pos+1})→NextTo w G p F1 n1 x {r with pos:=r.pos+1} ws1 W9):=fun W9 h1 h2=>HEND.out W4 W9 HBK.out h1 h2
 obtain⟨G4,k1,k2,k3,k4⟩:=HBK.out
 have X4:=Lib.hid k2.row
 have Y4:=Lib.hid k2.buf
 have Z4:=Lib.hid k2.words
 have HLU:Hid (ws1.length=F.D.size∧U64s ws1):=⟨k2.len.trans hs1,k2.u64⟩
 have R4:Hid (Row W4 w.heap.size 56 [.int .i64 0,.int .i64 0,.int .i64 0,.int .i64 0,.int .i64 0]):=k3.row HR00.out (by
  rintro(hg|hg)
  ·exact HNG0.out hg
  ·omega)
 clear HBK k1 k2 k3 k4 HEND HNG0 G4
 have HPL:Hid (∀W,Calls Tryz.prog 66 #[.agg #[.int .i64 r.k,.int .i64 r.h],.slice (some ⟨r.g,0,none⟩) F.D.size F.D.size,.int .i64 r.pos] W fun e w'=>e=.returned (.slice (some ⟨r.g,r.pos%r.h*r.k,none⟩) r.k (F.D.size-r.pos%r.h*r.k))∧Below W.heap.size W w'):=fun W=>plc_any r.k r.h r.pos r.g F.D.size W hk.1 hk.2 hh.1 hh.2.2 (by omega) (by omega) hsz.2
 have HALL:Hid (colsC r.k ((ws1.drop (r.pos%r.h*r.k)).take r.k) r.k=[.int .i64 (tupAt r ws1).a,.int .i64 (tupAt r ws1).b,.int .i64 (tupAt r ws1).c,.int .i64 (tupAt r ws1).d,.int .i64 (tupAt r ws1).e]):=colsC_all hk.2 _
 have HZERO:Hid (colsC r.k ((ws1.drop (r.pos%r.h*r.k)).take r.k) 0=[.int .i64 0,.int .i64 0,.int .i64 0,.int .i64 0,.int .i64 0]):=colsC_zero _ _
 have HCL5:Hid (∀i j,j<5→∃v,(colsC r.k ((ws1.drop (r.pos%r.h*r.k)).take r.k) i)[j]?=some v):=fun i j hj=>⟨_,List.getElem?_eq_getElem (show j<(colsC r.k ((ws1.drop (r.pos%r.h*r.k)).take r.k) i).length from hj)⟩
 have HXR:Hid (x≠w.heap.size):=by unfold Hid;omega
 have HSTEP:Hid (∀i,i<r.k→(colsC r.k ((ws1.drop (r.pos%r.h*r.k)).take r.k) i).set i (.int .i64 (IntKind.i64.wrap (((ws1.getD (r.pos%r.h*r.k+i) 0:Nat):Nat):Int)))=colsC r.k ((ws1.drop (r.pos%r.h*r.k)).take r.k) (i+1)):=by
  intro i hi
  rw[←colsC_set hk.2 _ hi]
  congr 4
  rw[List.getD_eq_getElem?_getD,List.getD_eq_getElem?_getD,List.getElem?_take,if_pos hi,List.getElem?_drop]
 generalize hPO:NextTo w G p F1 n1 x {r with pos:=r.pos+1} ws1=POST at*
 replace hPO:=Lib.hid hPO
 generalize hTU:tupAt r ws1=TU at*
 replace hTU:=Lib.hid hTU
 generalize colsC r.k ((ws1.drop (r.pos%r.h*r.k)).take r.k)=CC at*
 clear hmod hw0 HCL H0 c7 c6 d7 d1 HB0 hqm hh0 g3
 obtain⟨TA,TB,TC,TD,TE⟩:=TU
 obtain⟨k,hh2,first,blocks,count,pos,b,g⟩:=r
 unfold rdC at*
 simp only at*
 generalize pos%hh2*k=off at*
 rw[hs1]at*
 generalize F.D.size=size at*
 generalize hP1:pos+1=pos1 at*
 replace hP1:=Lib.hid hP1
 have hb5:=(Below.refl W4.heap.size W4).alloc (Nat.le_refl _) (.cells #[.int .i64 0,.int .i64 0,.int .i64 0,.int .i64 0,.int .i64 0] 56)
 have hr5:Row (W4.alloc (.cells #[.int .i64 0,.int .i64 0,.int .i64 0,.int .i64 0,.int .i64 0] 56)) W4.heap.size 56 [.int .i64 0,.int .i64 0,.int .i64 0,.int .i64 0,.int .i64 0]:=heap_alloc_new _ _
 have HX5:=Lib.hid (X4.out.below hb5 X4.out.lt)
 have HY5:=Lib.hid (Y4.out.below hb5 Y4.out.lt)
 have k0:∀d os,(Sort.grow (redrawn (W4.alloc (.cells #[.int .i64 0,.int .i64 0,.int .i64 0,.int .i64 0,.int .i64 0] 56)) d) os).cell? ⟨x,0,none⟩=some (.int .i64 k):=cell_regrown (HX5.out.cell 0)
 have k1:∀d os,(Sort.grow (redrawn (W4.alloc (.cells #[.int .i64 0,.int .i64 0,.int .i64 0,.int .i64 0,.int .i64 0] 56)) d) os).cell? ⟨x,1,none⟩=some (.int .i64 hh2):=cell_regrown (HX5.out.cell 1)
 have k7:∀d os,(Sort.grow (redrawn (W4.alloc (.cells #[.int .i64 0,.int .i64 0,.int .i64 0,.int .i64 0,.int .i64 0] 56)) d) os).cell? ⟨x,7,none⟩=some (.int .i64 pos):=cell_regrown (HX5.out.cell 7)
 have k8:∀d os,(Sort.grow (redrawn (W4.alloc (.cells #[.int .i64 0,.int .i64 0,.int .i64 0,.int .i64 0,.int .i64 0] 56)) d) os).cell? ⟨x,8,none⟩=some (.pointer (some ⟨b,0,none⟩)):=cell_regrown (HX5.out.cell 8)
 have kb:∀d os,(Sort.grow (redrawn (W4.alloc (.cells #[.int .i64 0,.int .i64 0,.int .i64 0,.int .i64 0,.int .i64 0] 56)) d) os).cell? ⟨b,0,none⟩=some (.slice (some ⟨g,0,none⟩) size size):=cell_regrown (HY5.out.cell 0)
 have Q4:Hid (∀d os,Calls Tryz.prog 66 #[.agg #[.int .i64 k,.int .i64 hh2],.slice (some ⟨g,0,none⟩) size size,.int .i64 pos] (Sort.grow (redrawn (W4.alloc (.cells #[.int .i64 0,.int .i64 0,.int .i64 0,.int .i64 0,.int .i64 0] 56)) d) os) fun e w''=>e=.returned (.slice (some ⟨g,off,none⟩) k (size-off))∧∃p:Regrown,w''=Sort.grow (redrawn (W4.alloc (.cells #[.int .i64 0,.int .i64 0,.int .i64 0,.int .i64 0,.int .i64 0] 56)) p.d) p.os):=fun d os=>Calls.regrown_of (HPL.out _)
 have HB5:=Lib.hid hb5
 have HR5:=Lib.hid hr5
 clear hb5 hr5 HPL HX5 HY5
 go_wp2
 refine wp_region_quiet_below (by kernel_rfl) (by kernel_rfl) ?_
 repeat(any_goals(first|go_big_quiet_step (with_reducible first|exact Q4.out _ _)|quiet_step (with_reducible first|exact Q4.out _ _)))
 refine wpQuiet_nil ?_
 intro w7 hw7
 obtain⟨⟨dq,osq⟩,hw7⟩:=hw7
 have hbw7:=below_regrown (W4.alloc (.cells #[.int .i64 0,.int .i64 0,.int .i64 0,.int .i64 0,.int .i64 0] 56)) dq osq
 rw[←hw7]at hbw7
 clear hw7
 have HB7:=Lib.hid (HB5.out.trans (hbw7.mono HB5.out.size))
 have HR7:Hid (Row w7 W4.heap.size 56 (CC 0)):=by unfold Hid;rw[HZERO.out];exact HR5.out.below hbw7 HR5.out.lt
 clear hbw7 Q4 k0 k1 k7 k8 kb HR5 HB5 HZERO
 have hxt:=X4.out.lt
 have hgt:=Z4.out.lt
 have hrt:=R4.out.lt
 have HLT4:Hid (x<W4.heap.size∧g<W4.heap.size∧w.heap.size<W4.heap.size):=⟨hxt,hgt,hrt⟩
 clear hxt hgt hrt
 generalize hT:W4.heap.size=T at*
 go_wp2
 go_loopw [61] (fun iv wr=>∃i:Nat,i≤k∧iv=.int .i64 (i:Int)∧Hid (Below T W4 wr)∧Hid (Row wr T 56 (CC i))) (fun iv _=>k-(intOf iv).toNat)
 case atStart=>exact⟨0,Nat.zero_le _,rfl,HB7.out,HR7.out⟩
 case round=>
  obtain⟨i,hi,rfl,HF,HRT⟩:=hrel
  by_cases hlt:i<k
  ·have hset:=HSTEP.out i hlt
   have hol:off+i<ws1.length:=by have:=HLU.out.1;omega
   have cw:wr.cell? ⟨g,off+i,none⟩=some (.int .u64 (ws1.getD (off+i) 0:Nat)):=by
    rw[(Z4.out.below HF.out HLT4.out.2.1).cell (off+i)];exact map_at hol
   have hi5:i<5:=by omega
   have ct:∃v,wr.cell? ⟨T,i,none⟩=some v:=by
    rw[HRT.out.cell i]
    exact HCL5.out i i hi5
   obtain⟨v0,ct⟩:=ct
   have fg:=HRT.out.free i
   have HST:Hid (Row (wr.setCell ⟨T,i,none⟩ (.int .i64 (IntKind.i64.wrap ((ws1.getD (off+i) 0:Nat):Int)))) T 56 (CC (i+1))):=by
    have h1:=HRT.out.set i (.int .i64 (IntKind.i64.wrap ((ws1.getD (off+i) 0:Nat):Int)))
    rw[hset]at h1;exact h1
   have HFF:Hid (Below T W4 (wr.setCell ⟨T,i,none⟩ (.int .i64 (IntKind.i64.wrap ((ws1.getD (off+i) 0:Nat):Int))))):=HF.out.setCell (Nat.le_refl _) _
   have hj0:(0:Int)≤(i:Int):=by omega
   have hj1:(i:Int)<(k:Int):=by omega
   have hj5:(i:Int)<5:=by omega
   clear hset hol hi
   generalize ws1.getD (off+i) 0=u at*
   obtain⟨z,hz⟩:∃z,IntKind.i64.wrap (u:Int)=z:=⟨_,rfl⟩
   rw[hz]at HST HFF
   go_wp2
   go_roundw
   case rel=>exact⟨i+1,by omega,by go_num,HFF.out,HST.out⟩
   case measure=>simp[intOf];omega
  ·obtain rfl:i=k:=by omega
   have hrx:=X4.out.below HF.out HLT4.out.1
   have c7:wr.cell? ⟨x,7,none⟩=some (.int .i64 pos):=hrx.cell 7
   have f7:=hrx.free 7
   have hrx8:=hrx.set 7 (.int .i64 pos1)
   have hrt8:Row (wr.setCell ⟨x,7,none⟩ (.int .i64 pos1)) T 56 (CC i):=HRT.out.far (p:=⟨x,7,none⟩) (fun e=>by have:=HLT4.out.1;simp only at e;omega) _
   rw[HALL.out]at hrt8
   have hrr8:Row (wr.setCell ⟨x,7,none⟩ (.int .i64 pos1)) w.heap.size 56 [.int .i64 0,.int .i64 0,.int .i64 0,.int .i64 0,.int .i64 0]:=(R4.out.below HF.out HLT4.out.2.2).far (p:=⟨x,7,none⟩) (fun e=>HXR.out e.symm) (.int .i64 pos1)
   have hf8:Far (fun k=>k=x∨k=w.heap.size) W4 (wr.setCell ⟨x,7,none⟩ (.int .i64 pos1)):=(Far.of_below (by rw[hT];exact HF.out) (fun k=>k=x∨k=w.heap.size)).set (p:=⟨x,7,none⟩) (.inl (.inl rfl)) _
   have HRT8:=Lib.hid hrt8
   have HRR8:=Lib.hid hrr8
   have HRX8:=Lib.hid hrx8
   have HF8:=Lib.hid hf8
   clear hrx hrx8 hrt8 hrr8 hf8 HRT HF
   generalize hw8:wr.setCell ⟨x,7,none⟩ (.int .i64 pos1)=w8 at HRT8 HRR8 HRX8 HF8
   have t0:w8.cell? ⟨T,0,none⟩=some (.int .i64 TA):=HRT8.out.cell 0
   have t1:w8.cell? ⟨T,1,none⟩=some (.int .i64 TB):=HRT8.out.cell 1
   have t2:w8.cell? ⟨T,2,none⟩=some (.int .i64 TC):=HRT8.out.cell 2
   have t3:w8.cell? ⟨T,3,none⟩=some (.int .i64 TD):=HRT8.out.cell 3
   have t4:w8.cell? ⟨T,4,none⟩=some (.int .i64 TE):=HRT8.out.cell 4
   have z0:w8.cell? ⟨w.heap.size,0,none⟩=some (.int .i64 0):=HRR8.out.cell 0
   have z1:w8.cell? ⟨w.heap.size,1,none⟩=some (.int .i64 0):=HRR8.out.cell 1
   have z2:w8.cell? ⟨w.heap.size,2,none⟩=some (.int .i64 0):=HRR8.out.cell 2
   have z3:w8.cell? ⟨w.heap.size,3,none⟩=some (.int .i64 0):=HRR8.out.cell 3
   have z4:w8.cell? ⟨w.heap.size,4,none⟩=some (.int .i64 0):=HRR8.out.cell 4
   have f0:=HRR8.out.free 0
   have f1:=HRR8.out.free 1
   have f2:=HRR8.out.free 2
   have f3:=HRR8.out.free 3
   have f4:=HRR8.out.free 4
   have HR9:=Lib.hid (set5 HRR8.out (.int .i64 TA) (.int .i64 TB) (.int .i64 TC) (.int .i64 TD) (.int .i64 TE))
   have HF9:=Lib.hid (HF8.out.trans (far5 w8 w.heap.size (.int .i64 TA) (.int .i64 TB) (.int .i64 TC) (.int .i64 TD) (.int .i64 TE)) fun b hb=>.inl (.inr hb))
   have HX9:=Lib.hid ((far5 w8 w.heap.size (.int .i64 TA) (.int .i64 TB) (.int .i64 TC) (.int .i64 TD) (.int .i64 TE)).row HRX8.out HXR.out)
   clear HRT8 HRR8 HRX8 HF8
   subst hw8
   go_wp2
   have H9:=Lib.hid (HEND4.out _ HF9.out HX9.out)
   clear HEND4 HF9 HX9
   have q0:=HR9.out.cell 0
   have q1:=HR9.out.cell 1
   have q2:=HR9.out.cell 2
   have q3:=HR9.out.cell 3
   have q4:=HR9.out.cell 4
   refine bodyPost_ret (v:=.tuple #[.agg #[.int .i64 TA,.int .i64 TB,.int .i64 TC,.int .i64 TD,.int .i64 TE],.bool true,.int .i64 0]) ?_ rfl ⟨by rw[hTU.out],by obtain rfl:=hP1.out;rw[hPO.out];exact H9.out⟩
   generalize(((((((wr.setCell ⟨x,7,none⟩ (.int .i64 pos1)).setCell ⟨w.heap.size,0,none⟩ (.int .i64 TA)).setCell ⟨w.heap.size,1,none⟩ (.int .i64 TB)).setCell ⟨w.heap.size,2,none⟩ (.int .i64 TC)).setCell ⟨w.heap.size,3,none⟩ (.int .i64 TD)).setCell ⟨w.heap.size,4,none⟩ (.int .i64 TE)))=w9 at*
   simp only[List.getElem?_cons_zero,List.getElem?_cons_succ]at q0 q1 q2 q3 q4
   simp[results,Tryz.results41,go_sem,q0,q1,q2,q3,q4]
def NEnd(w:World)(G:Nat→Prop)(x:Nat)(p:Wp)(F:Fs)(n:Nat)(r:Rt)(w':World):Prop:=
 ∃G',Sys w' G' p {F with A:=release F.A r.b F.D.size} n∧RShut w' x p r∧Far (fun k=>G k∨k=r.b∨k=r.g) w w'∧∀k,G' k→G k∨w.heap.size≤k
theorem fnext_bad{w:World}{G:Nat→Prop}{p:Wp}{F:Fs}{n x:Nat}{r:Rt}{ws:List Nat}(h:Sys w G p F n)(hok:RtOk r F.D.size)(hm:RMem w x p r F.D.size ws)(ho:ROut G x r)(hst:wordsAt F.A.st r.b=some F.D.size)(hpos:r.pos<r.count)
  {F1:Fs} {n1:Nat} {ws1:List Nat} {er:Int} (he:er≠0) (hs1:F1.D.size=F.D.size) (ha1:F1.A=F.A) (hmid:r.pos%r.h=0) (hB:∀W,Below w.heap.size w W→Calls Tryz.prog 65 #[.pointer (some ⟨x,0,none⟩)] W fun e w'=>e=.returned (.int .i64 er)∧Blk W G p F1 n1 x r ws1 w'):
  Calls Tryz.prog 41 #[.pointer (some ⟨x,0,none⟩)] w fun e w'=>e=.returned (.tuple #[.agg #[.int .i64 0,.int .i64 0,.int .i64 0,.int .i64 0,.int .i64 0],.bool false,.int .i64 er])∧NEnd w G x p F1 n1 r w':=by
 obtain⟨hx,hbw,hgw⟩:=hm.lt
 obtain⟨a1,a2,a3⟩:=hm.apart
 have hsz:=hok.sz
 have hk:=hok.k
 have hh:=hok.h
 have hct:=hok.count
 obtain⟨w0,hw0⟩:∃w0,w0=w.alloc (.cells #[.int .i64 0,.int .i64 0,.int .i64 0,.int .i64 0,.int .i64 0] 56):=⟨_,rfl⟩
 have hb0:Below w.heap.size w w0:=by rw[hw0];exact(Below.refl w.heap.size w).alloc (Nat.le_refl _) _
 have hr0:Row w0 w.heap.size 56 [.int .i64 0,.int .i64 0,.int .i64 0,.int .i64 0,.int .i64 0]:=by rw[hw0];exact heap_alloc_new _ _
 have hm0:=hm.below hb0
 have hcl:=rclosed_any hm0.row hm0.buf
 rw[decide_eq_true (show 0<F.D.size by omega)]at hcl
 have HCL:Hid (Calls Tryz.prog 63 #[.pointer (some ⟨x,0,none⟩)] (w.alloc (.cells #[.int .i64 0,.int .i64 0,.int .i64 0,.int .i64 0,.int .i64 0] 56)) fun e w'=>e=.returned (.bool (!true))∧w'=w.alloc (.cells #[.int .i64 0,.int .i64 0,.int .i64 0,.int .i64 0,.int .i64 0] 56)):=by rw[hw0]at hcl;exact hcl
 have HNG0:Hid (¬G w.heap.size):=fun hg=>by have:=h.lt hg;omega
 have HCLS:Hid (∀W4,Blk w0 G p F1 n1 x r ws1 W4→Calls Tryz.prog 40 #[.pointer (some ⟨x,0,none⟩)] W4 fun e w5=>e=.returned (.tuple #[])∧(Row w5 w.heap.size 56 [.int .i64 0,.int .i64 0,.int .i64 0,.int .i64 0,.int .i64 0]∧∀w6,Far (fun k=>k=w.heap.size) w5 w6→NEnd w G x p F1 n1 r w6)):=by
  intro W4 ⟨G4,k1,k2,k3,k4⟩
  have hnG:∀k,k<w.heap.size→¬G k→¬G4 k:=fun k hk hn hg=>(k4 k hg).elim hn fun h=>by have:=hb0.size;omega
  have hRG:¬G4 w.heap.size:=fun hg=>(k4 _ hg).elim HNG0.out fun h=>by have:=hr0.lt;omega
  have hR4:Row W4 w.heap.size 56 [.int .i64 0,.int .i64 0,.int .i64 0,.int .i64 0,.int .i64 0]:=k3.row hr0 (by
   rintro(hg|hg)
   ·exact HNG0.out hg
   ·omega)
  refine(rclose_any k1 k2 ⟨hnG x hx ho.x,hnG _ hbw ho.b,hnG _ hgw ho.g⟩ (by rw[ha1,hs1];exact hst)).mono ?_
  rintro e w5 ⟨rfl,G5,q1,q2,q3,q4⟩
  have hR5:Row w5 w.heap.size 56 [.int .i64 0,.int .i64 0,.int .i64 0,.int .i64 0,.int .i64 0]:=q3.row hR4 (by
   rintro(hg|hg)
   ·exact hRG hg
   ·omega)
  have hRG5:¬G5 w.heap.size:=fun hg=>(q4 _ hg).elim hRG fun h=>by have:=hR4.lt;omega
  refine⟨rfl,hR5,fun w6 hf=>⟨G5,q1.touch hf ?_,⟨hf.row q2.1 (by omega),hf.row q2.2 (by omega)⟩,?_,?_⟩⟩
  ·rintro k rfl
   exact⟨hRG5,fun v hv=>absurd (hv.typed hR5) (by decide)⟩
  ·have f1:Far (fun k=>G k∨k=r.b∨k=r.g) w W4:=(Far.of_below hb0 _).trans k3 fun b hb=>hb.elim (fun h=>.inl (.inl h)) fun h=>.inl (.inr (.inr h))
   have f2:=f1.trans q3 (fun b hb=>by
    rcases hb with hb|hb
    ·exact(k4 b hb).imp (fun h=>.inl h) fun h=>Nat.le_trans hb0.size h
    ·exact .inl (.inr (.inl hb)))
   exact f2.trans hf fun b hb=>.inr (by omega)
  ·intro k hk
   rcases q4 k hk with hg|hg
   ·exact(k4 k hg).imp_right fun h=>Nat.le_trans hb0.size h
   ·exact .inr (by have:=hb0.size;have:=k3.size;omega)
 have H0:Hid (Row (w.alloc (.cells #[.int .i64 0,.int .i64 0,.int .i64 0,.int .i64 0,.int .i64 0] 56)) x 126 (rdC p r)):=by rw[←hw0];exact hm0.row
 have hqm:Int.tmod (r.pos:Int) (r.h:Int)=((r.pos%r.h:Nat):Int):=rfl
 have hh0:¬((r.h:Int)=0):=by omega
 have g3:((r.pos:Int)==(r.count:Int))=false:=by simp;omega
 have c7:(w.alloc (.cells #[.int .i64 0,.int .i64 0,.int .i64 0,.int .i64 0,.int .i64 0] 56)).cell? ⟨x,7,none⟩=some (.int .i64 r.pos):=H0.out.cell 7
 have c6:(w.alloc (.cells #[.int .i64 0,.int .i64 0,.int .i64 0,.int .i64 0,.int .i64 0] 56)).cell? ⟨x,6,none⟩=some (.int .i64 r.count):=H0.out.cell 6
 have d7:(w.alloc (.cells #[.int .i64 0,.int .i64 0,.int .i64 0,.int .i64 0,.int .i64 0] 56)).drew.cell? ⟨x,7,none⟩=some (.int .i64 r.pos):=H0.out.cell 7
 have d1:(w.alloc (.cells #[.int .i64 0,.int .i64 0,.int .i64 0,.int .i64 0,.int .i64 0] 56)).drew.cell? ⟨x,1,none⟩=some (.int .i64 r.h):=H0.out.cell 1
 have HB0:Hid (Below w.heap.size w (w.alloc (.cells #[.int .i64 0,.int .i64 0,.int .i64 0,.int .i64 0,.int .i64 0] 56)).drew.drew):=by rw[←hw0];exact below_drew (below_drew hb0)
 have g5:(((r.pos%r.h:Nat):Int)==0)=true:=by simp;omega
 have ge:(er !=0)=true:=by simpa using he
 have HBC:Hid (Calls Tryz.prog 65 #[.pointer (some ⟨x,0,none⟩)] (w.alloc (.cells #[.int .i64 0,.int .i64 0,.int .i64 0,.int .i64 0,.int .i64 0] 56)).drew.drew fun e w'=>e=.returned (.int .i64 er)∧Blk w0 G p F1 n1 x r ws1 w'):=(hB _ HB0.out).mono fun e w' ⟨h1,G',k1,k2,k3,k4⟩=>
  have hbx:Below w0.heap.size w0 (w.alloc (.cells #[.int .i64 0,.int .i64 0,.int .i64 0,.int .i64 0,.int .i64 0] 56)).drew.drew:=by rw[←hw0];exact below_drew (below_drew (Below.refl _ _))
  ⟨h1,G',k1,k2,(Far.of_below hbx _).trans k3 fun b hb=>.inl hb,fun k hk=>(k4 k hk).imp_right fun h=>Nat.le_trans hbx.size h⟩
 generalize NEnd w G x p F1 n1 r=POST at*
 generalize Blk w0 G p F1 n1 x r ws1=BK at*
 clear hcl h hm hm0 hok ho hr0 hb0 hB hw0
 go_enter Tryz.func41,Tryz.ntmps41
 go_wp2_with fail
 refine HCL.out.mono ?_;rintro e w1 ⟨rfl,rfl⟩
 go_wp2
 go_region
 go_wp2
 go_region
 go_wp2_with fail
 refine HBC.out.mono ?_;rintro e W4 ⟨rfl,hbk4⟩
 have HBK:=Lib.hid hbk4
 clear hbk4 HBC H0 HB0 c7 c6 d7 d1 HNG0
 go_wp2_with fail
 refine(HCLS.out W4 HBK.out).mono ?_;rintro e w5 ⟨rfl,hr5,h6⟩
 have HR5:=Lib.hid hr5
 have H6:=Lib.hid h6
 clear hr5 h6 HCLS HBK
 have z0:=HR5.out.cell 0
 have z1:=HR5.out.cell 1
 have z2:=HR5.out.cell 2
 have z3:=HR5.out.cell 3
 have z4:=HR5.out.cell 4
 have f0:=HR5.out.free 0
 have f1:=HR5.out.free 1
 have f2:=HR5.out.free 2
 have f3:=HR5.out.free 3
 have f4:=HR5.out.free 4
 simp only[List.getElem?_cons_zero,List.getElem?_cons_succ]at z0 z1 z2 z3 z4
 have HR9:=Lib.hid (set5 HR5.out (.int .i64 0) (.int .i64 0) (.int .i64 0) (.int .i64 0) (.int .i64 0))
 have HF9:=Lib.hid (far5 w5 w.heap.size (.int .i64 0) (.int .i64 0) (.int .i64 0) (.int .i64 0) (.int .i64 0))
 go_wp2
 have H9:=Lib.hid (H6.out _ HF9.out)
 have q0:=HR9.out.cell 0
 have q1:=HR9.out.cell 1
 have q2:=HR9.out.cell 2
 have q3:=HR9.out.cell 3
 have q4:=HR9.out.cell 4
 refine bodyPost_ret (v:=.tuple #[.agg #[.int .i64 0,.int .i64 0,.int .i64 0,.int .i64 0,.int .i64 0],.bool false,.int .i64 er]) ?_ rfl ⟨rfl,H9.out⟩
 simp only[List.getElem?_cons_zero,List.getElem?_cons_succ]at q0 q1 q2 q3 q4
 simp[results,Tryz.results41,go_sem,q0,q1,q2,q3,q4]
theorem fnext_end{w:World}{p:Wp}{sz x:Nat}{r:Rt}{ws:List Nat}(hok:RtOk r sz)(hm:RMem w x p r sz ws)(hpos:r.pos=r.count):Calls Tryz.prog 41 #[.pointer (some ⟨x,0,none⟩)] w fun e w'=>e=.returned (.tuple #[.agg #[.int .i64 0,.int .i64 0,.int .i64 0,.int .i64 0,.int .i64 0],.bool false,.int .i64 0])∧Below w.heap.size w w':=by
 have hsz:=hok.sz
 have HB:Hid (Below w.heap.size w (w.alloc (.cells #[.int .i64 0,.int .i64 0,.int .i64 0,.int .i64 0,.int .i64 0] 56))):=(Below.refl w.heap.size w).alloc (Nat.le_refl _) _
 have hm0:=hm.below HB.out
 have hc:=rclosed_any hm0.row hm0.buf
 rw[decide_eq_true (show 0<sz by omega)]at hc
 have HC:=Lib.hid hc
 have hr0:Row (w.alloc (.cells #[.int .i64 0,.int .i64 0,.int .i64 0,.int .i64 0,.int .i64 0] 56)) w.heap.size 56 [.int .i64 0,.int .i64 0,.int .i64 0,.int .i64 0,.int .i64 0]:=heap_alloc_new _ _
 have HR:=Lib.hid hr0
 have c7:(w.alloc (.cells #[.int .i64 0,.int .i64 0,.int .i64 0,.int .i64 0,.int .i64 0] 56)).cell? ⟨x,7,none⟩=some (.int .i64 r.pos):=hm0.row.cell 7
 have c6:(w.alloc (.cells #[.int .i64 0,.int .i64 0,.int .i64 0,.int .i64 0,.int .i64 0] 56)).cell? ⟨x,6,none⟩=some (.int .i64 r.count):=hm0.row.cell 6
 have g3:((r.pos:Int)==(r.count:Int))=true:=by simp;omega
 clear hr0 hc hm hm0 hok hpos
 go_enter Tryz.func41,Tryz.ntmps41
 go_wp2_with fail
 refine HC.out.mono ?_;rintro e w1 ⟨rfl,rfl⟩
 go_wp2
 go_region
 go_wp2
 have q0:=HR.out.cell 0
 have q1:=HR.out.cell 1
 have q2:=HR.out.cell 2
 have q3:=HR.out.cell 3
 have q4:=HR.out.cell 4
 refine bodyPost_ret (v:=.tuple #[.agg #[.int .i64 0,.int .i64 0,.int .i64 0,.int .i64 0,.int .i64 0],.bool false,.int .i64 0]) ?_ rfl ⟨rfl,below_drew HB.out⟩
 simp only[List.getElem?_cons_zero,List.getElem?_cons_succ]at q0 q1 q2 q3 q4
 simp[results,Tryz.results41,go_sem,q0,q1,q2,q3,q4]
section
variable {w : World} {G : Nat → Prop} {p : Wp} {F : Fs} {n x : Nat} {r : Rt} {ws : List Nat}
theorem fnext_err(h:Sys w G p F n)(hn:n<1000000)(hok:RtOk r F.D.size)(hm:RMem w x p r F.D.size ws)(ho:ROut G x r)(hst:wordsAt F.A.st r.b=some F.D.size)(hpos:r.pos<r.count)(hmid:r.pos%r.h=0)(he:(read F.D ((r.first+r.pos/r.h:Nat):Int)).1≠0):
  Calls Tryz.prog 41 #[.pointer (some ⟨x,0,none⟩)] w fun e w'=>e=.returned (.tuple #[.agg #[.int .i64 0,.int .i64 0,.int .i64 0,.int .i64 0,.int .i64 0],.bool false,.int .i64 (read F.D ((r.first+r.pos/r.h:Nat):Int)).1])∧NEnd w G x p {F with D:=(read F.D ((r.first+r.pos/r.h:Nat):Int)).2} (n+1) r w':=
 fnext_bad h hok hm ho hst hpos (ws1:=ws) he (now_read F.D _ 0).2.1 rfl hmid fun _ hb=>rblk_err (h.below hb) hn hok (hm.below hb) ho hpos he
end
structure RHold (D:St) (r:Rt) (l:List Tup) (ws:List Nat):Prop where
 stands:StandsTo D r.first r.k r.h l (blocksN r.h r.count)
 cnt:l.length=r.count
 ok:∀t∈l,TupOk t∧fitsT r.k t=true
 buf:r.pos%r.h≠0→ws.take (min r.h (r.count-r.pos/r.h*r.h)*r.k)=payT r.h r.k l (r.pos/r.h)
section
variable {r : Rt} {l : List Tup} {ws : List Nat} {sz : Nat}
theorem buf_tup(hk:r.k≤5)(hh:0<r.h)(hpos:r.pos<r.count)(hc:l.length=r.count)(hb:ws.take (min r.h (r.count-r.pos/r.h*r.h)*r.k)=payT r.h r.k l (r.pos/r.h)){t:Tup}(ht:l[r.pos]?=some t)(hok:TupOk t)(hf:fitsT r.k t=true):tupAt r ws=t:=by
 have hm:=Nat.mod_lt r.pos hh
 have hdm:=Nat.div_add_mod r.pos r.h
 rw[Nat.mul_comm]at hdm
 obtain⟨j,hj⟩:∃j,j=r.pos/r.h:=⟨_,rfl⟩
 rw[←hj]at hb hdm
 have hq:r.pos%r.h<min r.h (r.count-j*r.h):=by omega
 have hqk:r.pos%r.h*r.k+r.k≤min r.h (r.count-j*r.h)*r.k:=by
  have:=Nat.mul_le_mul_right r.k (show r.pos%r.h+1≤min r.h (r.count-j*r.h)by omega)
  rw[Nat.add_mul,Nat.one_mul]at this;exact this
 have e1:(ws.drop (r.pos%r.h*r.k)).take r.k=((ws.take (min r.h (r.count-j*r.h)*r.k)).drop (r.pos%r.h*r.k)).take r.k:=by
  rw[List.drop_take,List.take_take,Nat.min_eq_left (by omega)]
 unfold tupAt
 rw[e1,hb]
 unfold payT
 have h2:((l.drop (j*r.h)).take r.h)[r.pos%r.h]?=some t:=by
  rw[List.getElem?_take,if_pos hm,List.getElem?_drop,show j*r.h+r.pos%r.h=r.pos by omega];exact ht
 rw[flatT_at hk h2]
 exact tupOf_back hk hok hf
end
def nextD(D:St)(r:Rt):St:=if r.pos%r.h=0 then (read D ((r.first+r.pos/r.h:Nat):Int)).2 else D
def tupC(t:Tup):List Value:=[.int .i64 t.a,.int .i64 t.b,.int .i64 t.c,.int .i64 t.d,.int .i64 t.e]
def flatV(l:List Tup):List Value:=l.flatMap tupC
theorem flatV_len(l:List Tup):(flatV l).length=l.length*5:=by
 unfold flatV
 induction l with
 |nil=>rfl
 |cons e l ih=>rw[List.flatMap_cons,List.length_append,ih,List.length_cons];show 5+ _= _;omega
theorem flatV_at:∀(l:List Tup) (i:Nat),i<l.length→∀(j:Nat) (u:Value),(tupC (l.getD i tup0))[j]?=some u→(flatV l)[i*5+j]?=some u
 |[],i,h=>by simp at h
 |e::l,0,_=>by
  intro j u h
  have hj:j<(tupC e).length:=(List.getElem?_eq_some_iff.1 h).1
  show (tupC e++flatV l)[0*5+j]?= _
  rw[Nat.zero_mul,Nat.zero_add,List.getElem?_append_left hj];exact h
 |e::l,i+1,hi=>by
  intro j u h
  show (tupC e++flatV l)[(i+1)*5+j]?= _
  rw[List.getElem?_append_right (by show 5≤ _;omega),show (i+1)*5+j-(tupC e).length=i*5+j by show _-5= _;omega]
  exact flatV_at l i (by simpa using hi) j u (by simpa using h)
theorem getD_memT{l:List Tup}{i:Nat}(h:i<l.length):l.getD i tup0∈l:=by
 rw[List.getD_eq_getElem?_getD,List.getElem?_eq_getElem h];exact List.getElem_mem h
def ReadsT(w:World)(B:Nat)(a:Option Addr)(n:Nat)(l:List Tup):Prop:=
 l.length=n∧(∀e∈l,TupOk e)∧(0<n→∃b off,a=some ⟨b,off,none⟩∧b<B∧∀(i:Nat),i<n→∀(j:Nat) (u:Value),(tupC (l.getD i tup0))[j]?=some u→w.cell? ⟨b,off+i*5+j,none⟩=some u)
section
variable {w w' : World} {B : Nat} {a : Option Addr} {n : Nat} {l : List Tup}
theorem ReadsT.keep(h:ReadsT w B a n l)(hb:Below B w w'):ReadsT w' B a n l:=by
 obtain⟨hl,hw,hc⟩:=h
 refine⟨hl,hw,fun hn=>?_⟩
 obtain⟨b,off,rfl,hbB,hc⟩:=hc hn
 exact⟨b,off,rfl,hbB,fun i hi j u hj=>(hb.cell (p:=⟨b,off+i*5+j,none⟩) hbB).trans (hc i hi j u hj)⟩
theorem ReadsT.mono{B':Nat}(h:ReadsT w B a n l)(hb:B≤B'):ReadsT w B' a n l:=by
 obtain⟨hl,hw,hc⟩:=h
 refine⟨hl,hw,fun hn=>?_⟩
 obtain⟨b,off,rfl,hbB,hc⟩:=hc hn
 exact⟨b,off,rfl,by omega,hc⟩
theorem ReadsT.drewN(h:ReadsT w B a n l)(m:Nat):ReadsT (w.drewN m) B a n l:=h
theorem ReadsT.nil(w:World)(B:Nat)(a:Option Addr):ReadsT w B a 0 []:=⟨rfl,by simp,fun h=>absurd h (by omega)⟩
theorem ReadsT.far{F:Nat→Prop}(h:ReadsT w B a n l)(hB:B≤w.heap.size)(hf:Far F w w')(hF:0<n→∀b off,a=some ⟨b,off,none⟩→¬F b):ReadsT w' B a n l:=by
 obtain⟨hl,hw,hc⟩:=h
 refine⟨hl,hw,fun hn=>?_⟩
 obtain⟨b,off,hA,hbB,hc⟩:=hc hn
 refine⟨b,off,hA,hbB,fun i hi j u hj=>?_⟩
 have h1:=hf.block b (by omega) (hF hn b off hA)
 have h2:w'.cell? ⟨b,off+i*5+j,none⟩=w.cell? ⟨b,off+i*5+j,none⟩:=by simp only[World.cell?,h1]
 exact h2.trans (hc i hi j u hj)
theorem ReadsT.at_(h:ReadsT w B a n l){i:Nat}(hi:i<n):∃b off t,a=some ⟨b,off,none⟩∧b<B∧w.cell? ⟨b,off+i*5,none⟩=some (.int .i64 t.a)∧w.cell? ⟨b,off+i*5+1,none⟩=some (.int .i64 t.b)∧w.cell? ⟨b,off+i*5+2,none⟩=some (.int .i64 t.c)∧
  w.cell? ⟨b,off+i*5+3,none⟩=some (.int .i64 t.d)∧w.cell? ⟨b,off+i*5+4,none⟩=some (.int .i64 t.e)∧TupOk t∧Hid (l[i]?=some t):=by
 obtain⟨hl,hw,hc⟩:=h
 obtain⟨b,off,rfl,hb,hc⟩:=hc (by omega)
 refine⟨b,off,l.getD i tup0,rfl,hb,hc i hi 0 _ rfl,hc i hi 1 _ rfl,hc i hi 2 _ rfl,hc i hi 3 _ rfl,hc i hi 4 _ rfl,hw _ (getD_memT (by omega)),?_⟩
 show l[i]?=some (l.getD i tup0)
 rw[List.getD_eq_getElem?_getD,List.getElem?_eq_getElem (by omega)];rfl
end
theorem ownT_reads{w:World}{base:Nat}{t:TypeId}{v:Value}{n:Nat}{l:List Tup}(h:w.ownsRow base t 5 v n (flatV l))(hw:∀e∈l,TupOk e):∃A c,v=.slice A n c∧ReadsT w w.heap.size A n l∧l.length=n∧c≤maxLen∧n≤c∧(0<n→∀b off,A=some ⟨b,off,none⟩→base≤b):=by
 obtain⟨hl,h2⟩:=h
 have hl':l.length=n:=by rw[flatV_len]at hl;omega
 rcases h2 with⟨rfl,rfl⟩|⟨g,cap,cur,rfl,hg,hh,hcap,hm,hs,ht⟩
 ·exact⟨none,0,rfl,⟨hl',hw,fun h=>absurd h (by omega)⟩,hl',by unfold maxLen;omega,Nat.le_refl _,fun h=>absurd h (by omega)⟩
 ·refine⟨some ⟨g,0,none⟩,cap,rfl,⟨hl',hw,fun _=>⟨g,0,rfl,?_,fun i hi j u hj=>?_⟩⟩,hl',hm,hcap,fun _ b off e=>?_⟩
  ·exact lt_of_some hh
  ·have h3:w.cell? ⟨g,0+i*5+j,none⟩=cur[0+i*5+j]?:=by simp[World.cell?,hh]
   rw[h3,Nat.zero_add]
   have hj5:j<5:=(List.getElem?_eq_some_iff.1 hj).1
   have h4:(cur.toList.take (n*5))[i*5+j]?=cur.toList[i*5+j]?:=by rw[List.getElem?_take,if_pos (by omega)]
   rw[ht,flatV_at l i (by omega) j u hj]at h4
   rw[←Array.getElem?_toList];exact h4.symm
  ·injection e with e;injection e with e _;subst e;exact hg
theorem ownT_keep{w w':World}{base:Nat}{e:TypeId}{s n:Nat}{v:Value}{xs:List Value}(h:w.ownsRow base e s v n xs)(hb:Below w.heap.size w w'):w'.ownsRow base e s v n xs:=
 ownsRow_same h fun k hk=>hb.block k (h.lt k hk).2
structure Wrote (D D':St) (m:Nat):Prop where
 size:D'.size=D.size
 blocks:D'.blocks=D.blocks
 acts:D'.acts=D.acts+m
 calm:Calm D→Calm D'
 alive:D.down=false∧D.fb=false→D'.down=false∧D'.fb=false
theorem Wrote.refl(D:St):Wrote D D 0:=⟨rfl,rfl,by simp,id,id⟩
theorem Wrote.trans{D D1 D2:St}{m n:Nat}(h:Wrote D D1 m)(k:Wrote D1 D2 n):Wrote D D2 (m+n):=
 ⟨k.size.trans h.size,k.blocks.trans h.blocks,by rw[k.acts,h.acts];omega,fun hc=>k.calm (h.calm hc),fun ha=>k.alive (h.alive ha)⟩
theorem wrote_begin{s:St}{r:Bool}(h:(begin s r).1=0):Wrote s (begin s r).2 1:=by
 unfold begin at h⊢
 split at h
 ·exact absurd h (by omega)
 ·rename_i h1
  split at h
  ·exact absurd h (by omega)
  ·rename_i h2
   split at h
   ·exact absurd h (by omega)
   ·rename_i h3
    dsimp only at h
    split at h
    ·exact absurd h (by omega)
    ·rename_i h4
     rw[if_neg h1,if_neg h2,if_neg h3]
     dsimp only
     rw[if_neg h4]
     exact⟨rfl,rfl,rfl,fun hc=>⟨hc.1,hc.2.1,hc.2.2⟩,fun ha=>ha⟩
theorem wrote_write{s:St}{i:Int}{l:List Nat}(h:(write s i l).1=0):Wrote s (write s i l).2 1:=by
 unfold write at h⊢
 dsimp only at h⊢
 by_cases hb:(begin s (right s i&&decide (l.length=s.size))).1=0
 ·rw[if_pos hb]
  have k:=wrote_begin hb
  exact⟨k.size,k.blocks,k.acts,fun hc=>k.calm hc,fun ha=>k.alive ha⟩
 ·rw[if_neg hb]at h;exact absurd h hb
theorem wrote_read{s:St}{i:Int}(h:(read s i).1=0):Wrote s (read s i).2 1:=wrote_begin h
def WStand(D:St)(t:Wt):Prop:=StandsTo D t.first t.k t.h t.l (t.l.length/t.h)
section
variable {D : St} {t : Wt} {tu : Tup}
theorem wstand_nil(h:t.l=[]):WStand D t:=by
 intro j hj
 rw[h]at hj;simp at hj
theorem snoc_len(t:Wt)(tu:Tup):(t.snoc tu).l.length=t.l.length+1:=by show (t.l++[tu]).length= _;simp
theorem div_succ_ne{c h:Nat}(hh:0<h)(h0:(c+1)%h≠0):(c+1)/h=c/h:=by
 have h1:=Nat.div_add_mod (c+1) h
 have h2:=Nat.div_add_mod c h
 have h3:=Nat.mod_lt (c+1) hh
 have h4:=Nat.mod_lt c hh
 have a1:¬(c+1)/h<c/h:=fun hlt=>by
  have:=Nat.mul_le_mul_left h (show (c+1)/h+1≤c/h from hlt)
  rw[Nat.mul_add,Nat.mul_one]at this;omega
 have a2:¬c/h<(c+1)/h:=fun hlt=>by
  have:=Nat.mul_le_mul_left h (show c/h+1≤(c+1)/h from hlt)
  rw[Nat.mul_add,Nat.mul_one]at this;omega
 omega
theorem div_succ_eq{c h:Nat}(_hh:0<h)(h0:(c+1)%h=0):(c+1)/h=c/h+1:=by
 have:=Nat.succ_div_of_mod_eq_zero (a:=c) (b:=h) h0
 exact this
theorem stands_more{D:St}{first k h m:Nat}{l l':List Tup}(hs:StandsTo D first k h l m)(hm:m*h≤l.length):StandsTo D first k h (l++l') m:=by
 intro j hj
 rw[hs j hj,pay_more (Nat.le_trans (Nat.mul_le_mul_right h (show j+1≤m from hj)) hm)]
theorem wstand_buf(hok:0<t.h)(h:WStand D t)(h0:(t.l.length+1)%t.h≠0):WStand D (t.snoc tu):=by
 unfold WStand
 rw[snoc_len]
 show StandsTo D t.first t.k t.h (t.l++[tu]) ((t.l.length+1)/t.h)
 rw[div_succ_ne hok h0]
 exact stands_more h (Nat.div_mul_le_self _ _)
theorem stands_last(hk:0<t.h)(hl:0<t.l.length)(h0:(write D (lastAd t:Nat) (lastW8 D.size t)).1=0)(hs:StandsTo D t.first t.k t.h t.l (blocksN t.h t.l.length-1)):StandsTo (write D (lastAd t:Nat) (lastW8 D.size t)).2 t.first t.k t.h t.l (blocksN t.h t.l.length):=by
 obtain⟨h1,h2,h3,_⟩:=now_write h0
 have hbp:=blocks_pos hk hl
 intro j hj
 by_cases hj2:j=blocksN t.h t.l.length-1
 ·subst hj2
  show (write D (lastAd t:Nat) (lastW8 D.size t)).2.now ((lastAd t:Nat):Int)= _
  rw[h1,h3]
  unfold lastW8
  rw[pay_last hk hl];rfl
 ·rw[h2 _ (by unfold lastAd;omega),h3];exact hs j (by omega)
theorem wstand_put(hk:0<t.h)(h:WStand D t)(h0:(t.l.length+1)%t.h=0)(hw:(write D (lastAd (t.snoc tu):Nat) (lastW8 D.size (t.snoc tu))).1=0):WStand (write D (lastAd (t.snoc tu):Nat) (lastW8 D.size (t.snoc tu))).2 (t.snoc tu):=by
 have hb:blocksN t.h (t.snoc tu).l.length=(t.snoc tu).l.length/t.h:=by
  rw[snoc_len];exact blocks_full h0
 unfold WStand
 have:=stands_last (t:=t.snoc tu) (D:=D) hk (by rw[snoc_len];omega) hw (by
  show StandsTo D t.first t.k t.h (t.l++[tu]) (blocksN t.h (t.snoc tu).l.length-1)
  rw[hb,snoc_len,div_succ_eq hk h0,Nat.add_sub_cancel]
  exact stands_more h (Nat.div_mul_le_self _ _))
 show StandsTo _ t.first t.k t.h (t.snoc tu).l ((t.snoc tu).l.length/t.h)
 rw[←hb];exact this
theorem wstand_full(h:WStand D t)(h0:t.l.length%t.h=0):StandsTo D t.first t.k t.h t.l (blocksN t.h t.l.length):=by rw[blocks_full h0];exact h
theorem wstand_close(hk:0<t.h)(h:WStand D t)(h0:t.l.length%t.h≠0)(hw:(write D (lastAd t:Nat) (lastW8 D.size t)).1=0):StandsTo (write D (lastAd t:Nat) (lastW8 D.size t)).2 t.first t.k t.h t.l (blocksN t.h t.l.length):=by
 have hl:0<t.l.length:=by
  rcases Nat.eq_zero_or_pos t.l.length with h1|h1
  ·rw[h1]at h0;simp at h0
  ·exact h1
 refine stands_last hk hl hw ?_
 have:blocksN t.h t.l.length-1=t.l.length/t.h:=by unfold blocksN;rw[if_pos (by omega),Nat.add_sub_cancel]
 rw[this];exact h
theorem last_in(hok:WtOk t D.size)(hl:0<t.l.length):t.first≤lastAd t∧lastAd t<t.first+t.blocks:=by
 have h1:=blocks_pos hok.h.1 hl
 have h2:=blocks_mono (h:=t.h) hok.h.1 hok.bound.2
 have h3:=hok.blocks.1
 unfold lastAd;omega
theorem last_right(hok:WtOk t D.size)(hl:0<t.l.length)(hin:((t.first+t.blocks:Nat):Int)≤D.blocks):right D (lastAd t:Nat)=true:=by
 have:=last_in hok hl
 unfold right;simp;omega
theorem last_len(hok:WtOk t D.size)(hl:0<t.l.length):(lastW8 D.size t).length=D.size:=by
 have hsz:=hok.sz
 have h1:=(lastT_len (l:=t.l) hok.h.1 hl).1
 unfold lastW8
 refine seal_len ?_ (by omega)
 rw[flatT_len hok.k.2]
 exact Nat.le_trans (Nat.mul_le_mul_right _ h1) hok.h.2.1
end
theorem wordsAt_new:∀(l:List (Nat×Nat)) (x n:Nat),(∀q∈l,q.1≠x)→wordsAt (l++[(x,n)]) x=some n
 |[],x,n,_=>by simp[wordsAt]
 |q::l,x,n,h=>by
  have h1:=h q List.mem_cons_self
  have h2:=wordsAt_new l x n fun q hq=>h q (List.mem_cons_of_mem _ hq)
  simp[wordsAt,h1,h2]
def LayS(F:Fs)(S1:Sp)(b:Nat)(D':St):Fs:=⟨D',grant F.A b F.D.size,S1⟩
def tk(t:Wt)(l:List Tup)(i:Nat):Wt:={t with l:=l.take i}
theorem tk_snoc{t:Wt}{l:List Tup}{i:Nat}{tu:Tup}(h:l[i]?=some tu):(tk t l i).snoc tu=tk t l (i+1):=by
 unfold tk Wt.snoc
 simp only
 rw[List.take_add_one,h];rfl
theorem tk_len{t:Wt}{l:List Tup}{i:Nat}(h:i≤l.length):(tk t l i).l.length=i:=by unfold tk;simp;omega
structure LayOk (w:World) (F:Fs) (n x:Nat) (t:Wt) (S1:Sp) (l:List Tup):Prop where
 n:n+l.length+1≤1000000
 sok:F.S.ok
 taken:Taken F.S S1 t.first t.blocks
 blocks:t.blocks=blocksN t.h l.length
 ok:WtOk t F.D.size
 bound:t.bound=l.length
 x:w.heap.size≤x
 b:w.heap.size≤t.b
 g:w.heap.size≤t.g
 st:∀q∈F.A.st,q.1<w.heap.size
section
variable {w wr : World} {G : Nat → Prop} {p : Wp} {F : Fs} {n x : Nat} {t : Wt} {S1 : Sp} {l : List Tup} {i : Nat}
theorem LayOk.tk(hk:LayOk w F n x t S1 l){i:Nat}(hi:i≤l.length):WtOk (tk t l i) F.D.size:=⟨hk.ok.k,hk.ok.h,hk.ok.sz,⟨hk.ok.bound.1,by rw[tk_len hi];show i≤t.bound;rw[hk.bound];exact hi⟩,hk.ok.blocks,hk.ok.first⟩
theorem LayOk.words(hk:LayOk w F n x t S1 l)(D':St):wordsAt (LayS F S1 t.b D').A.st t.b=some F.D.size:=
 wordsAt_new _ _ _ fun q hq e=>by have:=hk.st q hq;have:=hk.b;omega
end
def tr(r:Rt)(i:Nat):Rt:={r with pos:=i}
def LisAt(w:World)(G:Nat→Prop)(p:Wp)(F:Fs)(n x:Nat)(r:Rt)(l:List Tup)(base pos cnt:Nat)(v:Value)(wr:World):Prop:=
 ∃G' D' ws,Sys wr G' p (LayS F F.S r.b D') (n+pos)∧RMem wr x p (tr r pos) F.D.size ws∧ROut G' x (tr r pos)∧Far G w wr∧(∀k,G' k→G k∨w.heap.size≤k)∧Wrote F.D D' (blocksN r.h pos)∧(∀i,D'.now i=F.D.now i)∧RHold D' (tr r pos) l ws∧
  wr.ownsRow base 56 5 v cnt (flatV (l.take cnt))∧(∀k,v.ownBlock=some k→¬G' k)∧base≤wr.heap.size
structure LisOk (w:World) (F:Fs) (n x:Nat) (r:Rt) (l:List Tup) (base:Nat):Prop where
 n:n+r.count+1≤1000000
 ok:RtOk {r with pos:=0} F.D.size
 blocks:r.blocks=blocksN r.h r.count
 hx:w.heap.size≤x
 hb:w.heap.size≤r.b
 hg:w.heap.size≤r.g
 st:∀q∈F.A.st,q.1<w.heap.size
 hbase:x<base∧r.b<base∧r.g<base
section
variable {w wr : World} {G : Nat → Prop} {p : Wp} {F : Fs} {n x : Nat} {r : Rt} {l : List Tup} {base pos cnt : Nat} {v : Value}
theorem LisOk.at_(hk:LisOk w F n x r l base)(hp:pos≤r.count):RtOk (tr r pos) F.D.size:=⟨hk.ok.k,hk.ok.h,hk.ok.sz,⟨hk.ok.count.1,hp⟩,hk.ok.first⟩
theorem LisOk.words(hk:LisOk w F n x r l base)(D':St):wordsAt (LayS F F.S r.b D').A.st r.b=some F.D.size:=
 wordsAt_new _ _ _ fun q hq e=>by have:=hk.st q hq;have:=hk.hb;omega
theorem LisAt.below(h:LisAt w G p F n x r l base pos cnt v wr){W:World}(hb:Below wr.heap.size wr W):LisAt w G p F n x r l base pos cnt v W:=by
 obtain⟨G',D',ws,h1,h2,h3,h4,h5,h6,h7,h8,h9,h10,h11⟩:=h
 exact⟨G',D',ws,h1.below hb,h2.below hb,h3,h4.trans (Far.of_below hb fun _=>False) fun _ hf=>hf.elim,h5,h6,h7,h8,ownT_keep h9 hb,h10,Nat.le_trans h11 hb.size⟩
theorem blocks_next{h i:Nat}(hh:0<h):blocksN h (i+1)=if i%h=0 then blocksN h i+1 else blocksN h i:=by
 have h1:=(blocks_succ (c:=i) hh).2.2
 have h2:=blocks_pos (c:=i+1) hh (by omega)
 by_cases h0:i%h=0
 ·rw[if_pos h0,blocks_full h0];omega
 ·rw[if_neg h0]
  unfold blocksN at h1 h2⊢
  rw[if_pos (show 0<i%h by omega)]
  omega
end
theorem addr_add0(b j:Nat):(⟨b,0,none⟩:Addr).add j=⟨b,j,none⟩:=by unfold Addr.add;split<;>simp_all
theorem sys_mk{wd wa ws:World}{d a s n:Nat}{D:St}{A:Ar}{S:Sp}{Gd Ga Gs:Nat→Prop}(hd:Dev wd Gd d D n)(hb1:Below wd.heap.size wd wa)(ha:Arn wa Ga a A)(hga:∀k,Ga k→wd.heap.size≤k)(hst:A.st=[])(hb2:Below wa.heap.size wa ws)(hs:Spc ws Gs s S)(hgs:∀k,Gs k→wa.heap.size≤k):
  Sys (ws.alloc (.cells #[ptr d,ptr a,ptr s] 83)) (fun k=>k=ws.heap.size∨Gd k∨Ga k∨Gs k) ⟨ws.heap.size,d,a,s⟩ ⟨D,A,S⟩ n:=by
 have hb3:Below ws.heap.size ws (ws.alloc (.cells #[ptr d,ptr a,ptr s] 83)):=(Below.refl _ _).alloc (Nat.le_refl _) _
 have z1:=hb1.size
 have z2:=hb2.size
 refine⟨Gd,Ga,Gs,heap_alloc_new _ _,((hd.below hb1).below (hb2.mono (Nat.le_refl _))).below hb3,?_,?_,fun k=>Iff.rfl,fun k hk=>⟨fun h=>?_,fun h=>?_,fun h=>?_⟩,fun k hk=>⟨fun h=>?_,fun h=>?_⟩,fun k hk h=>?_,fun q hq=>?_⟩
 ·exact(ha.far (Far.of_below hb2 fun _=>False) (fun _ _ h=>h) (fun _ _ h=>h)).far (Far.of_below hb3 fun _=>False) (fun _ _ h=>h) (fun _ _ h=>h)
 ·exact hs.below hb3
 ·have:=hd.lt hk;have:=hga k h;omega
 ·have:=hd.lt hk;have:=hgs k h;omega
 ·have:=hd.lt hk;simp only at h;omega
 ·have:=ha.lt hk;have:=hgs k h;omega
 ·have:=ha.lt hk;simp only at h;omega
 ·have:=hs.lt hk;simp only at h;omega
 ·rw[show (⟨D,A,S⟩:Fs).A.st=[]from hst]at hq;cases hq
theorem small_ok{t:Tup}(h:∀x∈t.cols,0≤x∧x≤1000):TupOk t:=fun x hx=>I64.of (by have:=h x hx;omega) (by have:=h x hx;omega)
theorem newsp_room{m n:Nat}(h:m≤n):roomB (newSp 0 n) 0 m:=by
 intro b _ hb
 unfold newSp
 simp only
 rw[if_neg (by omega)]
 exact⟨(0,n),by simp,by simp,by simp;omega⟩
instance tupDec : DecidableEq Tup := fun a b => decidable_of_iff (a.cols = b.cols) ⟨fun h => Tup.ext_cols h, fun h => h ▸ rfl⟩
section
variable {H : Type} {enc : TypeId × Value → H} {P : Program} {w : World} {base b0 : Nat} {spare : Nat → Bool} {held : Bool} {r : Reach}
theorem open_ints_struct{t i:TypeId}{fs:Array Field}{v:Value}{d:DataW H}{p:List MemPlace}(ht:P.underlying t=some (.struct fs))(hone:oneCellFields P fs=true)(hC:P.cellsOf t=fs.size)(hi:P.underlying i=some (.int .i64))(hall:∀(j:Nat) (f:Field),fs[j]?=some f→f.type=i)
  (hv:Value.okWide P w r b0 t v) (h:DataW.Trod enc P w base spare held t v d p):
  ∃zs:List Int,zs.length=fs.size∧v=.agg (zs.map (Value.int .i64)).toArray∧∀z∈zs,I64 z:=by
 have h0:∃cs,v=.agg cs∧cs.size=P.cellsOf t:=by
  simp only[Value.okWide,ht]at hv
  obtain⟨cs,h1,h2,_⟩:=hv
  exact⟨cs,h1,h2⟩
 obtain⟨cs,rfl,hsz⟩:=h0
 obtain⟨fuel,hf⟩:=h
 have hcells:(Value.agg cs).cells.toList=cs.toList:=by simp[Value.cells]
 rw[hcells]at hf
 obtain⟨ys,n',hn',hy,hlen,hyl,hff⟩:=DataW.trod_struct ht hf
 have hall2:∀j,j<fs.size→∃z,cs[j]?=some (.int .i64 z)∧I64 z:=by
  intro j hj
  have hjf:fs[j]?=some fs[j]:=Array.getElem?_eq_getElem hj
  obtain⟨ho,hk⟩:=hone_of hone j _ hjf
  have h1:=hff j _ hjf
  rw[ho,hk]at h1
  have hjl:j<cs.toList.length:=by simp;omega
  have hone':(cs.toList.drop j).take 1=[cs.toList[j]'hjl]:=by
   rw[List.drop_eq_getElem_cons hjl];rfl
  rw[hone']at h1
  have hys:ys[j]?=some (ys[j]'(by omega)):=List.getElem?_eq_getElem (by omega)
  rw[hall j _ hjf]at h1
  obtain⟨z,hz,_,hw⟩:=DataW.trod_int hi (h1.trans hys)
  injection hz with hz
  exact⟨z,by rw[←Array.getElem?_toList,List.getElem?_eq_getElem hjl,hz],hw⟩
 have hall3:∀c∈cs.toList,c=.int .i64 (intOf c)∧I64 (intOf c):=by
  intro c hc
  obtain⟨j,hj,rfl⟩:=List.getElem_of_mem hc
  obtain⟨z,hz,hw⟩:=hall2 j (by simp at hj;omega)
  rw[←Array.getElem?_toList,List.getElem?_eq_getElem hj]at hz
  injection hz with hz
  rw[hz];exact⟨rfl,hw⟩
 refine⟨cs.toList.map intOf,by rw[List.length_map];simp;omega,?_,?_⟩
 ·congr 1
  apply Array.ext'
  rw[List.map_map]
  have e1:∀l:List Value,(∀c∈l,c=.int .i64 (intOf c)∧I64 (intOf c))→l=l.map (Value.int .i64∘intOf):=by
   intro l
   induction l with
   |nil=>intro _;rfl
   |cons c l ih=>intro h;rw[List.map_cons,←ih fun x hx=>h x (by simp[hx])];congr 1;exact(h c (by simp)).1
  exact e1 _ hall3
 ·intro z hz
  obtain⟨c,hc,rfl⟩:=List.mem_map.1 hz
  exact(hall3 c hc).2
theorem open_struct4{t i:TypeId}{f0 f1 f2 f3:Field}{v:Value}{d:DataW H}{p:List MemPlace}(ht:P.underlying t=some (.struct #[f0,f1,f2,f3]))(hone:oneCellFields P #[f0,f1,f2,f3]=true)(hC:P.cellsOf t=4)(hi:P.underlying i=some (.int .i64))(h0:f0.type=i)(h1:f1.type=i)(h2:f2.type=i)(h3:f3.type=i)
  (hv:Value.okWide P w r b0 t v) (h:DataW.Trod enc P w base spare held t v d p):
  ∃x y z u:Int,v=.agg #[.int .i64 x,.int .i64 y,.int .i64 z,.int .i64 u]∧I64 x∧I64 y∧I64 z∧I64 u:=by
 obtain⟨zs,hl,rfl,hw⟩:=open_ints_struct ht hone hC hi (fun j f hj=>by
  match j,hj with
  |0,hj=>simp at hj;rw[←hj];exact h0
  |1,hj=>simp at hj;rw[←hj];exact h1
  |2,hj=>simp at hj;rw[←hj];exact h2
  |3,hj=>simp at hj;rw[←hj];exact h3
  |j+4,hj=>simp at hj) hv h
 match zs,hl,hw with
 |[x,y,z,u],_,hw=>exact⟨x,y,z,u,rfl,hw x (by simp),hw y (by simp),hw z (by simp),hw u (by simp)⟩
end
def Base(w0:World)(p:Wp)(F:Fs)(n:Nat)(rs:List (Nat×TypeId×List Value))(W:World):Prop:=
 ∃G,Sys W G p F n∧(∀k,G k→w0.heap.size≤k)∧Below w0.heap.size w0 W∧∀r∈rs,Row W r.1 r.2.1 r.2.2∧¬G r.1∧r.2.1≠132
section
variable {w0 W : World} {p : Wp} {F : Fs} {n : Nat} {rs : List (Nat × TypeId × List Value)}
theorem Base.size(h:Base w0 p F n rs W):w0.heap.size≤W.heap.size:=by obtain⟨G,_,_,h,_⟩:=h;exact h.size
theorem Base.bel(h:Base w0 p F n rs W):Below w0.heap.size w0 W:=by obtain⟨G,_,_,h,_⟩:=h;exact h
theorem Base.sok(h:Base w0 p F n rs W):F.S.ok:=by obtain⟨G,h,_⟩:=h;exact h.sok
theorem Base.below(h:Base w0 p F n rs W){W':World}(hb:Below W.heap.size W W'):Base w0 p F n rs W':=by
 obtain⟨G,h1,h2,h3,h4⟩:=h
 exact⟨G,h1.below hb,h2,h3.trans (hb.mono h3.size),fun r hr=>⟨(h4 r hr).1.below hb (h4 r hr).1.lt,(h4 r hr).2⟩⟩
theorem Base.row(h:Base w0 p F n rs W){r:Nat×TypeId×List Value}(hr:r∈rs):Row W r.1 r.2.1 r.2.2:=by obtain⟨G,_,_,_,h4⟩:=h;exact(h4 r hr).1
theorem Base.call(h:Base w0 p F n rs W){f:FuncId}{args:Array Value}{A:Ending→Prop}{F':Fs}{n':Nat}(hc:∀G,Sys W G p F n→(∀k,G k→w0.heap.size≤k)→Calls Tryz.prog f args W fun e w'=>A e∧SysTo W G p F' n' w'):
  Calls Tryz.prog f args W fun e w'=>A e∧Base w0 p F' n' rs w':=by
 obtain⟨G,h1,h2,h3,h4⟩:=id h
 refine(hc G h1 h2).mono ?_
 rintro e w' ⟨ha,k⟩
 refine⟨ha,?_⟩
 obtain⟨G',k1,k2,k3,k4⟩:=k.apart
 have z:=h3.size
 exact⟨G',k1,fun k hk=>(k3 k hk).elim (h2 k) fun h=>by omega,h3.trans (k2.below z fun k hk=>h2 k hk),fun r hr=>⟨k2.row (h4 r hr).1 (h4 r hr).2.1,k4 _ (h4 r hr).1.lt (h4 r hr).2.1,(h4 r hr).2.2⟩⟩
theorem Base.alloc(h:Base w0 p F n rs W)(t:TypeId)(ht:t≠132)(cs:Array Value):Base w0 p F n ((W.heap.size,t,cs.toList)::rs) (W.alloc (.cells cs t)):=by
 have hb:Below W.heap.size W (W.alloc (.cells cs t)):=(Below.refl _ _).alloc (Nat.le_refl _) _
 obtain⟨G,h1,h2,h3,h4⟩:=h
 refine⟨G,h1.below hb,h2,h3.trans (hb.mono h3.size),fun r hr=>?_⟩
 rcases List.mem_cons.1 hr with rfl|hr
 ·exact⟨heap_alloc_new _ _,fun hg=>Nat.lt_irrefl _ (h1.lt hg),ht⟩
 ·exact⟨(h4 r hr).1.below hb (h4 r hr).1.lt,(h4 r hr).2⟩
end
theorem taken_sum{S S1:Sp}{a m:Nat}(ht:Taken S S1 a m):sumB S1.fr+m=sumB S.fr:=by
 rcases ht with⟨rfl,_,rfl⟩|⟨hm,ht,_⟩
 ·rfl
 ·exact ht.sum
theorem fnext_part{w:World}{G:Nat→Prop}{p:Wp}{F:Fs}{n x:Nat}{r:Rt}{ws:List Nat}{l:List Tup}(h:Sys w G p F n)(hn:n<1000000)(hok:RtOk r F.D.size)(hm:RMem w x p r F.D.size ws)(ho:ROut G x r)(hc:l.length=r.count)(hpos:r.pos<r.count)
  (hblk:r.pos%r.h=0→(read F.D ((r.first+r.pos/r.h:Nat):Int)).1=0∧F.D.now ((r.first+r.pos/r.h:Nat):Int)=sealW F.D.size (r.first+r.pos/r.h) r.k (payT r.h r.k l (r.pos/r.h)))
  (hbuf:r.pos%r.h≠0→ws.take (min r.h (r.count-r.pos/r.h*r.h)*r.k)=payT r.h r.k l (r.pos/r.h)) {t:Tup} (ht:l[r.pos]?=some t) (hto:TupOk t) (htf:fitsT r.k t=true):
  Calls Tryz.prog 41 #[.pointer (some ⟨x,0,none⟩)] w fun e w'=>e=.returned (.tuple #[.agg #[.int .i64 t.a,.int .i64 t.b,.int .i64 t.c,.int .i64 t.d,.int .i64 t.e],.bool true,.int .i64 0])∧
   ∃ws',NextTo w G p {F with D:=nextD F.D r} (n+1) x {r with pos:=r.pos+1} ws' w'∧ws'.take (min r.h (r.count-r.pos/r.h*r.h)*r.k)=payT r.h r.k l (r.pos/r.h):=by
 unfold nextD
 have hsz:=hok.sz
 by_cases hmid:r.pos%r.h=0
 ·rw[if_pos hmid]
  obtain⟨he,hs⟩:=hblk hmid
  have hpl:(payT r.h r.k l (r.pos/r.h)).length=min r.h (r.count-r.pos/r.h*r.h)*r.k:=by rw[pay_words hok.k.2,hc]
  have hle:(payT r.h r.k l (r.pos/r.h)).length≤F.D.size-2:=Nat.le_trans (pay_len hok.k.2 l _) hok.h.2.1
  have g1:okW (F.D.now ((r.first+r.pos/r.h:Nat):Int)) (r.first+r.pos/r.h)=true:=by rw[hs];exact seal_ok hle (by omega)
  have g2:tagW (F.D.now ((r.first+r.pos/r.h:Nat):Int))=r.k:=by rw[hs];exact seal_tag hle (by omega)
  have g3:numW (F.D.now ((r.first+r.pos/r.h:Nat):Int))-1=min r.h (r.count-r.pos/r.h*r.h)*r.k:=by rw[hs,seal_num hle (by omega),hpl,Nat.add_sub_cancel]
  have g4:(F.D.now ((r.first+r.pos/r.h:Nat):Int)).take (min r.h (r.count-r.pos/r.h*r.h)*r.k)=payT r.h r.k l (r.pos/r.h):=by rw[hs,←hpl];exact seal_take
  have hsp:(splice ws 0 ((F.D.now ((r.first+r.pos/r.h:Nat):Int)).take (min r.h (r.count-r.pos/r.h*r.h)*r.k))).take (min r.h (r.count-r.pos/r.h*r.h)*r.k)=payT r.h r.k l (r.pos/r.h):=by
   rw[g4];unfold splice
   rw[List.take_zero,List.nil_append,List.take_left' hpl]
  have hcl:=fnext_good h hok hm ho hpos (now_read F.D ((r.first+r.pos/r.h:Nat):Int) 0).2.1 hmid fun W hb=>rblk_good (h.below hb) hn hok (hm.below hb) ho hpos he g1 g2 g3
  rw[buf_tup hok.k.2 hok.h.1 hpos hc hsp ht hto htf]at hcl
  exact hcl.mono fun e w' ⟨h1,h2⟩=>⟨h1,_,h2,hsp⟩
 ·rw[if_neg hmid]
  have hb:=hbuf hmid
  have hcl:=fnext_mid h hok hm ho hpos hmid
  rw[buf_tup hok.k.2 hok.h.1 hpos hc hb ht hto htf]at hcl
  exact hcl.mono fun e w' ⟨h1,G',k1,k2⟩=>⟨h1,_,⟨G',k1.mono (by omega) (by omega),k2⟩,hb⟩
def RBase(w0:World)(p:Wp)(F:Fs)(n:Nat)(rs:List (Nat×TypeId×List Value))(x:Nat)(r:Rt)(ws:List Nat)(W:World):Prop:=
 ∃G,Sys W G p F n∧(∀k,G k→w0.heap.size≤k)∧Below w0.heap.size w0 W∧(∀q∈rs,Row W q.1 q.2.1 q.2.2∧¬G q.1∧q.2.1≠132∧q.2.1≠133∧q.2.1≠126)∧RMem W x p r F.D.size ws∧ROut G x r∧w0.heap.size≤x∧w0.heap.size≤r.b∧w0.heap.size≤r.g
section
variable {w0 W : World} {p : Wp} {F : Fs} {n x : Nat} {rs : List (Nat × TypeId × List Value)} {r : Rt} {ws : List Nat}
theorem RBase.below(h:RBase w0 p F n rs x r ws W){W':World}(hb:Below W.heap.size W W'):RBase w0 p F n rs x r ws W':=by
 obtain⟨G,h1,h2,h3,h4,h5,h6⟩:=h
 exact⟨G,h1.below hb,h2,h3.trans (hb.mono h3.size),fun q hq=>⟨(h4 q hq).1.below hb (h4 q hq).1.lt,(h4 q hq).2⟩,h5.below hb,h6⟩
theorem RBase.base(h:RBase w0 p F n rs x r ws W):Base w0 p F n rs W:=by
 obtain⟨G,h1,h2,h3,h4,_⟩:=h
 exact⟨G,h1,h2,h3,fun q hq=>⟨(h4 q hq).1,(h4 q hq).2.1,(h4 q hq).2.2.1⟩⟩
theorem RBase.far{W':World}{G:Nat→Prop}(h3:Below w0.heap.size w0 W)(h2:∀k,G k→w0.heap.size≤k)(h4:∀q∈rs,Row W q.1 q.2.1 q.2.2∧¬G q.1∧q.2.1≠132∧q.2.1≠133∧q.2.1≠126)(h5:RMem W x p r F.D.size ws)(h7:w0.heap.size≤x∧w0.heap.size≤r.b∧w0.heap.size≤r.g){R:Nat→Prop}
  (hf:Far R W W') (hR:∀k,R k→G k∨k=x∨k=r.b∨k=r.g):Below w0.heap.size w0 W'∧∀q∈rs,Row W' q.1 q.2.1 q.2.2:=by
 refine⟨h3.trans (hf.below h3.size fun k hk=>?_),fun q hq=>hf.row (h4 q hq).1 fun hk=>?_⟩
 ·rcases hR k hk with h|rfl|rfl|rfl
  ·exact h2 k h
  ·exact h7.1
  ·exact h7.2.1
  ·exact h7.2.2
 ·obtain⟨hr,hg,t1,t2,t3⟩:=h4 q hq
  rcases hR _ hk with h|h|h|h
  ·exact hg h
  ·exact t3 (hr.typed (h▸h5.row))
  ·exact t1 (hr.typed (h▸h5.buf))
  ·exact t2 (hr.typed (h▸h5.words))
theorem RBase.row(h:RBase w0 p F n rs x r ws W){q:Nat×TypeId×List Value}(hq:q∈rs):Row W q.1 q.2.1 q.2.2:=by obtain⟨G,_,_,_,h4,_⟩:=h;exact(h4 q hq).1
theorem RBase.bel(h:RBase w0 p F n rs x r ws W):Below w0.heap.size w0 W:=by obtain⟨G,_,_,h3,_⟩:=h;exact h3
end
theorem wordsAt_append(l:List (Nat×Nat))(x y n m:Nat)(h:wordsAt l x=some n):wordsAt (l++[(y,m)]) x=some n:=by
 induction l with
 |nil=>simp[wordsAt]at h
 |cons q l ih=>
  simp only[List.cons_append,wordsAt]at h⊢
  split
  ·rename_i h1;rw[if_pos h1]at h;exact h
  ·rename_i h1;rw[if_neg h1]at h;exact ih h
theorem wordsAt_without:∀(l:List (Nat×Nat)) (x y n:Nat),wordsAt l x=some n→x≠y→wordsAt (without l y) x=some n
 |[],x,y,n,h,_=>by simp[wordsAt]at h
 |q::l,x,y,n,h,hne=>by
  simp only[wordsAt]at h
  simp only[without]
  by_cases h1:q.1=y
  ·rw[if_pos h1]
   rw[if_neg (by rw[h1];exact fun e=>hne e.symm)]at h;exact h
  ·rw[if_neg h1]
   simp only[wordsAt]
   by_cases h2:q.1=x
   ·rw[if_pos h2]at h⊢;exact h
   ·rw[if_neg h2]at h⊢;exact wordsAt_without l x y n h hne
structure Wok (w0 W:World) (G:Nat→Prop) (p:Wp) (F:Fs) (x:Nat) (t:Wt):Prop where
 ok:WtOk t F.D.size
 mem:WOpen W x p t F.D.size
 out:WOut G x t
 st:wordsAt F.A.st t.b=some F.D.size
 stand:WStand F.D t
 new:w0.heap.size≤x∧w0.heap.size≤t.b∧w0.heap.size≤t.g
 fit:∀u∈t.l,TupOk u∧fitsT t.k u=true
structure Wap (x:Nat) (t:Wt) (x':Nat) (t':Wt):Prop where
 x:x≠x'
 b:t.b≠t'.b
 g:t.g≠t'.g
 ext:∀i,t.first≤i→i<t.first+t.blocks→¬(t'.first≤i∧i<t'.first+t'.blocks)
theorem Wap.symm{x x':Nat}{t t':Wt}(h:Wap x t x' t'):Wap x' t' x t:=⟨h.x.symm,h.b.symm,h.g.symm,fun i h1 h2 h3=>h.ext i h3.1 h3.2 ⟨h1,h2⟩⟩
section
variable {w0 W W' : World} {G G' : Nat → Prop} {p : Wp} {F F' : Fs} {n x : Nat} {t : Wt}
theorem Wok.lt(h:Wok w0 W G p F x t):x<W.heap.size∧t.b<W.heap.size∧t.g<W.heap.size:=by obtain⟨ws,hm,_⟩:=h.mem;exact hm.lt
theorem Wok.keep(h:Wok w0 W G p F x t){R:Nat→Prop}(hf:Far R W W')(hx:¬R x)(hb:¬R t.b)(hg:¬R t.g)(hG:∀k,G' k→G k∨W.heap.size≤k)(hs:F'.D.size=F.D.size)(hn:∀i:Nat,t.first≤i→i<t.first+t.blocks→F'.D.now i=F.D.now i)(hst:wordsAt F'.A.st t.b=some F.D.size):Wok w0 W' G' p F' x t:=by
 obtain⟨l1,l2,l3⟩:=h.lt
 obtain⟨ws,hm,hh⟩:=h.mem
 refine⟨by rw[hs];exact h.ok,⟨ws,by rw[hs];exact hm.far hf hx hb hg,hh⟩,⟨fun k=>(hG _ k).elim h.out.x (Nat.not_le_of_lt l1),fun k=>(hG _ k).elim h.out.b (Nat.not_le_of_lt l2),fun k=>(hG _ k).elim h.out.g (Nat.not_le_of_lt l3)⟩,by rw[hs];exact hst,fun j hj=>?_,h.new,h.fit⟩
 have hjb:j<t.blocks:=by
  have h1:=blocks_mono (h:=t.h) h.ok.h.1 h.ok.bound.2
  rw[←h.ok.blocks.1]at h1
  have h2:t.l.length/t.h≤blocksN t.h t.l.length:=by unfold blocksN;split<;>omega
  omega
 rw[hn _ (by omega) (by omega),hs]
 exact h.stand j hj
theorem wok_write(h:Sys W G p F n)(width bound:Int)(hb0:Below w0.heap.size w0 W):Calls Tryz.prog 52 #[.pointer (some ⟨p.w,0,none⟩),.int .i64 width,.int .i64 bound] W fun e w'=>
  (∃er,e=.returned (.tuple #[.pointer none,.int .i64 er])∧WErr F width bound er∧SysTo W G p F n w')∨
  (∃x t S' G',e=.returned (.tuple #[.pointer (some ⟨x,0,none⟩),.int .i64 0])∧WArgs F width bound∧F.D.size≤F.A.room-F.A.used∧(t.k:Int)=width∧(t.bound:Int)=bound∧t.h=holdsI F.D.size width∧t.l=[]∧Taken F.S S' t.first t.blocks∧(∀q∈F.A.st,q.1≠t.b)∧
   Sys w' G' p {F with S:=S',A:=grant F.A t.b F.D.size} n∧Wok w0 w' G' p {F with S:=S',A:=grant F.A t.b F.D.size} x t∧Far G W w'∧(∀k,G' k→G k∨W.heap.size≤k)∧W.heap.size≤x∧W.heap.size≤t.b∧W.heap.size≤t.g):=by
 refine(fwrite_any h width bound).mono ?_
 rintro e w' (⟨er,he,hw,hs⟩|⟨x,t,S1,he,hwa,hrm,htk,htb,hth,htl,htbl,htt,hok,k1,k2,k3,G1,k4,k5,k6,k7,k8⟩)
 ·exact .inl ⟨er,he,hw,hs⟩
 ·have z:=hb0.size
  have hq:∀q∈F.A.st,q.1≠t.b:=fun q hq e=>by have:=(h.buf hq).1.lt;omega
  exact .inr ⟨x,t,S1,G1,he,hwa,hrm,htk,htb,hth,htl,htt,hq,k4,⟨hok,k5,k6,wordsAt_new _ _ _ hq,wstand_nil htl,⟨by omega,by omega,by omega⟩,fun u hu=>by rw[htl]at hu;cases hu⟩,k7,k8,k1,k2,k3⟩
end
structure Asn where
 K:Nat→Prop
 A:World→Prop
 gr:Option (Nat×Nat)
 ex:Nat×Nat
 dA:St→Prop
def inX(e:Nat×Nat)(z:Nat):Prop:=e.1≤z∧z<e.1+e.2
structure Asn.Ok (a:Asn):Prop where
 okA:∀W W',a.A W→(∀k,a.K k→W'.heap[k]?=W.heap[k]?)→a.A W'
 okD:∀D D',a.dA D→D'.size=D.size→(∀z:Nat,inX a.ex z→D'.now z=D.now z)→a.dA D'
 grK:∀b n,a.gr=some (b,n)→a.K b
def Asn.gw(a:Asn):Nat:=match a.gr with
 |some q=>q.2
 |none=>0
def Asn.xw(a:Asn):Nat:=a.ex.2
def sumN{α:Type}(f:α→Nat)(l:List α):Nat:=(l.map f).sum
theorem sumN_set{α:Type}(f:α→Nat):∀(l:List α) (i:Nat) (a b:α),l[i]?=some a→sumN f (l.set i b)+f a=sumN f l+f b
 |[],i,a,b,h=>by simp at h
 |x::l,0,a,b,h=>by simp at h;subst h;simp[sumN];omega
 |x::l,i+1,a,b,h=>by
  have:=sumN_set f l i a b (by simpa using h)
  simp[sumN]at this⊢;omega
theorem sumN_snoc{α:Type}(f:α→Nat)(l:List α)(a:α):sumN f (l++[a])=sumN f l+f a:=by simp[sumN]
structure Cx where
 w0:World
 p:Wp
 S0:Sp
 rm:Nat
 sz:Nat
 bl:Int
 cm:Prop
 N:Nat
 C:Nat
 n:Nat
structure WdF (X:Cx) (os:List Asn) (m:Nat) (W:World) (G:Nat→Prop) (D:St) (A:Ar) (S:Sp):Prop where
 sys:Sys W G X.p ⟨D,A,S⟩ (X.n+m)
 few:X.n≤X.N∧X.N+m≤1000000
 base:∀k,G k→X.w0.heap.size≤k
 bel:Below X.w0.heap.size X.w0 W
 size:D.size=X.sz
 blocks:D.blocks=X.bl
 alive:D.down=false∧D.fb=false
 calm:X.cm→Calm D
 acts:D.acts≤((X.C+m:Nat):Int)
 room:A.room=X.rm
 used:A.used=sumN Asn.gw os
 ok:∀(i:Nat) (a:Asn),os[i]?=some a→a.Ok
 st:∀(i:Nat) (a:Asn) (b n:Nat),os[i]?=some a→a.gr=some (b,n)→wordsAt A.st b=some n
 mem:∀(i:Nat) (a:Asn),os[i]?=some a→a.A W∧∀k,a.K k→k<W.heap.size∧X.w0.heap.size≤k∧¬G k
 dsk:∀(i:Nat) (a:Asn),os[i]?=some a→a.dA D
 apart:∀(i j:Nat) (a b:Asn),os[i]?=some a→os[j]?=some b→i≠j→∀k,a.K k→¬b.K k
 exa:∀(i j:Nat) (a b:Asn),os[i]?=some a→os[j]?=some b→i≠j→∀z,inX a.ex z→¬inX b.ex z
 exs:∀(i:Nat) (a:Asn),os[i]?=some a→∀z,inX a.ex z→hasB X.S0.fr z
 s0:X.S0.ok
 sp:S.first=X.S0.first∧S.blocks=X.S0.blocks
 free:∀z,hasB S.fr z↔hasB X.S0.fr z∧∀(i:Nat) (a:Asn),os[i]?=some a→¬inX a.ex z
 sum:sumB S.fr+sumN Asn.xw os=sumB X.S0.fr
 range:((X.S0.first+X.S0.blocks:Nat):Int)≤X.bl
def Wd(X:Cx)(os:List Asn)(m:Nat)(W:World):Prop:=∃G D A S,WdF X os m W G D A S
def nilO:Asn:=⟨fun _=>False,fun _=>True,none,(0,0),fun _=>True⟩
theorem nilO_ok:nilO.Ok:=⟨fun _ _ _ _=>trivial,fun _ _ _ _ _=>trivial,fun _ _ h=>by cases h⟩
theorem inX_zero(a z:Nat):¬inX (a,0) z:=fun h=>by unfold inX at h;simp only at h;omega
def rowO(g:Nat)(t:TypeId)(cs:List Value):Asn:=⟨fun k=>k=g,fun W=>Row W g t cs,none,(0,0),fun _=>True⟩
theorem rowO_ok(g:Nat)(t:TypeId)(cs:List Value):(rowO g t cs).Ok:=⟨fun W W' h hk=>(hk g rfl).trans h,fun _ _ _ _ _=>trivial,fun _ _ h=>by cases h⟩
theorem set_or{α:Type}{l:List α}{i j:Nat}{a b:α}(h:(l.set i a)[j]?=some b):(j=i∧b=a)∨(j≠i∧l[j]?=some b):=by
 rw[List.getElem?_set]at h
 by_cases hij:i=j
 ·rw[if_pos hij]at h
  split at h
  ·injection h with h;exact .inl ⟨hij.symm,h.symm⟩
  ·cases h
 ·rw[if_neg hij]at h;exact .inr ⟨fun e=>hij e.symm,h⟩
theorem snoc_or{α:Type}{l:List α}{j:Nat}{a b:α}(h:(l++[a])[j]?=some b):(j=l.length∧b=a)∨(j<l.length∧l[j]?=some b):=by
 rcases Nat.lt_or_ge j l.length with hj|hj
 ·rw[List.getElem?_append_left hj]at h;exact .inr ⟨hj,h⟩
 ·rw[List.getElem?_append_right hj]at h
  have:j-l.length=0:=by
   rcases Nat.eq_zero_or_pos (j-l.length)with h0|h0
   ·exact h0
   ·rw[List.getElem?_eq_none (by simp;omega)]at h;cases h
  rw[this]at h;simp at h
  exact .inl ⟨by omega,h.symm⟩
section
variable {X : Cx} {os : List Asn} {m m' i : Nat} {W W' : World} {G G' : Nat → Prop} {D D' : St} {A A' : Ar} {S S' : Sp} {a a' : Asn}
theorem WdF.step (h : WdF X os m W G D A S) (hi : os[i]? = some a) (sys : Sys W' G' X.p ⟨D', A', S'⟩ (X.n + m')) (far : Far (fun k => G k ∨ a.K k) W W') (hG : ∀ k, G' k → G k ∨ W.heap.size ≤ k)
    (ok : a'.Ok) (mem : a'.A W') (memK : ∀ k, a'.K k → (a.K k ∨ W.heap.size ≤ k) ∧ k < W'.heap.size ∧ ¬ G' k)
    (hD : D'.size = D.size ∧ D'.blocks = D.blocks) (alive : D'.down = false ∧ D'.fb = false) (calm : Calm D → Calm D') (acts : D'.acts ≤ ((X.C + m' : Nat) : Int))
    (now : ∀ z : Nat, ¬ inX a.ex z → D'.now z = D.now z) (dsk : a'.dA D')
    (room : A'.room = A.room) (used : A'.used + a.gw = A.used + a'.gw) (st : ∀ b n, wordsAt A.st b = some n → ¬ a.K b → wordsAt A'.st b = some n) (gr : ∀ b n, a'.gr = some (b, n) → wordsAt A'.st b = some n)
    (sp : S'.first = S.first ∧ S'.blocks = S.blocks) (free : ∀ z, hasB S'.fr z ↔ (hasB S.fr z ∨ inX a.ex z) ∧ ¬ inX a'.ex z) (exn : ∀ z, inX a'.ex z → inX a.ex z ∨ hasB S.fr z) (sum : sumB S'.fr + a'.xw = sumB S.fr + a.xw) (few : X.N + m' ≤ 1000000 := by first | exact (WdF.few (by assumption)).2 | omega) :
    WdF X (os.set i a') m' W' G' D' A' S' := by
  have hil : i < os.length := by
    rcases Nat.lt_or_ge i os.length with hl | hl
    · exact hl
    · rw [List.getElem?_eq_none hl] at hi; cases hi
  have hz := far.size
  have hb0 := h.bel.size
  have hold : ∀ (j : Nat) (b : Asn), j ≠ i → os[j]? = some b → ∀ k, b.K k → W'.heap[k]? = W.heap[k]? ∧ k < W.heap.size ∧ X.w0.heap.size ≤ k ∧ ¬ G k := fun j b hj hb k hk => by
    obtain ⟨h1, h2, h3⟩ := (h.mem j b hb).2 k hk
    exact ⟨far.block k h1 fun hf => hf.elim h3 (h.apart j i b a hb hi hj k hk), h1, h2, h3⟩
  have hbK : ∀ k, a.K k → X.w0.heap.size ≤ k := fun k hk => ((h.mem i a hi).2 k hk).2.1
  have s1 := sumN_set Asn.gw os i a a' hi
  have s2 := sumN_set Asn.xw os i a a' hi
  have s3 := h.sum
  have s4 := h.used
  exact {
    sys := sys
    few := ⟨h.few.1, few⟩
    base := fun k hk => (hG k hk).elim (h.base k) fun hl => by omega
    bel := h.bel.trans (far.below hb0 fun k hk => hk.elim (h.base k) (hbK k))
    size := hD.1.trans h.size
    blocks := hD.2.trans h.blocks
    alive := alive
    calm := fun hc => calm (h.calm hc)
    acts := acts
    room := room.trans h.room
    used := by omega
    ok := fun j b hb => (set_or hb).elim (fun e => e.2 ▸ ok) fun e => h.ok j b e.2
    st := fun j b c n hb hg => (set_or hb).elim (fun e => gr c n (by rw [← e.2]; exact hg)) fun e => st c n (h.st j b c n e.2 hg) (h.apart j i b a e.2 hi e.1 c ((h.ok j b e.2).grK c n hg))
    mem := fun j b hb => (set_or hb).elim (fun e => by
        rw [e.2]
        exact ⟨mem, fun k hk => ⟨(memK k hk).2.1, (memK k hk).1.elim (hbK k) fun hl => by omega, (memK k hk).2.2⟩⟩) fun e => ⟨(h.ok j b e.2).okA W W' (h.mem j b e.2).1 fun k hk => (hold j b e.1 e.2 k hk).1, fun k hk => by
        obtain ⟨h1, h2, h3, h4⟩ := hold j b e.1 e.2 k hk
        exact ⟨by omega, h3, fun hg => (hG k hg).elim h4 fun hl => by omega⟩⟩
    dsk := fun j b hb => (set_or hb).elim (fun e => e.2 ▸ dsk) fun e => (h.ok j b e.2).okD D D' (h.dsk j b e.2) hD.1 fun z hz => now z (h.exa j i b a e.2 hi e.1 z hz)
    apart := fun j j2 b b2 hb hb2 hne k hk hk2 => by
      rcases set_or hb with ⟨e1, e2⟩ | ⟨e1, e2⟩ <;> rcases set_or hb2 with ⟨e3, e4⟩ | ⟨e3, e4⟩
      · exact hne (e1.trans e3.symm)
      · subst e2
        obtain ⟨h1, h2, _⟩ := hold j2 b2 e3 e4 k hk2
        exact (memK k hk).1.elim (fun ha => h.apart i j2 a b2 hi e4 (fun e => e3 e.symm) k ha hk2) fun hl => by omega
      · subst e4
        obtain ⟨h1, h2, _⟩ := hold j b e1 e2 k hk
        exact (memK k hk2).1.elim (fun ha => h.apart i j a b hi e2 (fun e => e1 e.symm) k ha hk) fun hl => by omega
      · exact h.apart j j2 b b2 e2 e4 hne k hk hk2
    exa := fun j j2 b b2 hb hb2 hne z hz1 hz2 => by
      have key : ∀ (q : Nat) (c : Asn), q ≠ i → os[q]? = some c → inX c.ex z → inX a'.ex z → False := fun q c hq hc h1 h2 => by
        rcases exn z h2 with h3 | h3
        · exact h.exa q i c a hc hi hq z h1 h3
        · exact ((h.free z).1 h3).2 q c hc h1
      rcases set_or hb with ⟨e1, e2⟩ | ⟨e1, e2⟩ <;> rcases set_or hb2 with ⟨e3, e4⟩ | ⟨e3, e4⟩
      · exact hne (e1.trans e3.symm)
      · subst e2; exact key j2 b2 e3 e4 hz2 hz1
      · subst e4; exact key j b e1 e2 hz1 hz2
      · exact h.exa j j2 b b2 e2 e4 hne z hz1 hz2
    exs := fun j b hb z hz1 => (set_or hb).elim (fun e => by
        rw [e.2] at hz1
        exact (exn z hz1).elim (h.exs i a hi z) fun h3 => ((h.free z).1 h3).1) fun e => h.exs j b e.2 z hz1
    s0 := h.s0
    sp := ⟨sp.1.trans h.sp.1, sp.2.trans h.sp.2⟩
    free := fun z => by
      rw [free z]
      refine ⟨fun ⟨h1, h2⟩ => ⟨h1.elim (fun h3 => ((h.free z).1 h3).1) (h.exs i a hi z), fun j b hb hz1 => ?_⟩, fun ⟨h1, h2⟩ => ⟨?_, h2 i a' (by rw [List.getElem?_set, if_pos rfl, if_pos hil])⟩⟩
      · rcases set_or hb with ⟨e1, e2⟩ | ⟨e1, e2⟩
        · rw [e2] at hz1; exact h2 hz1
        · exact h1.elim (fun h3 => ((h.free z).1 h3).2 j b e2 hz1) fun h3 => h.exa j i b a e2 hi e1 z hz1 h3
      · by_cases ha : inX a.ex z
        · exact .inr ha
        · refine .inl ((h.free z).2 ⟨h1, fun j b hb hz1 => ?_⟩)
          by_cases hj : j = i
          · rw [hj, hi] at hb; injection hb with hb; subst hb; exact ha hz1
          · exact h2 j b (by rw [List.getElem?_set, if_neg (fun e => hj e.symm)]; exact hb) hz1
    sum := by omega
    range := h.range }
theorem WdF.grow (h : WdF X os m W G D A S) : WdF X (os ++ [nilO]) m W G D A S :=
  { sys := h.sys, few := h.few, base := h.base, bel := h.bel, size := h.size, blocks := h.blocks, alive := h.alive, calm := h.calm, acts := h.acts, room := h.room, s0 := h.s0, sp := h.sp, range := h.range
    used := by rw [sumN_snoc]; exact h.used
    sum := by rw [sumN_snoc]; exact h.sum
    ok := fun j b hb => (snoc_or hb).elim (fun e => e.2 ▸ nilO_ok) fun e => h.ok j b e.2
    st := fun j b c n hb hg => (snoc_or hb).elim (fun e => by rw [e.2] at hg; cases hg) fun e => h.st j b c n e.2 hg
    mem := fun j b hb => (snoc_or hb).elim (fun e => by rw [e.2]; exact ⟨trivial, fun k hk => hk.elim⟩) fun e => h.mem j b e.2
    dsk := fun j b hb => (snoc_or hb).elim (fun e => by rw [e.2]; exact trivial) fun e => h.dsk j b e.2
    apart := fun j j2 b b2 hb hb2 hne k hk hk2 => by
      rcases snoc_or hb with ⟨e1, e2⟩ | ⟨e1, e2⟩ <;> rcases snoc_or hb2 with ⟨e3, e4⟩ | ⟨e3, e4⟩
      · rw [e2] at hk; exact hk
      · rw [e2] at hk; exact hk
      · rw [e4] at hk2; exact hk2
      · exact h.apart j j2 b b2 e2 e4 hne k hk hk2
    exa := fun j j2 b b2 hb hb2 hne z hz1 hz2 => by
      rcases snoc_or hb with ⟨e1, e2⟩ | ⟨e1, e2⟩ <;> rcases snoc_or hb2 with ⟨e3, e4⟩ | ⟨e3, e4⟩
      · rw [e2] at hz1; exact inX_zero _ _ hz1
      · rw [e2] at hz1; exact inX_zero _ _ hz1
      · rw [e4] at hz2; exact inX_zero _ _ hz2
      · exact h.exa j j2 b b2 e2 e4 hne z hz1 hz2
    exs := fun j b hb z hz1 => (snoc_or hb).elim (fun e => by rw [e.2] at hz1; exact (inX_zero _ _ hz1).elim) fun e => h.exs j b e.2 z hz1
    free := fun z => by
      rw [h.free z]
      refine ⟨fun ⟨h1, h2⟩ => ⟨h1, fun j b hb hz1 => (snoc_or hb).elim (fun e => by rw [e.2] at hz1; exact inX_zero _ _ hz1) fun e => h2 j b e.2 hz1⟩, fun ⟨h1, h2⟩ => ⟨h1, fun j b hb hz1 => h2 j b ?_ hz1⟩⟩
      rw [List.getElem?_append_left]
      · exact hb
      · rcases Nat.lt_or_ge j os.length with hl | hl
        · exact hl
        · rw [List.getElem?_eq_none hl] at hb; cases hb }
theorem WdF.drop (h : WdF X (os ++ [a]) m W G D A S) (hg : a.gr = none) (hx : a.ex.2 = 0) : WdF X os m W G D A S := by
  have hle : ∀ (j : Nat) (b : Asn), os[j]? = some b → (os ++ [a])[j]? = some b := fun j b hb => by
    rw [List.getElem?_append_left]
    · exact hb
    · rcases Nat.lt_or_ge j os.length with hl | hl
      · exact hl
      · rw [List.getElem?_eq_none hl] at hb; cases hb
  have hgw : a.gw = 0 := by unfold Asn.gw; rw [hg]
  have hu := h.used
  have hs := h.sum
  rw [sumN_snoc] at hu hs
  have hxw : a.xw = 0 := hx
  exact { sys := h.sys, few := h.few, base := h.base, bel := h.bel, size := h.size, blocks := h.blocks, alive := h.alive, calm := h.calm, acts := h.acts, room := h.room, s0 := h.s0, sp := h.sp, range := h.range
          used := by omega
          sum := by omega
          ok := fun j b hb => h.ok j b (hle j b hb)
          st := fun j b c n hb hg => h.st j b c n (hle j b hb) hg
          mem := fun j b hb => h.mem j b (hle j b hb)
          dsk := fun j b hb => h.dsk j b (hle j b hb)
          apart := fun j j2 b b2 hb hb2 => h.apart j j2 b b2 (hle j b hb) (hle j2 b2 hb2)
          exa := fun j j2 b b2 hb hb2 => h.exa j j2 b b2 (hle j b hb) (hle j2 b2 hb2)
          exs := fun j b hb => h.exs j b (hle j b hb)
          free := fun z => by
            rw [h.free z]
            refine ⟨fun ⟨h1, h2⟩ => ⟨h1, fun j b hb => h2 j b (hle j b hb)⟩, fun ⟨h1, h2⟩ => ⟨h1, fun j b hb hz1 => ?_⟩⟩
            rcases snoc_or hb with ⟨e1, e2⟩ | ⟨e1, e2⟩
            · rw [e2] at hz1; unfold inX at hz1; omega
            · exact h2 j b e2 hz1 }
theorem Wd.grow(h:Wd X os m W):Wd X (os++[nilO]) m W:=by obtain⟨G,D,A,S,h⟩:=h;exact⟨G,D,A,S,h.grow⟩
theorem Wd.drop(h:Wd X (os++[a]) m W)(hg:a.gr=none)(hx:a.ex.2=0):Wd X os m W:=by obtain⟨G,D,A,S,h⟩:=h;exact⟨G,D,A,S,h.drop hg hx⟩
theorem WdF.below (h : WdF X os m W G D A S) (hb : Below W.heap.size W W') : WdF X os m W' G D A S :=
  { sys := h.sys.below hb, few := h.few, base := h.base, bel := h.bel.trans (hb.mono h.bel.size), size := h.size, blocks := h.blocks, alive := h.alive, calm := h.calm, acts := h.acts, room := h.room, s0 := h.s0, sp := h.sp, range := h.range, used := h.used, sum := h.sum, ok := h.ok, st := h.st, dsk := h.dsk, apart := h.apart, exa := h.exa, exs := h.exs, free := h.free
    mem := fun j b hb1 => ⟨(h.ok j b hb1).okA W W' (h.mem j b hb1).1 fun k hk => hb.block k ((h.mem j b hb1).2 k hk).1, fun k hk => by
      obtain ⟨h1, h2, h3⟩ := (h.mem j b hb1).2 k hk
      have := hb.size
      exact ⟨by omega, h2, h3⟩⟩ }
theorem Wd.below(h:Wd X os m W)(hb:Below W.heap.size W W'):Wd X os m W':=by obtain⟨G,D,A,S,h⟩:=h;exact⟨G,D,A,S,h.below hb⟩
theorem Wd.drewN(h:Wd X os m W)(q:Nat):Wd X os m (W.drewN q):=h.below (below_drewN (Below.refl _ _) q)
theorem Wd.size(h:Wd X os m W):X.w0.heap.size≤W.heap.size:=by obtain⟨G,D,A,S,h⟩:=h;exact h.bel.size
theorem Wd.bel(h:Wd X os m W):Below X.w0.heap.size X.w0 W:=by obtain⟨G,D,A,S,h⟩:=h;exact h.bel
theorem Wd.at_(h:Wd X os m W)(hi:os[i]?=some a):a.A W:=by obtain⟨G,D,A,S,h⟩:=h;exact(h.mem i a hi).1
theorem Wd.row(h:Wd X os m W){g:Nat}{t:TypeId}{cs:List Value}(hi:os[i]?=some (rowO g t cs)):Row W g t cs:=h.at_ hi
theorem Wd.bounds(h:Wd X os m W):(8≤X.sz∧X.sz≤256)∧X.N+m≤1000000:=by obtain⟨G,D,A,S,h⟩:=h;have:=h.sys.size;exact⟨by rw[←h.size];exact this,h.few.2⟩
theorem Wd.apart(h:Wd X os m W){j:Nat}{b:Asn}(hi:os[i]?=some a)(hj:os[j]?=some b)(hne:i≠j){k:Nat}(hk:a.K k):¬b.K k:=by obtain⟨G,D,A,S,h⟩:=h;exact h.apart i j a b hi hj hne k hk
theorem Wd.lt(h:Wd X os m W)(hi:os[i]?=some a){k:Nat}(hk:a.K k):k<W.heap.size∧X.w0.heap.size≤k:=by obtain⟨G,D,A,S,h⟩:=h;exact⟨((h.mem i a hi).2 k hk).1,((h.mem i a hi).2 k hk).2.1⟩
theorem Wd.mine(h:Wd X os m W)(hi:os[i]?=some a){R:Nat→Prop}(hf:Far R W W')(hR:∀k,R k→a.K k∧∀v,¬Row W k 132 [v])(ok:a'.Ok)(mem:a'.A W')(hK:∀k,a'.K k→(a.K k∨W.heap.size≤k)∧k<W'.heap.size)(hg:a'.gr=a.gr)(hx:a'.ex=a.ex)(hd:∀D,a.dA D→a'.dA D):Wd X (os.set i a') m W':=by
 obtain⟨G,D,A,S,h⟩:=h
 have hsys:=h.sys.touch hf fun k hk=>⟨((h.mem i a hi).2 k (hR k hk).1).2.2,(hR k hk).2⟩
 refine⟨G,D,A,S,h.step hi hsys (hf.mono fun k hk=>.inr (hR k hk).1) (fun k hk=>.inl hk) ok mem (fun k hk=>⟨(hK k hk).1,(hK k hk).2,fun hg=>?_⟩) ⟨rfl,rfl⟩ h.alive id h.acts (fun _ _=>rfl) (hd D (h.dsk i a hi)) rfl (by unfold Asn.gw;rw[hg]) (fun _ _ hw _=>hw) (fun b n hb=>h.st i a b n hi (by rw[←hg];exact hb)) ⟨rfl,rfl⟩ (fun z=>?_) (fun z hz=>.inl (by rw[←hx];exact hz)) (by unfold Asn.xw;rw[hx])⟩
 ·rcases(hK k hk).1 with h1|h1
  ·exact((h.mem i a hi).2 k h1).2.2 hg
  ·have:=h.sys.lt hg;omega
 ·rw[hx]
  refine⟨fun h1=>⟨.inl h1,((h.free z).1 h1).2 i a hi⟩,fun⟨h1,h2⟩=>h1.elim id fun h3=>absurd h3 h2⟩
theorem Wd.weak(h:Wd X os m W)(hi:os[i]?=some a)(ok:a'.Ok)(mem:a.A W→a'.A W)(hK:∀k,a'.K k→a.K k)(hg:a'.gr=a.gr)(hx:a'.ex=a.ex)(hd:∀D,a.dA D→a'.dA D):Wd X (os.set i a') m W:=
 h.mine hi (R:=fun _=>False) (Far.refl _ _) (fun _ hk=>hk.elim) ok (mem (h.at_ hi)) (fun k hk=>⟨.inl (hK k hk),(h.lt hi (hK k hk)).1⟩) hg hx hd
theorem Wd.new(h:Wd X os m W){g:Nat}{t:TypeId}{cs:List Value}(hb:Below W.heap.size W W')(hr:Row W' g t cs)(hg:W.heap.size≤g):Wd X (os++[rowO g t cs]) m W':=by
 have h1:=h.grow
 have h2:=h1.mine (i:=os.length) (a:=nilO) (a':=rowO g t cs) (W':=W') (R:=fun _=>False) (by rw[List.getElem?_append_right (Nat.le_refl _),Nat.sub_self];rfl) (Far.of_below hb _) (fun k hk=>hk.elim) (rowO_ok g t cs) hr (fun k hk=>by
  have hk:k=g:=hk
  subst hk;exact⟨.inr hg,hr.lt⟩) rfl rfl (fun _ _=>trivial)
 rw[List.set_append_right _ _ (Nat.le_refl _),Nat.sub_self]at h2
 exact h2
theorem Wd.store(h:Wd X os m W){g:Nat}{t:TypeId}{cs:List Value}(hi:os[i]?=some (rowO g t cs))(ht:t≠132)(j:Nat)(v:Value):Wd X (os.set i (rowO g t (cs.set j v))) m (W.setCell ⟨g,j,none⟩ v):=by
 have hr:=h.row hi
 refine h.mine hi (R:=fun k=>k=g) (Far.one g j v) (fun k hk=>⟨hk,fun u hu=>?_⟩) (rowO_ok _ _ _) (hr.set j v) (fun k hk=>⟨.inl hk,?_⟩) rfl rfl (fun _ h=>h)
 ·subst hk;exact ht (hr.typed hu)
 ·have hk:k=g:=hk
  subst hk;exact(hr.set j v).lt
theorem Wd.mono(h:Wd X os m W)(hm:m≤m')(h6:X.N+m'≤1000000):Wd X os m' W:=by
 obtain⟨G,D,A,S,h⟩:=h
 exact⟨G,D,A,S,{h with sys:=h.sys.mono (by omega) (by have:=h.few;omega),few:=⟨h.few.1,h6⟩,acts:=by have:=h.acts;omega}⟩
end
theorem fail_begin{s:St}{r:Bool}(ha:s.down=false∧s.fb=false)(hr:r=true)(h:(begin s r).1≠0):(begin s r).1=6∧(begin s r).2.acts=s.acts∧((begin s r).2.down=false∧(begin s r).2.fb=false)∧¬Calm s:=by
 unfold begin at h⊢
 rw[if_neg (by simp[ha.1]),if_neg (by simp[hr]),if_neg (by simp[ha.2])]at h⊢
 dsimp only at h⊢
 split at h
 ·rename_i h1;rw[if_pos h1];exact⟨rfl,rfl,⟨ha.1,ha.2⟩,fun hc=>by rw[hc.2.2]at h1;cases h1.1⟩
 ·exact absurd rfl h
theorem fail_write{s:St}{i:Int}{l:List Nat}(ha:s.down=false∧s.fb=false)(hi:right s i=true)(hl:l.length=s.size)(h:(write s i l).1≠0):(write s i l).1=6∧(write s i l).2.acts=s.acts∧((write s i l).2.down=false∧(write s i l).2.fb=false)∧¬Calm s:=by
 have hr:(right s i&&decide (l.length=s.size))=true:=by simp[hi,hl]
 unfold write at h⊢
 dsimp only at h⊢
 by_cases hb:(begin s (right s i&&decide (l.length=s.size))).1=0
 ·rw[if_pos hb]at h;exact absurd rfl h
 ·rw[if_neg hb]at h⊢;exact fail_begin ha hr h
theorem fail_read{s:St}{i:Int}(ha:s.down=false∧s.fb=false)(hi:right s i=true)(h:(read s i).1≠0):(read s i).1=6∧(read s i).2.acts=s.acts∧((read s i).2.down=false∧(read s i).2.fb=false)∧¬Calm s:=fail_begin ha hi h
def wrO(p:Wp)(x:Nat)(t:Wt)(sz:Nat):Asn:=⟨fun k=>k=x∨k=t.b∨k=t.g,fun W=>WOpen W x p t sz,some (t.b,sz),(t.first,t.blocks),fun D=>D.size=sz→WStand D t⟩
def wsO(p:Wp)(x:Nat)(t:Wt):Asn:=⟨fun k=>k=x∨k=t.b,fun W=>WShut W x p t,none,(0,0),fun _=>True⟩
def wfO(p:Wp)(x:Nat)(t:Wt)(sz:Nat):Asn:=⟨fun k=>k=x∨k=t.b,fun W=>WShut W x p t,none,(firstOf t,blocksN t.h t.l.length),fun D=>D.size=sz→StandsTo D (firstOf t) t.k t.h t.l (blocksN t.h t.l.length)⟩
def fiO(first nb k h:Nat)(l:List Tup)(sz:Nat):Asn:=⟨fun _=>False,fun _=>True,none,(first,nb),fun D=>D.size=sz→StandsTo D first k h l nb⟩
structure FOk (first nb k h:Nat) (l:List Tup) (sz:Nat):Prop where
 kk:0<k∧k≤5
 hh:0<h∧h*k≤sz-2∧h≤254
 hol:h=holdsI sz k
 bn:nb=blocksN h l.length
 len:l.length≤100000
 fst:first≤2000000
 fit:∀u∈l,TupOk u∧fitsT k u=true
def rdO(p:Wp)(x:Nat)(r:Rt)(sz:Nat)(l:List Tup):Asn:=⟨fun k=>k=x∨k=r.b∨k=r.g,fun W=>∃ws,RMem W x p r sz ws∧(r.pos%r.h≠0→ws.take (min r.h (r.count-r.pos/r.h*r.h)*r.k)=payT r.h r.k l (r.pos/r.h)),some (r.b,sz),(0,0),fun _=>True⟩
def rsO(p:Wp)(x:Nat)(r:Rt):Asn:=⟨fun k=>k=x∨k=r.b,fun W=>RShut W x p r,none,(0,0),fun _=>True⟩
section
variable {p : Wp} {x sz : Nat} {t : Wt} {r : Rt} {l : List Tup}
theorem row_same{W W':World}{g:Nat}{T:TypeId}{cs:List Value}(h:Row W g T cs)(hk:W'.heap[g]?=W.heap[g]?):Row W' g T cs:=hk.trans h
theorem stands_in{D D':St}{first k h m:Nat}{l:List Tup}{e:Nat×Nat}(hs:StandsTo D first k h l m)(hz:D'.size=D.size)(hn:∀z:Nat,inX e z→D'.now z=D.now z)(he:e.1=first∧m≤e.2):StandsTo D' first k h l m:=fun j hj=>by
 rw[hn (first+j) ⟨by omega,by omega⟩,hz];exact hs j hj
theorem wrO_ok(hok:WtOk t sz):(wrO p x t sz).Ok:=
  ⟨fun W W' ⟨ws,hm,hh⟩ hk=>⟨ws,⟨row_same hm.row (hk _ (.inl rfl)),row_same hm.buf (hk _ (.inr (.inl rfl))),row_same hm.words (hk _ (.inr (.inr rfl))),hm.len,hm.u64⟩,hh⟩,
   fun D D' h hs hn hz=>stands_in (e:=(t.first,t.blocks)) (h (hs▸hz)) hs hn ⟨rfl,by
     have h1:=blocks_mono (h:=t.h) hok.h.1 hok.bound.2
     rw[←hok.blocks.1]at h1
     have h2:t.l.length/t.h≤blocksN t.h t.l.length:=by unfold blocksN;split<;>omega
     exact Nat.le_trans h2 h1⟩,
   fun b n h=>by injection h with h;injection h with h1 _;exact .inr (.inl h1.symm)⟩
theorem wsO_ok:(wsO p x t).Ok:=⟨fun W W' ⟨h1,h2⟩ hk=>⟨row_same h1 (hk _ (.inl rfl)),row_same h2 (hk _ (.inr rfl))⟩,fun _ _ _ _ _=>trivial,fun _ _ h=>by cases h⟩
theorem wfO_ok:(wfO p x t sz).Ok:=⟨fun W W' ⟨h1,h2⟩ hk=>⟨row_same h1 (hk _ (.inl rfl)),row_same h2 (hk _ (.inr rfl))⟩,fun D D' h hs hn hz=>stands_in (e:=(firstOf t,blocksN t.h t.l.length)) (h (hs▸hz)) hs hn ⟨rfl,Nat.le_refl _⟩,fun _ _ h=>by cases h⟩
theorem fiO_ok{first nb k h:Nat}:(fiO first nb k h l sz).Ok:=⟨fun _ _ _ _=>trivial,fun D D' h hs hn hz=>stands_in (e:=(first,nb)) (h (hs▸hz)) hs hn ⟨rfl,Nat.le_refl _⟩,fun _ _ h=>by cases h⟩
theorem rdO_ok:(rdO p x r sz l).Ok:=⟨fun W W' ⟨ws,hm,hh⟩ hk=>⟨ws,⟨row_same hm.row (hk _ (.inl rfl)),row_same hm.buf (hk _ (.inr (.inl rfl))),row_same hm.words (hk _ (.inr (.inr rfl))),hm.len,hm.u64⟩,hh⟩,fun _ _ _ _ _=>trivial,fun b n h=>by injection h with h;injection h with h1 _;exact .inr (.inl h1.symm)⟩
theorem rsO_ok:(rsO p x r).Ok:=⟨fun W W' ⟨h1,h2⟩ hk=>⟨row_same h1 (hk _ (.inl rfl)),row_same h2 (hk _ (.inr rfl))⟩,fun _ _ _ _ _=>trivial,fun _ _ h=>by cases h⟩
end
section
variable {X : Cx} {os : List Asn} {m i : Nat} {W W' : World} {G : Nat → Prop} {D : St} {A : Ar} {S : Sp} {a : Asn} {x : Nat} {t : Wt} {r : Rt} {l : List Tup}
theorem WdF.inR(h:WdF X os m W G D A S)(hi:os[i]?=some a)(hx:0<a.ex.2):((a.ex.1+a.ex.2:Nat):Int)≤D.blocks:=by
 have h1:=h.exs i a hi (a.ex.1+a.ex.2-1) ⟨by omega,by omega⟩
 have h2:=(h.s0.2.2.has h1).2
 have h3:=h.range
 rw[h.blocks];omega
theorem WdF.wout(h:WdF X os m W G D A S)(hi:os[i]?=some (wrO X.p x t X.sz)):WOut G x t:=⟨((h.mem i _ hi).2 x (.inl rfl)).2.2,((h.mem i _ hi).2 t.b (.inr (.inl rfl))).2.2,((h.mem i _ hi).2 t.g (.inr (.inr rfl))).2.2⟩
theorem snoc_ok{sz:Nat}{tu:Tup}(hok:WtOk t sz)(hless:t.l.length<t.bound):WtOk (t.snoc tu) sz:=⟨hok.k,hok.h,hok.sz,⟨hok.bound.1,by rw[snoc_len];exact hless⟩,hok.blocks,hok.first⟩
theorem release_used{A:Ar}{b n:Nat}(hs:Sound A)(h:wordsAt A.st b=some n):(release A b n).used+n=A.used:=by
 have:=release_le hs h
 show A.used-n+n=A.used;omega
theorem giveN_from{S:Sp}(h:S.ok){f n:Nat}(hlo:S.first≤f∨n=0)(hhi:f+n≤S.first+S.blocks∨n=0)(hno:∀z,f≤z→z<f+n→¬hasB S.fr z):
  (giveN S f n).first=S.first∧(giveN S f n).blocks=S.blocks∧(∀z,hasB (giveN S f n).fr z↔hasB S.fr z∨(f≤z∧z<f+n))∧sumB (giveN S f n).fr=sumB S.fr+n:=by
 unfold giveN
 by_cases h0:n=0
 ·subst h0
  rw[if_pos rfl]
  exact⟨rfl,rfl,fun z=>⟨.inl,fun hz=>hz.elim id fun hz=>by omega⟩,rfl⟩
 ·rw[if_neg h0]
  rcases giveS_spec h (f:Int) (n:Int)with⟨s',a,m,ha,hm,h1,he,hg⟩|⟨_,hbad⟩
  ·obtain rfl:a=f:=by omega
   obtain rfl:m=n:=by omega
   rw[he]
   exact⟨hg.first,hg.blocks,hg.has,hg.sum⟩
  ·exact absurd ⟨by omega,by omega,hno⟩ (hbad f n rfl rfl (by omega))
theorem WdF.held(h:WdF X os m W G D A S)(hi:os[i]?=some a):(∀z,inX a.ex z→¬hasB S.fr z)∧(0<a.ex.2→S.first≤a.ex.1∧a.ex.1+a.ex.2≤S.first+S.blocks):=by
 refine⟨fun z hz hf=>((h.free z).1 hf).2 i a hi hz,fun hx=>?_⟩
 have h1:=h.exs i a hi a.ex.1 ⟨by omega,by omega⟩
 have h2:=h.exs i a hi (a.ex.1+a.ex.2-1) ⟨by omega,by omega⟩
 have k1:=h.s0.2.2.has h1
 have k2:=h.s0.2.2.has h2
 rw[h.sp.1,h.sp.2];omega
theorem wd_put(h:Wd X os m W)(hi:os[i]?=some (wrO X.p x t X.sz))(hok:WtOk t X.sz)(hn:X.N+m<1000000){tu:Tup}(hf:fitsT t.k tu=true)(hless:t.l.length<t.bound):
  Calls Tryz.prog 54 #[.pointer (some ⟨x,0,none⟩),.agg #[.int .i64 tu.a,.int .i64 tu.b,.int .i64 tu.c,.int .i64 tu.d,.int .i64 tu.e]] W fun e w'=>
   (e=.returned (.int .i64 0)∧Wd X (os.set i (wrO X.p x (t.snoc tu) X.sz)) (m+((t.l.length+1)/t.h-t.l.length/t.h)) w')∨
   (e=.returned (.int .i64 6)∧¬X.cm∧Wd X (os.set i (wsO X.p x (t.snoc tu))) (m+1) w'):=by
 obtain⟨G,D,A,S,h⟩:=h
 obtain⟨ws,hm,hh⟩:=h.mem i _ hi|>.1
 obtain⟨l1,l2,l3⟩:=hm.lt
 have ho:=h.wout hi
 have hst:wordsAt A.st t.b=some D.size:=by rw[h.size];exact h.st i _ t.b X.sz hi rfl
 have hst2:wordsAt A.st t.b=some X.sz:=h.st i _ t.b X.sz hi rfl
 have hok2:=snoc_ok (tu:=tu) hok hless
 have hbl:0<t.blocks:=by rw[hok.blocks.1];exact blocks_pos hok.h.1 (by omega)
 have hin:((t.first+t.blocks:Nat):Int)≤D.blocks:=h.inR hi hbl
 have hl0:0<(t.snoc tu).l.length:=by rw[snoc_len];omega
 have hsz:=h.size
 have hst':WStand D t:=(h.dsk i _ hi) h.size
 refine(wput_go (F:=⟨D,A,S⟩) h.sys (by show WtOk t D.size;rw[hsz];exact hok) (by show WMem W x X.p t D.size ws;rw[hsz];exact hm) (by have:=h.few;omega) ho hst hh tu hf hless).mono ?_
 rintro e w' (⟨hno,_⟩|⟨_,hfull,_⟩|⟨_,_,⟨hm0,rfl,G',k1,k2,k3,k4⟩|⟨hm0,hw0,rfl,G',k1,k2,k3,k4⟩|⟨hm0,hw0,rfl,G',k1,k2,k3,k4⟩⟩)
 ·rw[hf]at hno;cases hno
 ·omega
 ·refine .inl ⟨rfl,?_⟩
  rw[div_succ_ne hok.h.1 hm0,Nat.sub_self,Nat.add_zero]
  have hk2:WOpen w' x X.p (t.snoc tu) X.sz:=by rw[←hsz];exact k2
  obtain⟨ws',hm',_⟩:=id hk2
  obtain⟨q1,q2,q3⟩:=hm'.lt
  refine⟨G',D,A,S,h.step hi k1 (k3.mono fun k hk=>hk.elim .inl fun hk=>hk.elim (fun e=>.inr (.inl e)) fun e=>.inr (.inr (.inr e))) k4 (wrO_ok hok2) hk2 (fun k hk=>⟨.inl hk,?_,?_⟩) ⟨rfl,rfl⟩ h.alive id h.acts (fun _ _=>rfl) (fun _=>wstand_buf hok.h.1 hst' hm0) rfl rfl (fun _ _ hw _=>hw) (fun b n hb=>by injection hb with hb;injection hb with h1 h2;subst h1 h2;exact hst2) ⟨rfl,rfl⟩ (fun z=>⟨fun hz=>⟨.inl hz,(h.held hi).1 z|>fun hx hx2=>hx hx2 hz⟩,fun hz=>hz.1.elim id fun hx=>absurd hx hz.2⟩) (fun z hz=>.inl hz) rfl⟩
  ·exact hk.elim (fun e=>by rw[e];exact q1) fun hk=>hk.elim (fun e=>by rw[e];exact q2) fun e=>by rw[e];exact q3
  ·exact fun hg=>(k4 k hg).elim ((h.mem i _ hi).2 k hk).2.2 fun hl=>by have:=((h.mem i _ hi).2 k hk).1;omega
 ·refine .inl ⟨rfl,?_⟩
  rw[div_succ_eq hok.h.1 hm0,show t.l.length/t.h+1-t.l.length/t.h=1 by omega]
  have hwr:Wrote D (write D (lastAd (t.snoc tu):Nat) (lastW8 D.size (t.snoc tu))).2 1:=wrote_write hw0
  have hsz':(write D (lastAd (t.snoc tu):Nat) (lastW8 D.size (t.snoc tu))).2.size=X.sz:=hwr.size.trans hsz
  have hk2:WOpen w' x X.p (t.snoc tu) X.sz:=by rw[←hsz'];exact k2
  obtain⟨ws',hm',_⟩:=id hk2
  obtain⟨q1,q2,q3⟩:=hm'.lt
  have hli:=last_in (D:=D) (by rw[hsz];exact hok2) hl0
  refine⟨G',_,A,S,h.step hi k1 (k3.mono fun k hk=>hk.elim .inl fun hk=>hk.elim (fun e=>.inr (.inl e)) fun e=>.inr (.inr (.inr e))) k4 (wrO_ok hok2) hk2 (fun k hk=>⟨.inl hk,?_,?_⟩) ⟨hwr.size,hwr.blocks⟩ (hwr.alive h.alive) hwr.calm (by rw[hwr.acts];have:=h.acts;omega) (fun z hz=>(now_write hw0).2.1 _ fun e=>hz ?_) (fun _=>wstand_put hok.h.1 hst' hm0 hw0) rfl rfl (fun _ _ hw _=>hw) (fun b n hb=>by injection hb with hb;injection hb with h1 h2;subst h1 h2;exact hst2) ⟨rfl,rfl⟩ (fun z=>⟨fun hz=>⟨.inl hz,(h.held hi).1 z|>fun hx hx2=>hx hx2 hz⟩,fun hz=>hz.1.elim id fun hx=>absurd hx hz.2⟩) (fun z hz=>.inl hz) rfl⟩
  ·exact hk.elim (fun e=>by rw[e];exact q1) fun hk=>hk.elim (fun e=>by rw[e];exact q2) fun e=>by rw[e];exact q3
  ·exact fun hg=>(k4 k hg).elim ((h.mem i _ hi).2 k hk).2.2 fun hl=>by have:=((h.mem i _ hi).2 k hk).1;omega
  ·have e':z=lastAd (t.snoc tu):=by omega
   rw[e'];exact hli
 ·obtain⟨f1,f2,f3,f4⟩:=fail_write h.alive (last_right (by rw[hsz];exact hok2) hl0 hin) (last_len (by rw[hsz];exact hok2) hl0) hw0
  obtain⟨nf1,nf2,nf3⟩:=now_fail hw0
  refine .inr ⟨by rw[f1],fun hc=>f4 (h.calm hc),?_⟩
  have hgv:(giveN S (t.first+0) (t.blocks-0)).first=S.first∧(giveN S (t.first+0) (t.blocks-0)).blocks=S.blocks∧(∀z,hasB (giveN S (t.first+0) (t.blocks-0)).fr z↔hasB S.fr z∨(t.first+0≤z∧z<t.first+0+(t.blocks-0)))∧sumB (giveN S (t.first+0) (t.blocks-0)).fr=sumB S.fr+(t.blocks-0):=giveN_from h.sys.sok (f:=t.first+0) (n:=t.blocks-0) (.inl ((h.held hi).2 hbl).1) (.inl ((h.held hi).2 hbl).2) (fun z z1 z2=>(h.held hi).1 z ⟨z1,z2⟩)
  refine⟨G',_,_,_,h.step hi k1 (k3.mono fun k hk=>hk.elim .inl fun hk=>hk.elim (fun e=>.inr (.inl e)) fun hk=>hk.elim (fun e=>.inr (.inr (.inr e))) fun e=>.inr (.inr (.inl e))) k4 wsO_ok k2 (fun k hk=>⟨.inl (hk.elim .inl fun hk=>.inr (.inl hk)),?_,?_⟩) ⟨nf2,nf3⟩ f3 (fun hc=>absurd hc f4) (by rw[f2];have:=h.acts;omega) (fun z _=>nf1 z) trivial rfl ?_ (fun b n hw hb=>wordsAt_without _ _ _ _ hw fun e=>hb (.inr (.inl e))) (fun b n hb=>by cases hb) ⟨hgv.1,hgv.2.1⟩ (fun z=>?_) (fun z hz=>absurd hz (inX_zero _ _)) ?_⟩
  ·exact hk.elim (fun e=>by rw[e];exact k2.1.lt) fun e=>by rw[e];exact k2.2.lt
  ·refine fun hg=>(k4 k hg).elim ((h.mem i _ hi).2 k (hk.elim .inl fun hk=>.inr (.inl hk))).2.2 fun hl=>?_
   rcases hk with rfl|rfl
   ·omega
   ·have:(t.snoc tu).b=t.b:=rfl
    omega
  ·have hu:=release_used h.sys.sound (b:=t.b) (n:=(write D (lastAd (t.snoc tu):Nat) (lastW8 D.size (t.snoc tu))).2.size) (by rw[nf2];exact hst)
   rw[nf2,hsz]at hu
   show (release A t.b (write D (lastAd (t.snoc tu):Nat) (lastW8 D.size (t.snoc tu))).2.size).used+X.sz=A.used+0
   rw[nf2,hsz];omega
  ·show hasB (giveN S (t.first+0) (t.blocks-0)).fr z↔ _
   rw[hgv.2.2.1 z]
   exact⟨fun hz=>⟨hz,inX_zero _ _⟩,fun hz=>hz.1⟩
  ·show sumB (giveN S (t.first+0) (t.blocks-0)).fr+0=sumB S.fr+t.blocks
   rw[hgv.2.2.2];omega
end
section
variable {X : Cx} {os : List Asn} {m i : Nat} {W W' : World} {G : Nat → Prop} {D : St} {A : Ar} {S : Sp} {a : Asn} {x : Nat} {t : Wt} {r : Rt} {l : List Tup}
theorem stands_first{D:St}{t:Wt}(hs:StandsTo D t.first t.k t.h t.l (blocksN t.h t.l.length)):StandsTo D (firstOf t) t.k t.h t.l (blocksN t.h t.l.length):=by
 unfold firstOf
 by_cases h0:t.l.length=0
 ·rw[if_pos h0,h0,blocks_zero]
  intro j hj;omega
 ·rw[if_neg h0];exact hs
theorem first_in{t:Wt}{sz:Nat}(hok:WtOk t sz):blocksN t.h t.l.length≤t.blocks∧∀z,inX (firstOf t,blocksN t.h t.l.length) z↔t.first≤z∧z<t.first+blocksN t.h t.l.length:=by
 refine⟨by rw[hok.blocks.1];exact blocks_mono hok.h.1 hok.bound.2,fun z=>?_⟩
 unfold inX firstOf
 by_cases h0:t.l.length=0
 ·rw[if_pos h0,h0,blocks_zero];simp only;omega
 ·rw[if_neg h0]
theorem WdF.gives(h:WdF X os m W G D A S)(hi:os[i]?=some (wrO X.p x t X.sz)){n:Nat}(hn:n≤t.blocks):
  (giveN S (t.first+n) (t.blocks-n)).first=S.first∧(giveN S (t.first+n) (t.blocks-n)).blocks=S.blocks∧(∀z,hasB (giveN S (t.first+n) (t.blocks-n)).fr z↔hasB S.fr z∨(t.first+n≤z∧z<t.first+t.blocks))∧sumB (giveN S (t.first+n) (t.blocks-n)).fr=sumB S.fr+(t.blocks-n):=by
 obtain⟨k1,k2⟩:=h.held hi
 have k2:0<t.blocks→S.first≤t.first∧t.first+t.blocks≤S.first+S.blocks:=k2
 have h1:=giveN_from (S:=S) h.sys.sok (f:=t.first+n) (n:=t.blocks-n) (by
  rcases Nat.eq_zero_or_pos (t.blocks-n)with h0|h0
  ·exact .inr h0
  ·have:=k2 (by omega);exact .inl (by omega)) (by
  rcases Nat.eq_zero_or_pos (t.blocks-n)with h0|h0
  ·exact .inr h0
  ·have:=k2 (by omega);exact .inl (by omega)) (fun z z1 z2=>k1 z ⟨by show t.first≤z;omega,by show z<t.first+t.blocks;omega⟩)
 rw[show t.first+n+(t.blocks-n)=t.first+t.blocks by omega]at h1
 exact h1
theorem WdF.shut(h:WdF X os m W G D A S)(hi:os[i]?=some (wrO X.p x t X.sz)){t':Wt}(ht:t'.b=t.b){G':Nat→Prop}{D':St}{m':Nat}(k1:Sys W' G' X.p ⟨D',release A t.b X.sz,giveN S (t.first+0) (t.blocks-0)⟩ (X.n+m'))(k2:WShut W' x X.p t')(k3:Far (fun k=>G k∨k=x∨k=t.g∨k=t.b) W W')(k4:∀k,G' k→G k∨W.heap.size≤k)
  (hD:D'.size=D.size∧D'.blocks=D.blocks) (alive:D'.down=false∧D'.fb=false) (calm:Calm D→Calm D') (acts:D'.acts≤((X.C+m':Nat):Int)) (now:∀z:Nat,D'.now z=D.now z) (few:X.N+m'≤1000000:=by first|exact(WdF.few (by assumption)).2|omega):Wd X (os.set i (wsO X.p x t')) m' W':=by
 have hst2:wordsAt A.st t.b=some X.sz:=h.st i _ t.b X.sz hi rfl
 have hgv:=h.gives hi (Nat.zero_le _)
 refine⟨G',_,_,_,h.step hi k1 (k3.mono fun k hk=>hk.elim .inl fun hk=>hk.elim (fun e=>.inr (.inl e)) fun hk=>hk.elim (fun e=>.inr (.inr (.inr e))) fun e=>.inr (.inr (.inl e))) k4 wsO_ok k2 (fun k hk=>?_) hD alive calm acts (fun z _=>now z) trivial rfl ?_ (fun b n hw hb=>wordsAt_without _ _ _ _ hw fun e=>hb (.inr (.inl e))) (fun b n hb=>by cases hb) ⟨hgv.1,hgv.2.1⟩ (fun z=>?_) (fun z hz=>absurd hz (inX_zero _ _)) ?_⟩
 ·have hk':(wrO X.p x t X.sz).K k:=hk.elim .inl fun hk=>.inr (.inl (hk.trans ht))
  refine⟨.inl hk',hk.elim (fun e=>by rw[e];exact k2.1.lt) fun e=>by rw[e];exact k2.2.lt,fun hg=>(k4 k hg).elim ((h.mem i _ hi).2 k hk').2.2 fun hl=>?_⟩
  have:=((h.mem i _ hi).2 k hk').1;omega
 ·have hu:=release_used h.sys.sound hst2
  show (release A t.b X.sz).used+X.sz=A.used+0
  exact hu
 ·rw[hgv.2.2.1 z]
  exact⟨fun hz=>⟨hz,inX_zero _ _⟩,fun hz=>hz.1⟩
 ·show sumB (giveN S (t.first+0) (t.blocks-0)).fr+0=sumB S.fr+t.blocks
  rw[hgv.2.2.2];omega
theorem WdF.filed(h:WdF X os m W G D A S)(hi:os[i]?=some (wrO X.p x t X.sz))(hok:WtOk t X.sz){G':Nat→Prop}{D':St}{m':Nat}(k1:Sys W' G' X.p ⟨D',release A t.b X.sz,giveN S (t.first+blocksN t.h t.l.length) (t.blocks-blocksN t.h t.l.length)⟩ (X.n+m'))(k2:WShut W' x X.p t)(k3:Far (fun k=>G k∨k=x∨k=t.g∨k=t.b) W W')(k4:∀k,G' k→G k∨W.heap.size≤k)
  (hD:D'.size=D.size∧D'.blocks=D.blocks) (alive:D'.down=false∧D'.fb=false) (calm:Calm D→Calm D') (acts:D'.acts≤((X.C+m':Nat):Int)) (now:∀z:Nat,¬inX (t.first,t.blocks) z→D'.now z=D.now z) (hs:StandsTo D' t.first t.k t.h t.l (blocksN t.h t.l.length)) (few:X.N+m'≤1000000:=by first|exact(WdF.few (by assumption)).2|omega):Wd X (os.set i (wfO X.p x t X.sz)) m' W':=by
 have hst2:wordsAt A.st t.b=some X.sz:=h.st i _ t.b X.sz hi rfl
 obtain⟨hn,hin⟩:=first_in hok
 have hgv:=h.gives hi hn
 have hheld:=(h.held hi).1
 refine⟨G',_,_,_,h.step hi k1 (k3.mono fun k hk=>hk.elim .inl fun hk=>hk.elim (fun e=>.inr (.inl e)) fun hk=>hk.elim (fun e=>.inr (.inr (.inr e))) fun e=>.inr (.inr (.inl e))) k4 wfO_ok k2 (fun k hk=>?_) hD alive calm acts now (fun _=>stands_first hs) rfl ?_ (fun b n hw hb=>wordsAt_without _ _ _ _ hw fun e=>hb (.inr (.inl e))) (fun b n hb=>by cases hb) ⟨hgv.1,hgv.2.1⟩ (fun z=>?_) (fun z hz=>?_) ?_⟩
 ·have hk':(wrO X.p x t X.sz).K k:=hk.elim .inl fun hk=>.inr (.inl hk)
  refine⟨.inl hk',hk.elim (fun e=>by rw[e];exact k2.1.lt) fun e=>by rw[e];exact k2.2.lt,fun hg=>(k4 k hg).elim ((h.mem i _ hi).2 k hk').2.2 fun hl=>?_⟩
  have:=((h.mem i _ hi).2 k hk').1;omega
 ·have hu:=release_used h.sys.sound hst2
  show (release A t.b X.sz).used+X.sz=A.used+0
  exact hu
 ·rw[hgv.2.2.1 z]
  have h1:inX (wfO X.p x t X.sz).ex z↔t.first≤z∧z<t.first+blocksN t.h t.l.length:=hin z
  have h2:inX (wrO X.p x t X.sz).ex z↔t.first≤z∧z<t.first+t.blocks:=Iff.rfl
  have h3:=hheld z
  rw[h1,h2]
  rw[h2]at h3
  refine⟨fun hz=>?_,fun⟨hz,hno⟩=>?_⟩
  ·rcases hz with hz|hz
   ·exact⟨.inl hz,fun hx=>h3 ⟨hx.1,by omega⟩ hz⟩
   ·exact⟨.inr ⟨by omega,hz.2⟩,by omega⟩
  ·rcases hz with hz|hz
   ·exact .inl hz
   ·exact .inr ⟨by omega,hz.2⟩
 ·have h1:inX (wfO X.p x t X.sz).ex z↔t.first≤z∧z<t.first+blocksN t.h t.l.length:=hin z
  rw[h1]at hz
  exact .inl ⟨hz.1,by show z<t.first+t.blocks;omega⟩
 ·show sumB (giveN S (t.first+blocksN t.h t.l.length) (t.blocks-blocksN t.h t.l.length)).fr+blocksN t.h t.l.length=sumB S.fr+t.blocks
  rw[hgv.2.2.2];omega
theorem wd_close(h:Wd X os m W)(hi:os[i]?=some (wrO X.p x t X.sz))(hok:WtOk t X.sz)(hn:X.N+m<1000000):
  Calls Tryz.prog 55 #[.pointer (some ⟨x,0,none⟩)] W fun e w'=>
   (e=.returned (.tuple #[fileV (firstOf t) (blocksN t.h t.l.length) t.k t.l.length,.int .i64 0])∧Wd X (os.set i (wfO X.p x t X.sz)) (m+(blocksN t.h t.l.length-t.l.length/t.h)) w')∨
   (e=.returned (.tuple #[fileV 0 0 0 0,.int .i64 6])∧¬X.cm∧Wd X (os.set i (wsO X.p x t)) (m+1) w'):=by
 obtain⟨G,D,A,S,h⟩:=h
 have hm:=(h.mem i _ hi).1
 have ho:=h.wout hi
 have hsz:=h.size
 have hst:wordsAt A.st t.b=some D.size:=by rw[h.size];exact h.st i _ t.b X.sz hi rfl
 have hst':WStand D t:=(h.dsk i _ hi) h.size
 have hok':WtOk t D.size:=by rw[hsz];exact hok
 refine(wclose_any (F:=⟨D,A,S⟩) h.sys (by have:=h.few;omega) hok' (by show WOpen W x X.p t D.size;rw[hsz];exact hm) ho hst).mono ?_
 rintro e w' (⟨hm0,rfl,G',k1,k2,k3,k4⟩|⟨hm0,hw0,rfl,G',k1,k2,k3,k4⟩|⟨hm0,hw0,rfl,G',k1,k2,k3,k4⟩)
 ·refine .inl ⟨rfl,?_⟩
  rw[blocks_full hm0,Nat.sub_self,Nat.add_zero]
  have k1':Sys w' G' X.p ⟨D,release A t.b D.size,giveN S (t.first+blocksN t.h t.l.length) (t.blocks-blocksN t.h t.l.length)⟩ (X.n+m):=k1
  rw[hsz]at k1'
  exact h.filed hi hok k1' k2 k3 k4 ⟨rfl,rfl⟩ h.alive id h.acts (fun _ _=>rfl) (wstand_full hst' hm0)
 ·refine .inl ⟨rfl,?_⟩
  have hl0:0<t.l.length:=by
   rcases Nat.eq_zero_or_pos t.l.length with h1|h1
   ·rw[h1]at hm0;simp at hm0
   ·exact h1
  have hwr:Wrote D (write D (lastAd t:Nat) (lastW8 D.size t)).2 1:=wrote_write hw0
  have hli:=last_in (D:=D) hok' hl0
  have k1':Sys w' G' X.p ⟨(write D (lastAd t:Nat) (lastW8 D.size t)).2,release A t.b (write D (lastAd t:Nat) (lastW8 D.size t)).2.size,giveN S (t.first+blocksN t.h t.l.length) (t.blocks-blocksN t.h t.l.length)⟩ (X.n+m+1):=k1
  rw[hwr.size,hsz]at k1'
  rw[hsz]at hwr hw0
  have hb1:blocksN t.h t.l.length-t.l.length/t.h=1:=by unfold blocksN;rw[if_pos (by omega)];omega
  rw[hb1]
  exact h.filed hi hok k1' k2 k3 k4 ⟨hwr.size,hwr.blocks⟩ (hwr.alive h.alive) hwr.calm (by rw[hwr.acts];have:=h.acts;omega) (fun z hz=>(now_write hw0).2.1 _ fun e=>hz (by
   have e':z=lastAd t:=by omega
   rw[e'];exact hli)) (by
   have:=wstand_close hok.h.1 hst' hm0 (by rw[hsz];exact hw0)
   rw[hsz]at this;exact this)
 ·have hl0:0<t.l.length:=by
   rcases Nat.eq_zero_or_pos t.l.length with h1|h1
   ·rw[h1]at hm0;simp at hm0
   ·exact h1
  have hbl:0<t.blocks:=by rw[hok.blocks.1];exact blocks_pos hok.h.1 (by have:=hok.bound.2;omega)
  have hin:((t.first+t.blocks:Nat):Int)≤D.blocks:=h.inR hi hbl
  obtain⟨f1,f2,f3,f4⟩:=fail_write h.alive (last_right hok' hl0 hin) (last_len hok' hl0) hw0
  obtain⟨nf1,nf2,nf3⟩:=now_fail hw0
  refine .inr ⟨by rw[f1],fun hc=>f4 (h.calm hc),?_⟩
  have k1':Sys w' G' X.p ⟨(write D (lastAd t:Nat) (lastW8 D.size t)).2,release A t.b (write D (lastAd t:Nat) (lastW8 D.size t)).2.size,giveN S (t.first+0) (t.blocks-0)⟩ (X.n+m+1):=k1
  have nf2':(write D (lastAd t:Nat) (lastW8 D.size t)).2.size=D.size:=nf2
  rw[nf2',hsz]at k1'
  rw[hsz]at nf1 nf2 nf3 f2 f3
  exact h.shut hi rfl k1' k2 k3 k4 ⟨nf2.trans hsz.symm,nf3⟩ f3 (fun hc=>absurd hc f4) (by rw[f2];have:=h.acts;omega) (fun z=>nf1 z)
theorem wd_drop(h:Wd X os m W)(hi:os[i]?=some (wrO X.p x t X.sz))(hok:WtOk t X.sz)(u:FrameMode):
  CallsD Tryz.prog 53 #[.pointer (some ⟨x,0,none⟩)] u W fun e u' w'=>u'=u∧(e=.returned (.tuple #[])∧Wd X (os.set i (wsO X.p x t)) m w'):=by
 obtain⟨G,D,A,S,h⟩:=h
 obtain⟨ws,hm,hh⟩:=(h.mem i _ hi).1
 have ho:=h.wout hi
 have hsz:=h.size
 have hst:wordsAt A.st t.b=some D.size:=by rw[h.size];exact h.st i _ t.b X.sz hi rfl
 refine(wdrop_def u (F:=⟨D,A,S⟩) h.sys hm.row hm.buf (by have:=hok.sz;omega) ho.x hst hm.apart.1 hok.first hok.blocks.2).mono ?_
 rintro e u' w' ⟨rfl,rfl,he⟩
 refine⟨rfl,rfl,?_⟩
 have hx:=he.row hm.row ho.x hm.apart.1
 obtain⟨G',k1,k2,k3,k4⟩:=he
 have k1':Sys w' G' X.p ⟨D,release A t.b D.size,giveN S (t.first+0) (t.blocks-0)⟩ (X.n+m):=k1
 rw[hsz]at k1'
 exact h.shut hi rfl k1' ⟨hx,k4⟩ (k2.mono fun k hk=>hk.elim .inl fun e=>.inr (.inr (.inr e))) k3 ⟨rfl,rfl⟩ h.alive id h.acts (fun _=>rfl)
theorem wd_drop_shut(hs:WShut W x X.p t)(u:FrameMode):CallsD Tryz.prog 53 #[.pointer (some ⟨x,0,none⟩)] u W fun e u' w'=>u'=u∧(e=.returned (.tuple #[])∧w'=W):=wdrop_def_shut u hs.1 hs.2
def Rm(X:Cx)(os:List Asn)(k n:Nat):Prop:=∀z,k≤z→z<k+n→hasB X.S0.fr z∧∀(i:Nat) (a:Asn),os[i]?=some a→¬inX a.ex z
theorem wd_write(h:Wd X os m W)(k bound:Nat)(hhol:0<holdsI X.sz k)(hb:bound≤100000)(hroom:X.sz+sumN Asn.gw os≤X.rm):
  Calls Tryz.prog 52 #[.pointer (some ⟨X.p.w,0,none⟩),.int .i64 k,.int .i64 bound] W fun e w'=>
   (e=.returned (.tuple #[.pointer none,.int .i64 5])∧(∀q,¬Rm X os q (blocksN (holdsI X.sz k) bound))∧Wd X os m w')∨
   (∃x t,e=.returned (.tuple #[.pointer (some ⟨x,0,none⟩),.int .i64 0])∧t.k=k∧t.h=holdsI X.sz k∧t.bound=bound∧t.l=[]∧WtOk t X.sz∧Wd X (os++[wrO X.p x t X.sz]) m w'):=by
 obtain⟨G,D,A,S,h⟩:=h
 have hsz:=h.size
 have hwa:WArgs ⟨D,A,S⟩ (k:Int) (bound:Int):=⟨by show holdsI D.size k≠0;rw[hsz];omega,by omega,by omega⟩
 have hu:=h.used
 have hrm:=h.room
 have hrr:D.size≤A.room-A.used:=by rw[hsz,hrm,hu];omega
 refine(wok_write (F:=⟨D,A,S⟩) h.sys (k:Int) (bound:Int) h.bel).mono ?_
 rintro e w' (⟨er,he,hw,hs⟩|⟨x,t,S1,G1,he,_,_,htk,htb,hth,htl,htt,hq,k4,k5,k7,k8,x1,x2,x3⟩)
 ·rcases hw with⟨_,hno⟩|⟨_,_,hlt⟩|⟨rfl,_,_,hpos,hno⟩
  ·exact absurd hwa hno
  ·exact absurd hrr (by show ¬D.size≤A.room-A.used;have:A.room-A.used<D.size:=hlt;omega)
  ·refine .inl ⟨he,fun q hr=>hno q fun z z1 z2=>?_,?_⟩
   ·have hr2:=hr z z1 (by
     have e2:blocksN (holdsI D.size (k:Int)) (bound:Int).toNat=blocksN (holdsI X.sz k) bound:=by rw[hsz,Int.toNat_natCast]
     have z2':z<q+blocksN (holdsI D.size (k:Int)) (bound:Int).toNat:=z2
     rw[e2]at z2';exact z2')
    exact(h.free z).2 hr2
   ·obtain⟨G',h1,h2,h3⟩:=hs
    have hgr:=h.grow
    have hnil:(os++[nilO])[os.length]?=some nilO:=by rw[List.getElem?_append_right (Nat.le_refl _),Nat.sub_self];rfl
    have hstep:=hgr.step hnil h1 (h2.mono fun k hk=>.inl hk) h3 nilO_ok trivial (fun k hk=>hk.elim) ⟨rfl,rfl⟩ h.alive id h.acts (fun _ _=>rfl) trivial rfl rfl (fun _ _ hw _=>hw) (fun _ _ hb=>by cases hb) ⟨rfl,rfl⟩ (fun z=>⟨fun hz=>⟨.inl hz,inX_zero _ _⟩,fun hz=>hz.1.elim id fun hx=>absurd hx (inX_zero _ _)⟩) (fun z hz=>.inl hz) rfl
    rw[List.set_append_right _ _ (Nat.le_refl _),Nat.sub_self]at hstep
    exact Wd.drop ⟨_,_,_,_,hstep⟩ rfl rfl
 ·have hkk:t.k=k:=by omega
  have hbb:t.bound=bound:=by omega
  have hhh:t.h=holdsI X.sz k:=by rw[hth];show holdsI D.size k= _;rw[hsz]
  have hok:WtOk t X.sz:=by rw[←hsz];exact k5.ok
  refine .inr ⟨x,t,he,hkk,hhh,hbb,htl,hok,?_⟩
  have hgr:=h.grow
  have hnil:(os++[nilO])[os.length]?=some nilO:=by rw[List.getElem?_append_right (Nat.le_refl _),Nat.sub_self];rfl
  have hex:∀z,inX (t.first,t.blocks) z→hasB S.fr z:=fun z hz=>by
   rcases htt with⟨h0,_,_⟩|⟨_,htk2,_⟩
   ·unfold inX at hz;simp only at hz;omega
   ·exact htk2.room z hz.1 hz.2
  obtain⟨ws,hm,_⟩:=id k5.mem
  obtain⟨q1,q2,q3⟩:=hm.lt
  have hstep:=hgr.step (a':=wrO X.p x t X.sz) (D':=D) (A':=grant A t.b D.size) (S':=S1) hnil k4 (k7.mono fun k hk=>.inl hk) k8 (wrO_ok hok) (by show WOpen w' x X.p t X.sz;rw[←hsz];exact k5.mem) (fun k hk=>?_) ⟨rfl,rfl⟩ h.alive id h.acts (fun _ _=>rfl) (fun _=>k5.stand) rfl (by show A.used+D.size+0=A.used+X.sz;omega) (fun b n hw _=>wordsAt_append _ _ _ _ _ hw) (fun b n hb=>by injection hb with hb;injection hb with h1 h2;subst h1 h2;rw[←hsz];exact k5.st) (by
    rcases htt with⟨_,_,e⟩|⟨_,htk2,_⟩
    ·rw[e];exact⟨rfl,rfl⟩
    ·exact⟨htk2.first,htk2.blocks⟩) (fun z=>?_) (fun z hz=>.inr (hex z hz)) ?_
  ·rw[List.set_append_right _ _ (Nat.le_refl _),Nat.sub_self]at hstep
   exact⟨_,_,_,_,hstep⟩
  ·exact hk.elim (fun e=>by rw[e];exact⟨.inr x1,q1,k5.out.x⟩) fun hk=>hk.elim (fun e=>by rw[e];exact⟨.inr x2,q2,k5.out.b⟩) fun e=>by rw[e];exact⟨.inr x3,q3,k5.out.g⟩
  ·rcases htt with⟨h0,h1,e⟩|⟨_,htk2,_⟩
   ·rw[e]
    have hno:¬inX (wrO X.p x t X.sz).ex z:=fun hz=>by have hz:inX (t.first,t.blocks) z:=hz;unfold inX at hz;simp only at hz;omega
    exact⟨fun hz=>⟨.inl hz,hno⟩,fun hz=>hz.1.elim id fun hx=>absurd hx (inX_zero _ _)⟩
   ·rw[htk2.has z]
    exact⟨fun hz=>⟨.inl hz.1,hz.2⟩,fun hz=>⟨hz.1.elim id fun hx=>absurd hx (inX_zero _ _),hz.2⟩⟩
  ·have:=taken_sum htt
   show sumB S1.fr+t.blocks=sumB S.fr+0
   omega
end
section
variable {X : Cx} {os : List Asn} {m i : Nat} {W W' : World} {G : Nat → Prop} {D : St} {A : Ar} {S : Sp} {a : Asn} {x : Nat} {t : Wt} {r : Rt} {l : List Tup}
theorem nil_at(os:List Asn):(os++[nilO])[os.length]?=some nilO:=by rw[List.getElem?_append_right (Nat.le_refl _),Nat.sub_self];rfl
theorem snoc_set(os:List Asn)(a b:Asn):(os++[a]).set os.length b=os++[b]:=by rw[List.set_append_right _ _ (Nat.le_refl _),Nat.sub_self];rfl
theorem set_at(os:List Asn){i:Nat}{a:Asn}(h:os[i]?=some a)(b:Asn):(os.set i b)[i]?=some b:=by
 rw[List.getElem?_set,if_pos rfl,if_pos]
 rcases Nat.lt_or_ge i os.length with hl|hl
 ·exact hl
 ·rw[List.getElem?_eq_none hl]at h;cases h
theorem set_far{os:List Asn}{i j:Nat}{a b:Asn}(h:os[j]?=some a)(hne:i≠j):(os.set i b)[j]?=some a:=by rw[List.getElem?_set,if_neg hne];exact h
theorem snoc_old{os:List Asn}{j:Nat}{a b:Asn}(h:os[j]?=some a):(os++[b])[j]?=some a:=by
 rw[List.getElem?_append_left]
 ·exact h
 ·rcases Nat.lt_or_ge j os.length with hl|hl
  ·exact hl
  ·rw[List.getElem?_eq_none hl]at h;cases h
structure ROk (r:Rt) (sz:Nat) (l:List Tup):Prop where
 ok:RtOk r sz
 cnt:l.length=r.count
 fit:∀u∈l,TupOk u∧fitsT r.k u=true
def Src(os:List Asn)(sz:Nat)(first k h:Nat)(l:List Tup):Prop:=∃(j:Nat) (f:Asn),os[j]?=some f∧(∀D:St,D.size=sz→f.dA D→StandsTo D first k h l (blocksN h l.length))∧(0<l.length→f.ex.1≤first∧first+blocksN h l.length≤f.ex.1+f.ex.2)
theorem Src.set{sz first k h:Nat}(hs:Src os sz first k h l){i:Nat}{a b:Asn}(hi:os[i]?=some a)(ha:a.dA=b.dA∧a.ex=b.ex):Src (os.set i b) sz first k h l:=by
 obtain⟨j,f,h1,h2,h3⟩:=hs
 by_cases hij:i=j
 ·subst hij
  rw[hi]at h1;injection h1 with h1;subst h1
  exact⟨i,b,set_at os hi b,by rw[←ha.1];exact h2,by rw[←ha.2];exact h3⟩
 ·exact⟨j,f,set_far h1 hij,h2,h3⟩
theorem Src.snoc{sz first k h:Nat}(hs:Src os sz first k h l)(b:Asn):Src (os++[b]) sz first k h l:=by
 obtain⟨j,f,h1,h2,h3⟩:=hs
 exact⟨j,f,snoc_old h1,h2,h3⟩
theorem wd_read(h:Wd X os m W)(first nb k hh count:Nat)(l:List Tup)(hhe:hh=holdsI X.sz k)(hh0:0<hh)(hnb:nb=blocksN hh count)(hcount:count≤100000)(hfirst:first≤2000000)(hroom:X.sz+sumN Asn.gw os≤X.rm):
  Calls Tryz.prog 39 #[.pointer (some ⟨X.p.w,0,none⟩),.agg #[.int .i64 first,.int .i64 nb,.int .i64 k,.int .i64 count]] W fun e w'=>∃x b g,e=.returned (.tuple #[.pointer (some ⟨x,0,none⟩),.int .i64 0])∧RtOk ⟨k,hh,first,nb,count,0,b,g⟩ X.sz∧Wd X (os++[rdO X.p x ⟨k,hh,first,nb,count,0,b,g⟩ X.sz l]) m w':=by
 obtain⟨G,D,A,S,h⟩:=h
 have hsz:=h.size
 have hu:=h.used
 have hrm:=h.room
 have hz:8≤X.sz∧X.sz≤256:=by rw[←hsz];exact h.sys.size
 obtain⟨k',hk1,hk2,hk3,hk4⟩:=holds_pos (size:=X.sz) (width:=(k:Int)) (by rw[←hhe];omega)
 obtain rfl:k=k':=by omega
 refine(fread_ok (F:=⟨D,A,S⟩) h.sys k hh first nb count (by show hh=holdsI D.size k;rw[hsz];exact hhe) hh0 hnb (by omega) (by show D.size≤A.room-A.used;rw[hsz,hrm,hu];omega)).mono ?_
 rintro e w' ⟨x,b,g,he,n1,n2,n3,G',k1,⟨ws,k2⟩,k3,k4,k5⟩
 have hle:=holds_le X.sz (k:Int)
 have hok:RtOk ⟨k,hh,first,nb,count,0,b,g⟩ X.sz:=⟨⟨hk2,hk3⟩,⟨hh0,by rw[hhe];exact hk4,by show hh≤254;rw[hhe];omega⟩,hz,⟨by show count≤ _;omega,Nat.zero_le _⟩,hfirst⟩
 have n2:W.heap.size≤b:=n2
 refine⟨x,b,g,he,hok,?_⟩
 have hgr:=h.grow
 have hq:∀q∈A.st,q.1≠b:=fun q hq e=>by have:=(h.sys.buf hq).1.lt;omega
 obtain⟨q1,q2,q3⟩:=k2.lt
 have hstep:=hgr.step (a':=rdO X.p x ⟨k,hh,first,nb,count,0,b,g⟩ X.sz l) (D':=D) (A':=grant A b D.size) (S':=S) (nil_at os) k1 (k4.mono fun k hk=>.inl hk) k5 rdO_ok ⟨ws,by rw[←hsz];exact k2,fun h0=>by simp at h0⟩ (fun k hk=>?_) ⟨rfl,rfl⟩ h.alive id h.acts (fun _ _=>rfl) trivial rfl (by show A.used+D.size+0=A.used+X.sz;omega) (fun b n hw _=>wordsAt_append _ _ _ _ _ hw) (fun b' n hb=>by injection hb with hb;injection hb with h1 h2;subst h1 h2;rw[←hsz];exact wordsAt_new _ _ _ hq) ⟨rfl,rfl⟩ (fun z=>⟨fun hz=>⟨.inl hz,inX_zero _ _⟩,fun hz=>hz.1.elim id fun hx=>absurd hx (inX_zero _ _)⟩) (fun z hz=>absurd hz (inX_zero _ _)) rfl
 ·rw[snoc_set]at hstep
  exact⟨_,_,_,_,hstep⟩
 ·exact hk.elim (fun e=>by rw[e];exact⟨.inr n1,q1,k3.x⟩) fun hk=>hk.elim (fun e=>by rw[e];exact⟨.inr n2,q2,k3.b⟩) fun e=>by rw[e];exact⟨.inr n3,q3,k3.g⟩
theorem WdF.rout{l:List Tup}(h:WdF X os m W G D A S)(hi:os[i]?=some (rdO X.p x r X.sz l)):ROut G x r:=⟨((h.mem i _ hi).2 x (.inl rfl)).2.2,((h.mem i _ hi).2 r.b (.inr (.inl rfl))).2.2,((h.mem i _ hi).2 r.g (.inr (.inr rfl))).2.2⟩
theorem WdF.rshut(h:WdF X os m W G D A S)(hi:os[i]?=some (rdO X.p x r X.sz l)){G':Nat→Prop}{D':St}{m':Nat}(k1:Sys W' G' X.p ⟨D',release A r.b X.sz,S⟩ (X.n+m'))(k2:RShut W' x X.p r)(k3:Far (fun k=>G k∨k=r.b∨k=r.g) W W')(k4:∀k,G' k→G k∨W.heap.size≤k)
  (hD:D'.size=D.size∧D'.blocks=D.blocks) (alive:D'.down=false∧D'.fb=false) (calm:Calm D→Calm D') (acts:D'.acts≤((X.C+m':Nat):Int)) (now:∀z:Nat,D'.now z=D.now z) (few:X.N+m'≤1000000:=by first|exact(WdF.few (by assumption)).2|omega):Wd X (os.set i (rsO X.p x r)) m' W':=by
 have hst2:wordsAt A.st r.b=some X.sz:=h.st i _ r.b X.sz hi rfl
 refine⟨G',_,_,_,h.step hi k1 (k3.mono fun k hk=>hk.elim .inl fun hk=>hk.elim (fun e=>.inr (.inr (.inl e))) fun e=>.inr (.inr (.inr e))) k4 rsO_ok k2 (fun k hk=>?_) hD alive calm acts (fun z _=>now z) trivial rfl ?_ (fun b n hw hb=>wordsAt_without _ _ _ _ hw fun e=>hb (.inr (.inl e))) (fun b n hb=>by cases hb) ⟨rfl,rfl⟩ (fun z=>⟨fun hz=>⟨.inl hz,inX_zero _ _⟩,fun hz=>hz.1.elim id fun hx=>absurd hx (inX_zero _ _)⟩) (fun z hz=>absurd hz (inX_zero _ _)) rfl⟩
 ·have hk':(rdO X.p x r X.sz l).K k:=hk.elim .inl fun hk=>.inr (.inl hk)
  refine⟨.inl hk',hk.elim (fun e=>by rw[e];exact k2.1.lt) fun e=>by rw[e];exact k2.2.lt,fun hg=>(k4 k hg).elim ((h.mem i _ hi).2 k hk').2.2 fun hl=>?_⟩
  have:=((h.mem i _ hi).2 k hk').1;omega
 ·have hu:=release_used h.sys.sound hst2
  show (release A r.b X.sz).used+X.sz=A.used+0
  exact hu
theorem pos_next{h i:Nat}(hh:0<h)(h0:(i+1)%h≠0):(i+1)/h=i/h:=div_succ_ne hh h0
theorem wd_next(h:Wd X os m W)(hi:os[i]?=some (rdO X.p x r X.sz l))(hok:ROk r X.sz l)(hn:X.N+m<1000000)(hpos:r.pos<r.count)(hsrc:Src os X.sz r.first r.k r.h l){t:Tup}(ht:l[r.pos]?=some t):
  Calls Tryz.prog 41 #[.pointer (some ⟨x,0,none⟩)] W fun e w'=>
   (e=.returned (.tuple #[.agg #[.int .i64 t.a,.int .i64 t.b,.int .i64 t.c,.int .i64 t.d,.int .i64 t.e],.bool true,.int .i64 0])∧Wd X (os.set i (rdO X.p x {r with pos:=r.pos+1} X.sz l)) (m+(blocksN r.h (r.pos+1)-blocksN r.h r.pos)) w')∨
   (e=.returned (.tuple #[.agg #[.int .i64 0,.int .i64 0,.int .i64 0,.int .i64 0,.int .i64 0],.bool false,.int .i64 6])∧¬X.cm∧Wd X (os.set i (rsO X.p x r)) (m+1) w'):=by
 obtain⟨G,D,A,S,h⟩:=h
 obtain⟨ws,hm,hbuf⟩:=(h.mem i _ hi).1
 have ho:=h.rout hi
 have hsz:=h.size
 have hst2:wordsAt A.st r.b=some X.sz:=h.st i _ r.b X.sz hi rfl
 have hrt:RtOk r D.size:=by rw[hsz];exact hok.ok
 have hm':RMem W x X.p r D.size ws:=by rw[hsz];exact hm
 obtain⟨j,f,hj,hf1,hf2⟩:=hsrc
 have hstd:=hf1 D hsz (h.dsk j f hj)
 have hl0:0<l.length:=by rw[hok.cnt];omega
 have hbn:=blocks_pos hok.ok.h.1 hl0
 obtain⟨hx1,hx2⟩:=hf2 hl0
 have hjb:r.pos/r.h<blocksN r.h l.length:=by
  have h1:=blocks_mul (h:=r.h) (c:=l.length) hok.ok.h.1
  apply Nat.lt_of_mul_lt_mul_right (a:=r.h)
  have h2:=Nat.div_mul_le_self r.pos r.h
  rw[hok.cnt]at h1⊢
  exact Nat.lt_of_le_of_lt h2 (Nat.lt_of_lt_of_le hpos h1)
 have hrg:=h.inR hj (by omega)
 have hright:right D ((r.first+r.pos/r.h:Nat):Int)=true:=by
  clear hbuf hstd
  generalize r.pos/r.h=qq at*
  unfold right;simp;omega
 have hto:=hok.fit t (List.mem_of_getElem? ht)
 have hnext:blocksN r.h (r.pos+1)-blocksN r.h r.pos=if r.pos%r.h=0 then 1 else 0:=by
  rw[blocks_next hok.ok.h.1];split<;>omega
 have hfin:∀w',(∀D' m',Wrote D D' m'→(∀z,D'.now z=D.now z)→(m'=if r.pos%r.h=0 then 1 else 0)→(∃ws',NextTo W G X.p ⟨D',A,S⟩ (X.n+(m+m')) x {r with pos:=r.pos+1} ws' w'∧ws'.take (min r.h (r.count-r.pos/r.h*r.h)*r.k)=payT r.h r.k l (r.pos/r.h))→Wd X (os.set i (rdO X.p x {r with pos:=r.pos+1} X.sz l)) (m+(blocksN r.h (r.pos+1)-blocksN r.h r.pos)) w'):=fun w' D' m' hwr hnow hm1 ⟨ws',⟨G',k1,k2,k3,k4⟩,k5⟩=>by
  rw[hnext,←hm1]
  have hm01:m'≤1:=by rw[hm1];split<;>omega
  obtain⟨q1,q2,q3⟩:=k2.lt
  have k2':RMem w' x X.p {r with pos:=r.pos+1} X.sz ws':=by
   have e:D'.size=X.sz:=hwr.size.trans hsz
   have k2:RMem w' x X.p {r with pos:=r.pos+1} D'.size ws':=k2
   rw[e]at k2;exact k2
  refine⟨G',D',A,S,h.step hi k1 (k3.mono fun k hk=>hk.elim .inl fun hk=>hk.elim (fun e=>.inr (.inr (.inr e))) fun e=>.inr (.inl e)) k4 rdO_ok ⟨ws',k2',fun h0=>?_⟩ (fun k hk=>?_) ⟨hwr.size,hwr.blocks⟩ (hwr.alive h.alive) hwr.calm (by rw[hwr.acts];have:=h.acts;omega) (fun z _=>hnow z) trivial rfl rfl (fun _ _ hw _=>hw) (fun b n hb=>by injection hb with hb;injection hb with h1 h2;subst h1 h2;exact hst2) ⟨rfl,rfl⟩ (fun z=>⟨fun hz=>⟨.inl hz,inX_zero _ _⟩,fun hz=>hz.1.elim id fun hx=>absurd hx (inX_zero _ _)⟩) (fun z hz=>absurd hz (inX_zero _ _)) rfl⟩
  ·show ws'.take (min r.h (r.count-(r.pos+1)/r.h*r.h)*r.k)=payT r.h r.k l ((r.pos+1)/r.h)
   rw[pos_next hok.ok.h.1 h0];exact k5
  ·have hk':(rdO X.p x r X.sz l).K k:=hk
   refine⟨.inl hk',hk.elim (fun e=>by rw[e];exact q1) fun hk=>hk.elim (fun e=>by rw[e];exact q2) fun e=>by rw[e];exact q3,fun hg=>(k4 k hg).elim ((h.mem i _ hi).2 k hk').2.2 fun hl=>?_⟩
   have:=((h.mem i _ hi).2 k hk').1;omega
 by_cases hmid:r.pos%r.h=0
 ·by_cases he:(read D ((r.first+r.pos/r.h:Nat):Int)).1=0
  ·refine(fnext_part (F:=⟨D,A,S⟩) h.sys (by have:=h.few;omega) hrt hm' ho hok.cnt hpos (fun _=>⟨he,?_⟩) (fun h0=>absurd hmid h0) ht hto.1 hto.2).mono ?_
   ·exact hstd _ hjb
   ·rintro e w' ⟨he1,ws',k1,k2⟩
    refine .inl ⟨he1,hfin w' (read D ((r.first+r.pos/r.h:Nat):Int)).2 1 (wrote_read he) (fun z=>(now_read _ _ _).1) (by rw[if_pos hmid]) ⟨ws',?_,k2⟩⟩
    have e2:nextD D r=(read D ((r.first+r.pos/r.h:Nat):Int)).2:=by unfold nextD;rw[if_pos hmid]
    rw[←e2];exact k1
  ·obtain⟨f1,f2,f3,f4⟩:=fail_read h.alive hright he
   refine(fnext_err (F:=⟨D,A,S⟩) h.sys (by have:=h.few;omega) hrt hm' ho (by show wordsAt A.st r.b=some D.size;rw[hsz];exact hst2) hpos hmid he).mono ?_
   rintro e w' ⟨he1,G',k1,k2,k3,k4⟩
   refine .inr ⟨by rw[he1];show _= _;rw[show (read ({D:=D,A:=A,S:=S}:Fs).D ((r.first+r.pos/r.h:Nat):Int)).1=6 from f1],fun hc=>f4 (h.calm hc),?_⟩
   obtain⟨_,n2,n3⟩:=now_read D ((r.first+r.pos/r.h:Nat):Int) 0
   have k1':Sys w' G' X.p ⟨(read D ((r.first+r.pos/r.h:Nat):Int)).2,release A r.b (read D ((r.first+r.pos/r.h:Nat):Int)).2.size,S⟩ (X.n+m+1):=k1
   rw[n2,hsz]at k1'
   exact h.rshut hi k1' k2 k3 k4 ⟨n2,n3⟩ f3 (fun hc=>absurd hc f4) (by rw[f2];have:=h.acts;omega) (fun z=>(now_read _ _ _).1)
 ·refine(fnext_mid (F:=⟨D,A,S⟩) h.sys hrt hm' ho hpos hmid).mono ?_
  rintro e w' ⟨he1,k1⟩
  have hb:=hbuf hmid
  have htu:=buf_tup (t:=t) hok.ok.k.2 hok.ok.h.1 hpos hok.cnt hb ht hto.1 hto.2
  rw[htu]at he1
  refine .inl ⟨he1,hfin w' D 0 (Wrote.refl D) (fun _=>rfl) (by rw[if_neg hmid]) ⟨ws,k1,hb⟩⟩
theorem wd_next_end(h:Wd X os m W)(hi:os[i]?=some (rdO X.p x r X.sz l))(hok:RtOk r X.sz)(hpos:r.pos=r.count):
  Calls Tryz.prog 41 #[.pointer (some ⟨x,0,none⟩)] W fun e w'=>e=.returned (.tuple #[.agg #[.int .i64 0,.int .i64 0,.int .i64 0,.int .i64 0,.int .i64 0],.bool false,.int .i64 0])∧Wd X os m w':=by
 obtain⟨ws,hm,_⟩:=h.at_ hi
 exact(fnext_end hok hm hpos).mono fun _ _ ⟨h1,h2⟩=>⟨h1,h.below h2⟩
theorem wd_rclose_def(u:FrameMode)(h:Wd X os m W)(hi:os[i]?=some (rdO X.p x r X.sz l)):
  CallsD Tryz.prog 40 #[.pointer (some ⟨x,0,none⟩)] u W fun e u' w'=>u'=u∧(e=.returned (.tuple #[])∧Wd X (os.set i (rsO X.p x r)) m w'):=by
 obtain⟨G,D,A,S,h⟩:=h
 obtain⟨ws,hm,_⟩:=(h.mem i _ hi).1
 have hsz:=h.size
 have hst2:wordsAt A.st r.b=some X.sz:=h.st i _ r.b X.sz hi rfl
 refine(rclose_def u (F:=⟨D,A,S⟩) h.sys (by show RMem W x X.p r D.size ws;rw[hsz];exact hm) (h.rout hi) (by show wordsAt A.st r.b=some D.size;rw[hsz];exact hst2)).mono ?_
 rintro e u' w' ⟨hu,he,G',k1,k2,k3,k4⟩
 have k1':Sys w' G' X.p ⟨D,release A r.b D.size,S⟩ (X.n+m):=k1
 rw[hsz]at k1'
 exact⟨hu,he,h.rshut hi k1' k2 (k3.mono fun k hk=>hk.elim .inl fun e=>.inr (.inl e)) k4 ⟨rfl,rfl⟩ h.alive id h.acts fun _=>rfl⟩
end
section
variable {X : Cx} {os : List Asn} {m i : Nat} {W W' : World} {G : Nat → Prop} {D : St} {A : Ar} {S : Sp} {a : Asn} {x : Nat} {l : List Tup}
theorem wd_dev(h:Wd X os m W):Calls Tryz.prog 17 #[.pointer (some ⟨X.p.w,0,none⟩)] W fun e w'=>e=.returned (.pointer (some ⟨X.p.d,0,none⟩))∧w'=W:=by
 obtain⟨G,D,A,S,h⟩:=h;exact wdev_any h.sys.row
theorem wd_spc(h:Wd X os m W):Calls Tryz.prog 37 #[.pointer (some ⟨X.p.w,0,none⟩)] W fun e w'=>e=.returned (.pointer (some ⟨X.p.s,0,none⟩))∧w'=W:=by
 obtain⟨G,D,A,S,h⟩:=h;exact wspc_any h.sys.row
end
section
variable {X : Cx} {os a b z : List Asn} {m i j n : Nat} {W W' : World} {G : Nat → Prop} {D : St} {A : Ar} {S : Sp} {x v : Asn}
def ovr(n j:Nat):Nat:=if j<n then j else j+1
theorem ovr_inj{n i j:Nat}(h:ovr n i=ovr n j):i=j:=by unfold ovr at h;split at h<;>split at h<;>omega
theorem ovr_at(hj:(a++b)[j]?=some v):(a++x::b)[ovr a.length j]?=some v:=by
 unfold ovr
 split
 ·next h=>rw[List.getElem?_append_left h]at hj⊢;exact hj
 ·next h=>
  rw[List.getElem?_append_right (by omega)]at hj
  rw[List.getElem?_append_right (by omega),show j+1-a.length=(j-a.length)+1 by omega,List.getElem?_cons_succ];exact hj
theorem ovr_or(hj:(a++x::b)[j]?=some v):v=x∨∃i:Nat,(a++b)[i]?=some v:=by
 rcases Nat.lt_or_ge j a.length with h|h
 ·rw[List.getElem?_append_left h]at hj
  exact .inr ⟨j,by rw[List.getElem?_append_left h];exact hj⟩
 ·rw[List.getElem?_append_right h]at hj
  obtain⟨k,hk⟩:∃k,j-a.length=k:=⟨_,rfl⟩
  rw[hk]at hj
  cases k with
  |zero=>exact .inl (by rw[List.getElem?_cons_zero]at hj;exact(Option.some.inj hj).symm)
  |succ k=>exact .inr ⟨a.length+k,by rw[List.getElem?_append_right (by omega),show a.length+k-a.length=k by omega];rwa [List.getElem?_cons_succ]at hj⟩
theorem sumN_app{α:Type}(f:α→Nat)(l k:List α):sumN f (l++k)=sumN f l+sumN f k:=by unfold sumN;rw[List.map_append,List.sum_append]
theorem sumN_cons{α:Type}(f:α→Nat)(q:α)(k:List α):sumN f (q::k)=f q+sumN f k:=by unfold sumN;rw[List.map_cons,List.sum_cons]
theorem WdF.cut (h : WdF X (a ++ x :: b) m W G D A S) (hg : x.gr = none) (hx : x.ex.2 = 0) : WdF X (a ++ b) m W G D A S := by
  have hgw : x.gw = 0 := by unfold Asn.gw; rw [hg]
  have hxw : x.xw = 0 := hx
  have hu := h.used
  have hs := h.sum
  rw [sumN_app, sumN_cons] at hu hs
  exact { sys := h.sys, few := h.few, base := h.base, bel := h.bel, size := h.size, blocks := h.blocks, alive := h.alive, calm := h.calm, acts := h.acts, room := h.room, s0 := h.s0, sp := h.sp, range := h.range
          used := by rw [sumN_app]; omega
          sum := by rw [sumN_app]; omega
          ok := fun j c hc => h.ok _ c (ovr_at hc)
          st := fun j c p q hc hg => h.st _ c p q (ovr_at hc) hg
          mem := fun j c hc => h.mem _ c (ovr_at hc)
          dsk := fun j c hc => h.dsk _ c (ovr_at hc)
          apart := fun j j2 c c2 hc hc2 hne => h.apart _ _ c c2 (ovr_at hc) (ovr_at hc2) fun e => hne (ovr_inj e)
          exa := fun j j2 c c2 hc hc2 hne => h.exa _ _ c c2 (ovr_at hc) (ovr_at hc2) fun e => hne (ovr_inj e)
          exs := fun j c hc => h.exs _ c (ovr_at hc)
          free := fun z => by
            rw [h.free z]
            refine ⟨fun ⟨h1, h2⟩ => ⟨h1, fun j c hc => h2 _ c (ovr_at hc)⟩, fun ⟨h1, h2⟩ => ⟨h1, fun j c hc hz1 => ?_⟩⟩
            rcases ovr_or hc with e | ⟨i, hi⟩
            · rw [e] at hz1; unfold inX at hz1; omega
            · exact h2 i c hi hz1 }
theorem Wd.cut(h:Wd X (a++x::b) m W)(hg:x.gr=none)(hx:x.ex.2=0):Wd X (a++b) m W:=by
 obtain⟨G,D,A,S,h⟩:=h
 exact⟨G,D,A,S,h.cut hg hx⟩
def Bare(l:List Asn):Prop:=∀q∈l,q.gr=none∧q.ex.2=0
theorem Wd.cuts:∀(z:List Asn) (_:Bare z) (_:Wd X (a++z++b) m W),Wd X (a++b) m W
 |[],_,h=>by rwa [List.append_nil]at h
 |q::z,hb,h=>by
  have hq:=hb q List.mem_cons_self
  have h1:Wd X (a++q::(z++b)) m W:=by simpa using h
  have h2:=h1.cut hq.1 hq.2
  exact Wd.cuts z (fun u hu=>hb u (List.mem_cons_of_mem _ hu)) (by rw[List.append_assoc];exact h2)
theorem rm_bare{z2:List Asn}{z n:Nat}(h:Rm X os z n)(hz:Bare z2):Rm X (os++z2) z n:=fun y h1 h2=>by
 obtain⟨k1,k2⟩:=h y h1 h2
 refine⟨k1,fun j a hj hx=>?_⟩
 rcases List.mem_append.1 (List.mem_of_getElem? hj)with hm|hm
 ·obtain⟨j2,hj2,e⟩:=List.getElem_of_mem hm
  exact k2 j2 a (by rw[List.getElem?_eq_getElem hj2,e]) hx
 ·have h4:=(hz a hm).2
  unfold inX at hx;rw[h4]at hx;omega
theorem gw_bare:∀(l:List Asn) (_:Bare l),sumN Asn.gw l=0
 |[],_=>rfl
 |a::l,h=>by
  rw[sumN_cons,gw_bare l fun q hq=>h q (List.mem_cons_of_mem _ hq)]
  have h1:=(h a List.mem_cons_self).1
  unfold Asn.gw;rw[h1]
theorem wf_fi{p:Wp}{x:Nat}{t:Wt}{sz:Nat}(h:Wd X os m W){j:Nat}(hi:os[j]?=some (wfO p x t sz)):Wd X (os.set j (fiO (firstOf t) (blocksN t.h t.l.length) t.k t.h t.l sz)) m W:=
 h.weak hi fiO_ok (fun _=>trivial) (fun _ hk=>hk.elim) rfl rfl (fun _ hd=>hd)
end
section
variable {X : Cx} {os : List Asn} {m i : Nat} {W W' w0 w w' : World} {G : Nat → Prop} {D D' : St} {A A' : Ar} {S S1 : Sp} {p : Wp} {t : Wt} {l : List Tup}
theorem Wd.base(h:Wd X os m W):∃D A S,Base X.w0 X.p ⟨D,A,S⟩ (X.n+m) [] W:=by
 obtain⟨G,D,A,S,hw⟩:=h
 exact⟨D,A,S,G,hw.sys,hw.base,hw.bel,fun r hr=>by cases hr⟩
end
def tlO(X:Cx)(v:Value)(l:List Tup):Asn:=⟨fun b=>v.ownBlock=some b,fun W=>W.ownsRow X.w0.heap.size 56 5 v l.length (flatV l),none,(0,0),fun _=>True⟩
section
variable {X : Cx} {os : List Asn} {m i : Nat} {W W' : World} {l l' : List Tup} {v v' : Value}
theorem tlO_ok:(tlO X v l).Ok:=⟨fun W W' h2 hk=>ownsRow_same h2 fun k he=>hk k he,fun _ _ _ _ _=>trivial,fun _ _ h=>by cases h⟩
theorem tlO_lt(h:(tlO X v l).A W){b:Nat}(hb:v.ownBlock=some b):∃cs,Row W b 56 cs:=by
 obtain⟨h3,⟨h4,_⟩|⟨gl,c,c2,h4,h5,h6,_⟩⟩:=h
 ·rw[h4]at hb;cases hb
 ·rw[h4]at hb
  have hb:gl=b:=by injection hb
  subst hb
  exact⟨_,h6⟩
theorem Wd.tlist(hw:Wd X os m W)(hi:os[i]?=some (tlO X v l))(hf:Far (fun b=>v.ownBlock=some b) W W')(ho:W'.ownsRow X.w0.heap.size 56 5 v' l'.length (flatV l'))
  (hb:∀b,v'.ownBlock=some b→v.ownBlock=some b∨W.heap.size≤b):Wd X (os.set i (tlO X v' l')) m W':=by
 have h2:=hw.at_ hi
 refine hw.mine hi hf (fun b hb=>⟨hb,fun u hv=>?_⟩) tlO_ok ho (fun b hb2=>⟨hb b hb2,?_⟩) rfl rfl (fun _ _=>trivial)
 ·obtain⟨cs,hr⟩:=tlO_lt h2 hb
  exact absurd (hr.typed hv) (by decide)
 ·obtain⟨cs,hr⟩:=tlO_lt (X:=X) (v:=v') (l:=l') ho hb2
  exact hr.lt
end
structure LP where
 X:Cx
 os:List Asn
 m:Nat
 x:Nat
 rt:Rt
 l:List Tup
structure LP.Ok (P:LP):Prop where
 ok:RtOk P.rt P.X.sz
 cnt:P.l.length=P.rt.count
 fit:∀u∈P.l,TupOk u∧fitsT P.rt.k u=true
 src:Src P.os P.X.sz P.rt.first P.rt.k P.rt.h P.l
 cm:P.X.cm
 n:P.X.N+P.m+blocksN P.rt.h P.l.length+1≤1000000
 len:P.l.length≤100000
def LP.at_(P:LP)(i:Nat):Rt:={P.rt with pos:=i}
def LP.J(P:LP)(i:Nat)(v:Value)(W:World):Prop:=Wd P.X (P.os++[rdO P.X.p P.x (P.at_ i) P.X.sz P.l]++[tlO P.X v (P.l.take i)]) (P.m+blocksN P.rt.h i) W
def LP.J1(P:LP)(i:Nat)(v:Value)(W:World):Prop:=Wd P.X (P.os++[rdO P.X.p P.x (P.at_ (i+1)) P.X.sz P.l]++[tlO P.X v (P.l.take i)]) (P.m+blocksN P.rt.h (i+1)) W
section
variable {P : LP} {W W' : World} {i : Nat} {v v' : Value}
theorem LP.atR(P:LP)(r:Rt)(v:Value)(l:List Tup):(P.os++[rdO P.X.p P.x r P.X.sz P.l]++[tlO P.X v l])[P.os.length]?=some (rdO P.X.p P.x r P.X.sz P.l):=by simp
theorem LP.setR(P:LP)(a b:Asn)(c:Asn):(P.os++[a]++[c]).set P.os.length b=P.os++[b]++[c]:=by simp
theorem LP.atL(P:LP)(a b:Asn):(P.os++[a]++[b])[P.os.length+1]?=some b:=by simp
theorem LP.setL(P:LP)(a b c:Asn):(P.os++[a]++[c]).set (P.os.length+1) b=P.os++[a]++[b]:=by simp
theorem LP.J.below(h:P.J i v W)(hb:Below W.heap.size W W'):P.J i v W':=Wd.below h hb
theorem LP.J1.below(h:P.J1 i v W)(hb:Below W.heap.size W W'):P.J1 i v W':=Wd.below h hb
theorem LP.next(hP:P.Ok)(h:P.J i v W)(hi:i<P.l.length):
  Calls Tryz.prog 41 #[.pointer (some ⟨P.x,0,none⟩)] W fun e w'=>∃t:Tup,e=.returned (.tuple #[.agg #[.int .i64 t.a,.int .i64 t.b,.int .i64 t.c,.int .i64 t.d,.int .i64 t.e],.bool true,.int .i64 0])∧P.l[i]?=some t∧P.J1 i v w':=by
 have hh:=hP.ok.h.1
 have hle:=blocks_mono (h:=P.rt.h) (c:=i+1) (c':=P.l.length) hh (by omega)
 have hle2:=blocks_mono (h:=P.rt.h) (c:=i) (c':=i+1) hh (by omega)
 have ht:P.l[i]?=some P.l[i]:=List.getElem?_eq_getElem hi
 have hsrc:Src (P.os++[rdO P.X.p P.x (P.at_ i) P.X.sz P.l]++[tlO P.X v (P.l.take i)]) P.X.sz P.rt.first P.rt.k P.rt.h P.l:=(hP.src.snoc _).snoc _
 have hok:ROk (P.at_ i) P.X.sz P.l:=⟨⟨hP.ok.k,hP.ok.h,hP.ok.sz,⟨hP.ok.count.1,by show i≤P.rt.count;have:=hP.cnt;omega⟩,hP.ok.first⟩,hP.cnt,hP.fit⟩
 have hn:=hP.n
 refine(wd_next h (P.atR _ _ _) hok (by omega) (by show i<P.rt.count;have:=hP.cnt;omega) hsrc ht).mono ?_
 rintro e w' (⟨he,hw⟩|⟨_,hno,_⟩)
 ·refine⟨P.l[i],he,ht,?_⟩
  rw[P.setR]at hw
  unfold LP.J1
  rw[show P.m+blocksN P.rt.h (i+1)=P.m+blocksN P.rt.h i+(blocksN (P.at_ i).h ((P.at_ i).pos+1)-blocksN (P.at_ i).h (P.at_ i).pos)by show _=P.m+blocksN P.rt.h i+(blocksN P.rt.h (i+1)-blocksN P.rt.h i);omega]
  exact hw
 ·exact absurd hP.cm hno
theorem LP.end_(hP:P.Ok)(h:P.J P.l.length v W):
  Calls Tryz.prog 41 #[.pointer (some ⟨P.x,0,none⟩)] W fun e w'=>e=.returned (.tuple #[.agg #[.int .i64 0,.int .i64 0,.int .i64 0,.int .i64 0,.int .i64 0],.bool false,.int .i64 0])∧P.J P.l.length v w':=
 wd_next_end h (P.atR _ _ _) ⟨hP.ok.k,hP.ok.h,hP.ok.sz,⟨hP.ok.count.1,by show P.l.length≤P.rt.count;have:=hP.cnt;omega⟩,hP.ok.first⟩ hP.cnt
theorem LP.push(h:P.J1 i v W){t:Tup}(ht:P.l[i]?=some t)(hf:Far (fun k=>v.ownBlock=some k) W W')(ho:W'.ownsRow P.X.w0.heap.size 56 5 v' (i+1) (flatV (P.l.take i++[t])))(hv:v'.ownBlock=v.ownBlock∨v'.ownBlock=some W.heap.size):P.J (i+1) v' W':=by
 have hi:i<P.l.length:=by
  rcases Nat.lt_or_ge i P.l.length with h1|h1
  ·exact h1
  ·rw[List.getElem?_eq_none h1]at ht;cases ht
 have htk:P.l.take (i+1)=P.l.take i++[t]:=by rw[List.take_add_one,ht];rfl
 have h1:=Wd.tlist (v':=v') (l':=P.l.take (i+1)) h (P.atL _ _) hf (by rw[htk,List.length_append,List.length_take,Nat.min_eq_left (by omega)];exact ho) (fun b hb=>by
  rcases hv with h2|h2
  ·exact .inl (h2▸hb)
  ·rw[h2]at hb;injection hb with hb;exact .inr (by omega))
 rw[P.setL]at h1
 exact h1
theorem LP.own(h:P.J1 i v W)(hi:i≤P.l.length):W.ownsRow P.X.w0.heap.size 56 5 v i (flatV (P.l.take i)):=by
 have:=Wd.at_ h (P.atL _ _)
 have h2:W.ownsRow P.X.w0.heap.size 56 5 v (P.l.take i).length (flatV (P.l.take i)):=this
 rwa [List.length_take,Nat.min_eq_left hi]at h2
theorem LP.close(u:FrameMode)(h:P.J P.l.length v W):
  CallsD Tryz.prog 40 #[.pointer (some ⟨P.x,0,none⟩)] u W fun e u' w'=>u'=u∧(e=.returned (.tuple #[])∧Wd P.X (P.os++[tlO P.X v P.l]) (P.m+blocksN P.rt.h P.l.length) w'):=by
 refine(wd_rclose_def u h (P.atR _ _ _)).mono ?_
 rintro e u' w' ⟨hu,he,hw⟩
 rw[P.setR,List.take_length]at hw
 refine⟨hu,he,?_⟩
 have hw2:Wd P.X (P.os++rsO P.X.p P.x (P.at_ P.l.length)::[tlO P.X v P.l]) (P.m+blocksN P.rt.h P.l.length) w':=by simpa using hw
 exact hw2.cut rfl rfl
end
def plF(n rm b:Nat):Fs:=⟨fresh n b,empty rm,newSp 0 b⟩
section
variable {w0 w : World} {G : Nat → Prop} {p : Wp} {n rm b k m c : Nat} {A : Option Addr} {l : List Tup}
theorem hol_pos(hk:0<k∧k≤5)(hn:8≤n∧n≤256):0<holdsI n k∧holdsI n k*k≤n-2∧holdsI n k≤254:=by
 unfold holdsI
 rw[if_neg (by omega),Int.toNat_natCast]
 have h1:k≤n-2:=by omega
 have h2:=(Nat.le_div_iff_mul_le hk.1).2 (show 1*k≤n-2 by omega)
 have h3:=Nat.div_mul_le_self (n-2) k
 have h4:=Nat.div_le_self (n-2) k
 exact⟨by omega,h3,by omega⟩
end
structure YP where
 X:Cx
 os:List Asn
 m:Nat
 x:Nat
 t:Wt
 R:Nat
 l:List Tup
structure YP.Ok (P:YP):Prop where
 ok:WtOk P.t P.X.sz
 bd:P.t.bound=P.l.length
 nil:P.t.l=[]
 fit:∀u∈P.l,TupOk u∧fitsT P.t.k u=true
 cm:P.X.cm
 n:P.X.N+P.m+P.l.length+1≤1000000
def YP.z(P:YP)(cs:List Value):List Asn:=P.os++[rowO P.R 31 cs]
def Z4:List Value:=[.int .i64 0,.int .i64 0,.int .i64 0,.int .i64 0]
def YP.J(P:YP)(i:Nat)(W:World):Prop:=Wd P.X (P.z Z4++[wrO P.X.p P.x (tk P.t P.l i) P.X.sz]) (P.m+i/P.t.h) W
def YP.C(P:YP)(cs:List Value)(W:World):Prop:=Wd P.X (P.z cs++[wfO P.X.p P.x (tk P.t P.l P.l.length) P.X.sz]) (P.m+blocksN P.t.h P.l.length) W
section
variable {P : YP} {W W' : World} {i : Nat}
theorem YP.atW(P:YP)(cs:List Value)(a:Asn):(P.z cs++[a])[P.os.length+1]?=some a:=by simp[YP.z]
theorem YP.setW(P:YP)(cs:List Value)(a b:Asn):(P.z cs++[a]).set (P.os.length+1) b=P.z cs++[b]:=by simp[YP.z]
theorem YP.atR(P:YP)(cs:List Value)(a:Asn):(P.z cs++[a])[P.os.length]?=some (rowO P.R 31 cs):=by simp[YP.z]
theorem YP.setR(P:YP)(cs cs':List Value)(a:Asn):(P.z cs++[a]).set P.os.length (rowO P.R 31 cs')=P.z cs'++[a]:=by simp[YP.z]
theorem YP.tkOk(hP:P.Ok)(hi:i≤P.l.length):WtOk (tk P.t P.l i) P.X.sz:=
 ⟨hP.ok.k,hP.ok.h,hP.ok.sz,⟨hP.ok.bound.1,by rw[tk_len hi];show i≤P.t.bound;rw[hP.bd];exact hi⟩,hP.ok.blocks,hP.ok.first⟩
theorem YP.J.below(h:P.J i W)(hb:Below W.heap.size W W'):P.J i W':=Wd.below h hb
theorem YP.put(hP:P.Ok)(h:P.J i W){tu:Tup}(ht:P.l[i]?=some tu)(hi:i<P.l.length):
  Calls Tryz.prog 54 #[.pointer (some ⟨P.x,0,none⟩),.agg #[.int .i64 tu.a,.int .i64 tu.b,.int .i64 tu.c,.int .i64 tu.d,.int .i64 tu.e]] W fun e w'=>e=.returned (.int .i64 0)∧P.J (i+1) w':=by
 have hd1:=Nat.div_le_self i P.t.h
 have hn:=hP.n
 refine(wd_put h (P.atW _ _) (YP.tkOk hP (Nat.le_of_lt hi)) (by omega) (tu:=tu) (hP.fit tu (List.mem_of_getElem? ht)).2 (by rw[tk_len (Nat.le_of_lt hi)];show i<P.t.bound;rw[hP.bd];exact hi)).mono ?_
 rintro e w' (⟨he,hw⟩|⟨_,hno,_⟩)
 ·refine⟨he,?_⟩
  rw[P.setW,tk_snoc ht,tk_len (Nat.le_of_lt hi)]at hw
  have hdm:i/P.t.h≤(i+1)/P.t.h:=Nat.div_le_div_right (by omega)
  unfold YP.J
  rw[show P.m+(i+1)/P.t.h=P.m+i/P.t.h+((i+1)/(tk P.t P.l i).h-i/(tk P.t P.l i).h)by show _=P.m+i/P.t.h+((i+1)/P.t.h-i/P.t.h);omega]
  exact hw
 ·exact absurd hP.cm hno
theorem YP.close(hP:P.Ok)(h:P.J P.l.length W):
  Calls Tryz.prog 55 #[.pointer (some ⟨P.x,0,none⟩)] W fun e w'=>e=.returned (.tuple #[.agg #[.int .i64 (firstOf (tk P.t P.l P.l.length):Nat),.int .i64 (blocksN P.t.h P.l.length:Nat),.int .i64 (P.t.k:Nat),.int .i64 (P.l.length:Nat)],.int .i64 0])∧P.C Z4 w':=by
 have hd1:=Nat.div_le_self P.l.length P.t.h
 have hn:=hP.n
 refine(wd_close h (P.atW _ _) (YP.tkOk hP (Nat.le_refl _)) (by omega)).mono ?_
 rintro e w' (⟨he,hw⟩|⟨_,hno,_⟩)
 ·rw[tk_len (Nat.le_refl _)]at he hw
  rw[P.setW]at hw
  refine⟨he,?_⟩
  have hb:P.l.length/P.t.h≤blocksN P.t.h P.l.length:=by unfold blocksN;split<;>omega
  unfold YP.C
  rw[show P.m+blocksN P.t.h P.l.length=P.m+P.l.length/P.t.h+(blocksN (tk P.t P.l P.l.length).h P.l.length-P.l.length/(tk P.t P.l P.l.length).h)by show _=P.m+P.l.length/P.t.h+(blocksN P.t.h P.l.length-P.l.length/P.t.h);omega]
  exact hw
 ·exact absurd hP.cm hno
theorem YP.store(h:P.C Z4 W)(x1 x2 x3 x4:Value):P.C [x1,x2,x3,x4] ((((W.setCell ⟨P.R,0,none⟩ x1).setCell ⟨P.R,1,none⟩ x2).setCell ⟨P.R,2,none⟩ x3).setCell ⟨P.R,3,none⟩ x4):=by
 have h1:=Wd.store h (P.atR _ _) (by decide) 0 x1
 rw[P.setR]at h1
 have h2:=h1.store (P.atR _ _) (by decide) 1 x2
 rw[P.setR]at h2
 have h3:=h2.store (P.atR _ _) (by decide) 2 x3
 rw[P.setR]at h3
 have h4:=h3.store (P.atR _ _) (by decide) 3 x4
 rw[P.setR]at h4
 exact h4
theorem YP.C.shut{cs:List Value}(h:P.C cs W):WShut W P.x P.X.p (tk P.t P.l P.l.length):=Wd.at_ h (P.atW _ _)
theorem YP.C.rowR{cs:List Value}(h:P.C cs W):Row W P.R 31 cs:=Wd.row h (P.atR _ _)
theorem YP.J.rowR(h:P.J i W):Row W P.R 31 Z4:=Wd.row h (P.atR _ _)
theorem YP.C.fin{cs:List Value}(h:P.C cs W):Wd P.X (P.os++[fiO (firstOf (tk P.t P.l P.l.length)) (blocksN P.t.h P.l.length) P.t.k P.t.h P.l P.X.sz]) (P.m+blocksN P.t.h P.l.length) W:=by
 have h1:=wf_fi h (P.atW _ _)
 rw[P.setW,tk_len (Nat.le_refl _)]at h1
 have e:(tk P.t P.l P.l.length).l=P.l:=List.take_length
 rw[e]at h1
 have h1:Wd P.X (P.z cs++[fiO (firstOf (tk P.t P.l P.l.length)) (blocksN P.t.h P.l.length) P.t.k P.t.h P.l P.X.sz]) (P.m+blocksN P.t.h P.l.length) W:=h1
 have h2:Wd P.X (P.os++rowO P.R 31 cs::[fiO (firstOf (tk P.t P.l P.l.length)) (blocksN P.t.h P.l.length) P.t.k P.t.h P.l P.X.sz]) (P.m+blocksN P.t.h P.l.length) W:=by simpa [YP.z]using h1
 exact h2.cut rfl rfl
theorem YP.fok(hP:P.Ok)(hh:P.t.h=holdsI P.X.sz P.t.k)(hl:P.l.length≤100000):FOk (firstOf (tk P.t P.l P.l.length)) (blocksN P.t.h P.l.length) P.t.k P.t.h P.l P.X.sz:=
 ⟨hP.ok.k,hP.ok.h,hh,rfl,hl,by have:=hP.ok.first;unfold firstOf;split<;>first|omega|exact this,hP.fit⟩
end
section
variable {X : Cx} {os : List Asn} {m : Nat} {W : World} {l : List Tup}
theorem wd_lay{k n c:Nat}{A:Option Addr}(h:Wd X os m W)(hcm:X.cm)(hk:0<k∧k≤5)(hrd:∀z m' W',Wd X (os++z) m' W'→ReadsT W' W'.heap.size A n l)(hlen:l.length≤1000)(hfit:∀u∈l,fitsT k u=true)(hroom:X.sz+sumN Asn.gw os≤X.rm)(hn:X.N+m+l.length+1≤1000000)(hz:∃z,Rm X os z (blocksN (holdsI X.sz k) l.length)):
  Calls Tryz.prog 26 #[.pointer (some ⟨X.p.w,0,none⟩),.int .i64 k,.slice A n c] W fun e w'=>∃first nb:Nat,e=.returned (.tuple #[.agg #[.int .i64 first,.int .i64 nb,.int .i64 k,.int .i64 n],.int .i64 0])∧FOk first nb k (holdsI X.sz k) l X.sz∧Wd X (os++[fiO first nb k (holdsI X.sz k) l X.sz]) (m+nb) w':=by
 have hrd0:=hrd [] m W (by rw[List.append_nil];exact h)
 have hln:=hrd0.1
 have hok0:=hrd0.2.1
 have hh:=hol_pos hk h.bounds.1
 have hb0:Below W.heap.size W (W.alloc (.cells #[.int .i64 0,.int .i64 0,.int .i64 0,.int .i64 0] 31)):=(Below.refl _ _).alloc (Nat.le_refl _) _
 have hr0:Row (W.alloc (.cells #[.int .i64 0,.int .i64 0,.int .i64 0,.int .i64 0] 31)) W.heap.size 31 Z4:=heap_alloc_new _ _
 have h0:=h.new hb0 hr0 (Nat.le_refl _)
 have hgw:sumN Asn.gw (os++[rowO W.heap.size 31 Z4])=sumN Asn.gw os:=sumN_snoc _ _ _
 have HWR:=Lib.hid (wd_write h0 k n hh.1 (by omega) (by rw[hgw];exact hroom))
 have HNO:Hid (¬∀q,¬Rm X (os++[rowO W.heap.size 31 Z4]) q (blocksN (holdsI X.sz k) n)):=fun hno=>by
  obtain⟨z,hz⟩:=hz
  rw[hln]at hz
  refine hno z (rm_bare hz fun q hq=>?_)
  simp at hq;subst hq;exact⟨rfl,rfl⟩
 have HINIT:Hid (∀x t W1,t.k=k→t.h=holdsI X.sz k→t.bound=n→t.l=[]→WtOk t X.sz→Wd X (os++[rowO W.heap.size 31 Z4]++[wrO X.p x t X.sz]) m W1→
   ∃P:YP,(P.x=x∧P.l=l∧P.R=W.heap.size)∧P.Ok∧P.J 0 W1∧(∀i W',P.J i W'→ReadsT W' W'.heap.size A n l)∧(∀cs W',P.C cs W'→WShut W' x X.p (tk t l l.length))∧P.t=t∧
    (∀cs W',P.C cs W'→FOk (firstOf (tk t l l.length)) (blocksN (holdsI X.sz k) n) k (holdsI X.sz k) l X.sz∧Wd X (os++[fiO (firstOf (tk t l l.length)) (blocksN (holdsI X.sz k) n) k (holdsI X.sz k) l X.sz]) (m+blocksN (holdsI X.sz k) n) W')):=fun x t W1 e1 e2 e3 e4 e5 hw=>by
  have hP:YP.Ok ⟨X,os,m,x,t,W.heap.size,l⟩:=⟨e5,by rw[e3];exact hln.symm,e4,fun u hu=>⟨hok0 u hu,by show fitsT t.k u=true;rw[e1];exact hfit u hu⟩,hcm,hn⟩
  refine⟨⟨X,os,m,x,t,W.heap.size,l⟩,⟨rfl,rfl,rfl⟩,hP,?_,fun i W' hj=>?_,fun cs W' hc=>hc.shut,rfl,fun cs W' hc=>?_⟩
  ·have e:tk t l 0=t:=by unfold tk;rw[List.take_zero,←e4]
   show Wd X (os++[rowO W.heap.size 31 Z4]++[wrO X.p x (tk t l 0) X.sz]) (m+0/t.h) W1
   rw[e,Nat.zero_div];exact hw
  ·have hj:Wd X (os++[rowO W.heap.size 31 Z4]++[wrO X.p x (tk t l i) X.sz]) (m+i/t.h) W':=hj
   rw[List.append_assoc]at hj
   exact hrd _ _ _ hj
  ·have f1:=YP.fok hP (by show t.h=holdsI X.sz t.k;rw[e1];exact e2) (by show l.length≤100000;omega)
   have f2:=hc.fin
   have f1:FOk (firstOf (tk t l l.length)) (blocksN t.h l.length) t.k t.h l X.sz:=f1
   have f2:Wd X (os++[fiO (firstOf (tk t l l.length)) (blocksN t.h l.length) t.k t.h l X.sz]) (m+blocksN t.h l.length) W':=f2
   generalize firstOf (tk t l l.length)=fo at f1 f2⊢
   rw[e1,e2,hln]at f1 f2
   exact⟨f1,f2⟩
 have hn2:n≤1000:=by omega
 have HLN:=Lib.hid hln
 clear h hcm hk hrd hlen hfit hroom hn hz hrd0 hok0 hh hb0 hr0 h0 hgw hln
 generalize hPO:(fun(e:Ending) (w':World)=>∃first nb:Nat,e=.returned (.tuple #[.agg #[.int .i64 first,.int .i64 nb,.int .i64 k,.int .i64 n],.int .i64 0])∧FOk first nb k (holdsI X.sz k) l X.sz∧Wd X (os++[fiO first nb k (holdsI X.sz k) l X.sz]) (m+nb) w')=POST at*
 replace hPO:=Lib.hid hPO
 go_enter_defers Tryz.func26,Tryz.ntmps26
 go_wp2_with fail
 refine HWR.out.mono ?_
 rintro e w1 (⟨_,hno,_⟩|⟨x,t,rfl,e1,e2,e3,e4,e5,hw1⟩)
 ·exact(HNO.out hno).elim
 obtain⟨P,⟨hx,hl,hR⟩,hP,hj,hrd,hsh,ht,hfin⟩:=HINIT.out x t w1 e1 e2 e3 e4 e5 hw1
 have HPUT:Hid (∀i W tu,P.J i W→l[i]?=some tu→i<n→Calls Tryz.prog 54 #[.pointer (some ⟨x,0,none⟩),.agg #[.int .i64 tu.a,.int .i64 tu.b,.int .i64 tu.c,.int .i64 tu.d,.int .i64 tu.e]] W fun e w'=>e=.returned (.int .i64 0)∧P.J (i+1) w'):=fun i W tu h1 h2 h3=>by
  have:=YP.put hP h1 (by rw[hl];exact h2) (by rw[hl,HLN.out];exact h3)
  rw[hx]at this;exact this
 have HCL:Hid (∀W,P.J n W→Calls Tryz.prog 55 #[.pointer (some ⟨x,0,none⟩)] W fun e w'=>e=.returned (.tuple #[.agg #[.int .i64 (firstOf (tk t l l.length):Nat),.int .i64 (blocksN (holdsI X.sz k) n:Nat),.int .i64 k,.int .i64 n],.int .i64 0])∧P.C Z4 w'):=fun W h1=>by
  have:=YP.close hP (W:=W) (by rw[hl,HLN.out];exact h1)
  rw[hx,ht,e2,e1,hl]at this
  generalize firstOf (tk t l l.length)=fo at this⊢
  rw[HLN.out]at this;exact this
 have HSTO:Hid (∀W' x1 x2 x3 x4,P.C Z4 W'→P.C [x1,x2,x3,x4] ((((W'.setCell ⟨W.heap.size,0,none⟩ x1).setCell ⟨W.heap.size,1,none⟩ x2).setCell ⟨W.heap.size,2,none⟩ x3).setCell ⟨W.heap.size,3,none⟩ x4)):=fun W' x1 x2 x3 x4 h1=>by
  have:=YP.store h1 x1 x2 x3 x4
  rw[hR]at this;exact this
 have HRW:Hid (∀cs W',P.C cs W'→Row W' W.heap.size 31 cs):=fun cs W' h1=>by
  have:=h1.rowR
  rw[hR]at this;exact this
 have HJ:=Lib.hid hj
 have HRD:=Lib.hid hrd
 have HSH:=Lib.hid hsh
 have HFIN:Hid (∀cs W',P.C cs W'→POST (.returned (.tuple #[.agg #[.int .i64 (firstOf (tk t l l.length):Nat),.int .i64 (blocksN (holdsI X.sz k) n:Nat),.int .i64 k,.int .i64 n],.int .i64 0])) W'):=fun cs W' h1=>by
  obtain⟨f1,f2⟩:=hfin cs W' h1
  rw[←hPO.out];exact⟨_,_,rfl,f1,f2⟩
 generalize firstOf (tk t l l.length)=first at*
 generalize blocksN (holdsI X.sz k) n=nb at*
 clear hx hl hR hP hj hrd hsh ht hfin hw1 e1 e2 e3 e4 e5 HINIT HNO HWR
 go_wp2_with fail
 go_loopw [28] (fun iv wr=>∃i:Nat,i≤n∧iv=.int .i64 (i:Int)∧Hid (P.J i wr)) (fun iv _=>n-(intOf iv).toNat)
 case atStart=>exact⟨0,Nat.zero_le _,rfl,HJ.out⟩
 case round=>
  obtain⟨i,hi,rfl,HAT⟩:=hrel
  by_cases hlt:i<n
  ·obtain⟨bb,off,tu,rfl,hbl,q0,q1,q2,q3,q4,_,htu⟩:=(HRD.out _ _ HAT.out).at_ hlt
   have hi0:(0:Int)≤(i:Int):=by omega
   have hi1:(i:Int)<(n:Int):=by omega
   have g0:decide ((i:Int)<(n:Int))=true:=by simpa using hlt
   have HP1:=Lib.hid (HPUT.out i _ tu (HAT.out.below ((Below.refl wr.heap.size wr).alloc (Nat.le_refl _) (.cells #[.int .i64 tu.a,.int .i64 tu.b,.int .i64 tu.c,.int .i64 tu.d,.int .i64 tu.e] 56))) htu.out hlt)
   obtain⟨ta,tb,tc,td,te⟩:=tu
   simp only at q0 q1 q2 q3 q4 HP1
   go_wp2_with fail
   refine HP1.out.mono ?_
   rintro e w5 ⟨rfl,hat⟩
   have HAT5:=Lib.hid hat
   clear hat HP1 q0 q1 q2 q3 q4 HAT
   go_wp2
   go_roundw
   case rel=>exact⟨i+1,by omega,by go_num,HAT5.out⟩
   case measure=>simp[intOf];omega
  ·obtain rfl:i=n:=by omega
   have g0:decide ((i:Int)<(i:Int))=false:=by simp
   have HC1:=Lib.hid (HCL.out _ HAT.out)
   clear HAT
   go_wp2_with fail
   refine HC1.out.mono ?_
   rintro e w5 ⟨rfl,h5⟩
   have HR5:=Lib.hid (HRW.out _ _ h5)
   have H9:=Lib.hid (HSTO.out _ (.int .i64 first) (.int .i64 nb) (.int .i64 k) (.int .i64 i) h5)
   have HR9:=Lib.hid (HRW.out _ _ H9.out)
   have z0:w5.cell? ⟨W.heap.size,0,none⟩=some (.int .i64 0):=HR5.out.cell 0
   have z1:w5.cell? ⟨W.heap.size,1,none⟩=some (.int .i64 0):=HR5.out.cell 1
   have z2:w5.cell? ⟨W.heap.size,2,none⟩=some (.int .i64 0):=HR5.out.cell 2
   have z3:w5.cell? ⟨W.heap.size,3,none⟩=some (.int .i64 0):=HR5.out.cell 3
   have f0:=HR5.out.free 0
   have f1:=HR5.out.free 1
   have f2:=HR5.out.free 2
   have f3:=HR5.out.free 3
   have HDR:Hid (∀u,CallsD Tryz.prog 53 #[.pointer (some ⟨x,0,none⟩)] u ((((w5.setCell ⟨W.heap.size,0,none⟩ (.int .i64 first)).setCell ⟨W.heap.size,1,none⟩ (.int .i64 nb)).setCell ⟨W.heap.size,2,none⟩ (.int .i64 k)).setCell ⟨W.heap.size,3,none⟩ (.int .i64 i)) fun e u' w'=>u'=u∧(e=.returned (.tuple #[])∧w'=((((w5.setCell ⟨W.heap.size,0,none⟩ (.int .i64 first)).setCell ⟨W.heap.size,1,none⟩ (.int .i64 nb)).setCell ⟨W.heap.size,2,none⟩ (.int .i64 k)).setCell ⟨W.heap.size,3,none⟩ (.int .i64 i)))):=fun u=>wd_drop_shut (HSH.out _ _ H9.out) u
   clear h5 HC1
   go_wp2
   refine leaves_cons (f:=53) (args:=#[.pointer (some ⟨x,0,none⟩)]) (by simp) (by simp[go_sem]) ?_
   refine(HDR.out _).mono ?_
   rintro e u' w'' ⟨rfl,rfl,rfl⟩
   have r0:=HR9.out.cell 0
   have r1:=HR9.out.cell 1
   have r2:=HR9.out.cell 2
   have r3:=HR9.out.cell 3
   simp only[List.getElem?_cons_zero,List.getElem?_cons_succ]at r0 r1 r2 r3
   exact⟨.tuple #[.agg #[.int .i64 first,.int .i64 nb,.int .i64 k,.int .i64 i],.int .i64 0],by simp[results,Tryz.results26,go_sem,r0,r1,r2,r3],HFIN.out _ _ H9.out⟩
end
theorem pigeon{n q:Nat}:∀(E:List (Nat×Nat)) (J:List Nat),(∀e∈E,e.2≤q)→J.Nodup→E.length<J.length→∃j∈J,∀e∈E,∀z,j*(n+q)≤z→z<j*(n+q)+n→¬inX e z
 |[],J,_,_,hl=>by
  obtain⟨j,hj⟩:=List.exists_mem_of_length_pos (show 0<J.length from hl)
  exact⟨j,hj,fun e he=>by cases he⟩
 |e::E,J,hq,hd,hl=>by
  by_cases hex:∃j0∈J,∃z,j0*(n+q)≤z∧z<j0*(n+q)+n∧inX e z
  ·obtain⟨j0,hj0,z0,h1,h2,h3⟩:=hex
   have hlen:(J.erase j0).length=J.length-1:=List.length_erase_of_mem hj0
   obtain⟨j,hj,hfree⟩:=pigeon (n:=n) (q:=q) E (J.erase j0) (fun e he=>hq e (List.mem_cons_of_mem _ he)) (hd.erase j0) (by simp at hl;omega)
   have hne:j≠j0:=fun e=>by
    subst e
    exact(List.Nodup.not_mem_erase hd) hj
   refine⟨j,List.mem_of_mem_erase hj,fun e' he' z k1 k2 k3=>?_⟩
   rcases List.mem_cons.1 he' with rfl|he'
   ·have hqe:=hq e' List.mem_cons_self
    unfold inX at h3 k3
    rcases Nat.lt_or_gt_of_ne hne with h|h
    ·have:(j+1)*(n+q)≤j0*(n+q):=Nat.mul_le_mul_right _ (by omega)
     rw[Nat.add_mul,Nat.one_mul]at this
     omega
    ·have:(j0+1)*(n+q)≤j*(n+q):=Nat.mul_le_mul_right _ (by omega)
     rw[Nat.add_mul,Nat.one_mul]at this
     omega
   ·exact hfree e' he' z k1 k2 k3
  ·obtain⟨j,hj,hfree⟩:=pigeon (n:=n) (q:=q) E J (fun e he=>hq e (List.mem_cons_of_mem _ he)) hd (by simp at hl;omega)
   refine⟨j,hj,fun e' he' z k1 k2 k3=>?_⟩
   rcases List.mem_cons.1 he' with rfl|he'
   ·exact hex ⟨j,hj,z,k1,k2,k3⟩
   ·exact hfree e' he' z k1 k2 k3
theorem rm_many{X:Cx}{b:Nat}{os:List Asn}(hS:X.S0=newSp 0 b){n q c:Nat}(E:List (Nat×Nat))(hE:∀e∈E,e.2≤q)(hc:E.length=c)(hos:∀a∈os,a.ex.2=0∨a.ex∈E)(hb:c*(n+q)+n≤b):∃z,Rm X os z n:=by
 obtain⟨j,hj,hfree⟩:=pigeon (n:=n) (q:=q) E (List.range (c+1)) hE List.nodup_range (by rw[List.length_range];omega)
 have hjc:j≤c:=by have:=List.mem_range.1 hj;omega
 have hm:j*(n+q)≤c*(n+q):=Nat.mul_le_mul_right _ hjc
 refine⟨j*(n+q),fun z h1 h2=>⟨?_,fun i a ha=>?_⟩⟩
 ·rw[hS]
  exact newsp_room (m:=b) (n:=b) (Nat.le_refl _) z (by omega) (by omega)
 ·rcases hos a (List.mem_of_getElem? ha)with h|h
  ·intro hx
   have h3:a.ex.1≤z∧z<a.ex.1+a.ex.2:=hx
   omega
  ·exact hfree _ h z h1 h2
def cxL(W1:World)(p:Wp)(rm sz b:Nat)(cm:Prop)(N:Nat):Cx:=⟨W1,p,newSp 0 b,rm,sz,b,cm,N,0,0⟩
section
variable {W1 w W : World} {p : Wp} {rm sz b m N : Nat} {cm : Prop} {os : List Asn} {G : Nat → Prop}
theorem cx_start (hs : Sys w G p (plF sz rm b) 0) (hG : ∀ k, G k → W1.heap.size ≤ k) (hb : Below W1.heap.size W1 w) (hbb : b ≤ 1000000) (hN : N ≤ 1000000) : Wd (cxL W1 p rm sz b True N) [] 0 w := by
  refine ⟨G, fresh sz b, empty rm, newSp 0 b, {
    sys := hs
    few := ⟨Nat.zero_le _, hN⟩
    base := hG
    bel := hb
    size := rfl
    blocks := rfl
    alive := ⟨rfl, rfl⟩
    calm := fun _ => fresh_calm _ _
    acts := by show (0 : Int) ≤ ((0 + 0 : Nat) : Int); omega
    room := rfl
    used := rfl
    ok := fun j a ha => by simp at ha
    st := fun j a b' n' ha => by simp at ha
    mem := fun j a ha => by simp at ha
    dsk := fun j a ha => by simp at ha
    apart := fun j j2 a a2 ha => by simp at ha
    exa := fun j j2 a a2 ha => by simp at ha
    exs := fun j a ha => by simp at ha
    s0 := newSp_ok (by omega) hbb
    sp := ⟨rfl, rfl⟩
    free := fun z => ⟨fun h => ⟨h, fun j a ha => by simp at ha⟩, fun h => h.1⟩
    sum := rfl
    range := by show ((0 + b : Nat) : Int) ≤ b; omega }⟩
theorem cx_bel(h:Wd (cxL W1 p rm sz b cm N) os m W):Below W1.heap.size W1 W:=h.bel
end
theorem work13_any(w:World):Calls Tryz.prog 7 #[] w fun e w'=>
  ∃p G,e=.returned (.pointer (some ⟨p.w,0,none⟩))∧Sys w' G p (plF 12 60 5000) 0∧(∀k,G k→w.heap.size≤k)∧Below w.heap.size w w':=by
 have HN:=Lib.hid (new_any 12 5000 w (by omega) ⟨by omega,by omega⟩)
 have HAN:Hid (∀W,Calls Tryz.prog 24 #[.int .i64 60] W fun e w'=>e=.returned (.pointer (some ⟨W.heap.size,0,none⟩))∧Arn w' (fun k=>k=W.heap.size) W.heap.size (empty 60)∧Below W.heap.size W w'):=fun W=>arnew_any 60 W (by omega) (by omega)
 have HSN:Hid (∀W,Calls Tryz.prog 25 #[.int .i64 0,.int .i64 5000] W fun e w'=>∃p G,e=.returned (.pointer (some ⟨p,0,none⟩))∧Spc w' G p (newSp 0 5000)∧(∀k,G k→W.heap.size≤k)∧Below W.heap.size W w'):=fun W=>spnew_any 0 5000 W (by omega) (by omega)
 have HFN:Hid (∀W d a s,Calls Tryz.prog 23 #[.pointer (some ⟨d,0,none⟩),.pointer (some ⟨a,0,none⟩),.pointer (some ⟨s,0,none⟩)] W fun e w'=>e=.returned (.pointer (some ⟨W.heap.size,0,none⟩))∧w'=W.alloc (.cells #[ptr d,ptr a,ptr s] 83)):=fun W d a s=>fnew_any d a s W
 go_enter Tryz.func7,Tryz.ntmps7
 go_wp2_with fail
 refine HN.out.mono ?_
 rintro e w1 ⟨d,Gd,rfl,hd,hgd,hb1⟩
 have HD:=Lib.hid hd
 have HGD:=Lib.hid hgd
 have HB1:=Lib.hid hb1
 clear hd hgd hb1 HN
 go_wp2_with fail
 refine(HAN.out _).mono ?_
 rintro e w2 ⟨rfl,ha,hb2⟩
 have HA:=Lib.hid ha
 have HB2:=Lib.hid hb2
 clear ha hb2
 go_wp2_with fail
 refine(HSN.out _).mono ?_
 rintro e w3 ⟨s,Gs,rfl,hs,hgs,hb3⟩
 have HS:=Lib.hid hs
 have HGS:=Lib.hid hgs
 have HB3:=Lib.hid hb3
 clear hs hgs hb3
 go_wp2_with fail
 refine(HFN.out _ _ _ _).mono ?_
 rintro e w4 ⟨rfl,hw4⟩
 have hsy:Sys w4 (fun k=>k=w3.heap.size∨Gd k∨k=w1.heap.size∨Gs k) ⟨w3.heap.size,d,w1.heap.size,s⟩ (plF 12 60 5000) 0:=by
  rw[hw4]
  exact sys_mk HD.out HB2.out HA.out (fun k hk=>by rw[hk];exact Nat.le_refl _) rfl HB3.out HS.out (fun k hk=>HGS.out k hk)
 have HSY:=Lib.hid hsy
 have HBB:Hid (Below w.heap.size w w4):=by
  have q1:=HB1.out
  have q2:=q1.trans (HB2.out.mono q1.size)
  have q3:=q2.trans (HB3.out.mono q2.size)
  have q4:Below w.heap.size w w4:=by rw[hw4];exact q3.alloc q3.size _
  exact q4
 have HGA:Hid (∀k,(k=w3.heap.size∨Gd k∨k=w1.heap.size∨Gs k)→w.heap.size≤k):=by
  have z1:=HB1.out.size
  have z2:=HB2.out.size
  have z3:=HB3.out.size
  rintro k (rfl|h|rfl|h)
  ·omega
  ·exact HGD.out k h
  ·omega
  ·have:=HGS.out k h;omega
 clear hsy hw4
 go_wp2
 go_ret
 exact⟨⟨w3.heap.size,d,w1.heap.size,s⟩,_,rfl,HSY.out,HGA.out,HBB.out⟩
section
variable {X : Cx}
theorem opn_row{os H tail:List Asn}{R M:Nat}{cs:List Value}{w:World}(h:Wd X (os++H++[rowO R 31 cs]++tail) M w):Row w R 31 cs:=h.row (i:=(os++H).length) (by simp)
theorem opn_store{os H tail:List Asn}{R M:Nat}{cs:List Value}{w:World}(hcs:cs.length=4)(h:Wd X (os++H++[rowO R 31 cs]++tail) M w)(x1 x2 x3 x4:Value):Wd X (os++H++[rowO R 31 [x1,x2,x3,x4]]++tail) M ((((w.setCell ⟨R,0,none⟩ x1).setCell ⟨R,1,none⟩ x2).setCell ⟨R,2,none⟩ x3).setCell ⟨R,3,none⟩ x4):=by
 have ha:∀cs,(os++H++[rowO R 31 cs]++tail)[(os++H).length]?=some (rowO R 31 cs):=fun cs=>by simp
 have hs:∀cs cs',(os++H++[rowO R 31 cs]++tail).set (os++H).length (rowO R 31 cs')=os++H++[rowO R 31 cs']++tail:=fun cs cs'=>by
  rw[List.append_assoc _ [rowO R 31 cs],List.set_append_right _ _ (Nat.le_refl _),Nat.sub_self,List.append_assoc _ [rowO R 31 cs']];rfl
 have h1:=h.store (ha _) (by decide) 0 x1
 rw[hs]at h1
 have h2:=h1.store (ha _) (by decide) 1 x2
 rw[hs]at h2
 have h3:=h2.store (ha _) (by decide) 2 x3
 rw[hs]at h3
 have h4:=h3.store (ha _) (by decide) 3 x4
 rw[hs]at h4
 match cs,hcs with
 |[c1,c2,c3,c4],_=>exact h4
theorem opn_cut{os H tail:List Asn}{R M:Nat}{cs:List Value}{w:World}(hH:Bare H)(h:Wd X (os++H++[rowO R 31 cs]++tail) M w):Wd X (os++tail) M w:=by
 have h1:Wd X (os++(H++[rowO R 31 cs])++tail) M w:=by simpa [List.append_assoc]using h
 refine Wd.cuts _ (fun q hq=>?_) h1
 rcases List.mem_append.1 hq with hq|hq
 ·exact hH q hq
 ·simp at hq;subst hq;exact⟨rfl,rfl⟩
end
section
variable {X : Cx} {os : List Asn} {m i : Nat} {W W' : World} {x : Nat} {r : Rt} {l : List Tup}
theorem src_mem{first nb k h sz:Nat}(hm:fiO first nb k h l sz∈os)(hn:nb=blocksN h l.length):Src os sz first k h l:=by
 obtain⟨j,hj⟩:=List.mem_iff_getElem?.1 hm
 exact⟨j,_,hj,fun D hD hd=>by rw[←hn];exact hd hD,fun _=>⟨Nat.le_refl _,by show first+blocksN h l.length≤first+nb;rw[hn];exact Nat.le_refl _⟩⟩
theorem rm_none{z2:List Asn}{z n:Nat}(h:Rm X os z n)(hz:∀a∈z2,a.ex.2=0):Rm X (os++z2) z n:=fun y h1 h2=>by
 obtain⟨k1,k2⟩:=h y h1 h2
 refine⟨k1,fun j a hj hx=>?_⟩
 rcases List.mem_append.1 (List.mem_of_getElem? hj)with hm|hm
 ·obtain⟨j2,hj2,e⟩:=List.getElem_of_mem hm
  exact k2 j2 a (by rw[List.getElem?_eq_getElem hj2,e]) hx
 ·have h4:=hz a hm
  unfold inX at hx;rw[h4]at hx;omega
def rat(r:Rt)(j:Nat):Rt:={r with pos:=j}
def RdE(X:Cx)(x:Nat)(r:Rt)(l:List Tup)(a:Asn):Prop:=∃j,a=rdO X.p x (rat r j) X.sz l∨a=rsO X.p x (rat r j)
theorem RdE.ex{a:Asn}(h:RdE X x r l a):a.ex.2=0:=by obtain⟨j,rfl|rfl⟩:=h<;>rfl
structure RdF (X:Cx) (r:Rt) (l:List Tup):Prop where
 ok:RtOk r X.sz
 cnt:l.length=r.count
 fit:∀u∈l,TupOk u∧fitsT r.k u=true
 bn:r.blocks=blocksN r.h l.length
theorem RdF.rok(h:RdF X r l){j:Nat}(hj:j≤l.length):ROk (rat r j) X.sz l:=⟨⟨h.ok.k,h.ok.h,h.ok.sz,⟨h.ok.count.1,by show j≤r.count;rw[←h.cnt];exact hj⟩,h.ok.first⟩,h.cnt,h.fit⟩
theorem rd_next{j:Nat}(h:Wd X os (m+blocksN r.h j) W)(hi:os[i]?=some (rdO X.p x (rat r j) X.sz l))(hF:RdF X r l)(hsrc:Src os X.sz r.first r.k r.h l)(hj:j<l.length)(hn:X.N+m+blocksN r.h l.length+1≤1000000):
  Calls Tryz.prog 41 #[.pointer (some ⟨x,0,none⟩)] W fun e w'=>
   (∃t,l[j]?=some t∧e=.returned (.tuple #[tupV t,.bool true,.int .i64 0])∧Wd X (os.set i (rdO X.p x (rat r (j+1)) X.sz l)) (m+blocksN r.h (j+1)) w')∨
   (e=.returned (.tuple #[tupV tup0,.bool false,.int .i64 6])∧¬X.cm∧Wd X (os.set i (rsO X.p x (rat r j))) (m+blocksN r.h l.length+1) w'):=by
 obtain⟨t,ht⟩:∃t,l[j]?=some t:=⟨_,List.getElem?_eq_getElem hj⟩
 have b1:blocksN r.h j≤blocksN r.h (j+1):=blocks_mono hF.ok.h.1 (Nat.le_succ j)
 have b2:blocksN r.h (j+1)≤blocksN r.h l.length:=blocks_mono hF.ok.h.1 hj
 refine(wd_next h hi (hF.rok (Nat.le_of_lt hj)) (by omega) (by show j<r.count;rw[←hF.cnt];exact hj) hsrc (t:=t) ht).mono ?_
 rintro e w' (⟨he,hw⟩|⟨he,hno,hw⟩)
 ·refine .inl ⟨t,ht,he,?_⟩
  have hw:Wd X (os.set i (rdO X.p x (rat r (j+1)) X.sz l)) (m+blocksN r.h j+(blocksN r.h (j+1)-blocksN r.h j)) w':=hw
  rwa [show m+blocksN r.h j+(blocksN r.h (j+1)-blocksN r.h j)=m+blocksN r.h (j+1)by omega]at hw
 ·exact .inr ⟨he,hno,hw.mono (by omega) (by omega)⟩
theorem rd_end{j:Nat}(h:Wd X os m W)(hi:os[i]?=some (rdO X.p x (rat r j) X.sz l))(hF:RdF X r l)(hj:j=l.length):
  Calls Tryz.prog 41 #[.pointer (some ⟨x,0,none⟩)] W fun e w'=>e=.returned (.tuple #[tupV tup0,.bool false,.int .i64 0])∧Wd X os m w':=
 wd_next_end h hi (hF.rok (Nat.le_of_eq hj)).ok (by show j=r.count;rw[←hF.cnt];exact hj)
theorem rd_close(u:FrameMode){a:Asn}(h:Wd X os m W)(hi:os[i]?=some a)(ha:RdE X x r l a):
  CallsD Tryz.prog 40 #[.pointer (some ⟨x,0,none⟩)] u W fun e u' w'=>u'=u∧(e=.returned (.tuple #[])∧∃j,Wd X (os.set i (rsO X.p x (rat r j))) m w'):=by
 obtain⟨j,rfl|rfl⟩:=ha
 ·refine(wd_rclose_def u h hi).mono ?_
  rintro e u' w' ⟨h1,h2,h3⟩
  exact⟨h1,h2,j,h3⟩
 ·refine(rclose_def_shut u (h.at_ hi)).mono ?_
  rintro e u' w' ⟨h1,h2,h3⟩
  refine⟨h1,h2,j,?_⟩
  have e1:os.set i (rsO X.p x (rat r j))=os:=by
   apply List.ext_getElem?
   intro q
   rw[List.getElem?_set]
   split
   ·rename_i hq
    subst hq
    split
    ·exact hi.symm
    ·rename_i hl
     rw[List.getElem?_eq_none (by omega)]
   ·rfl
  rw[e1]
  subst h3
  exact h
end
noncomputable def leastN (P:Nat→Prop):Nat:=@dite Nat (∃n,P n∧∀m,P m→n≤m) (Classical.propDecidable _) (fun h=>h.choose) (fun _=>0)
theorem least_of{P:Nat→Prop}{n:Nat}(h:P n):P (leastN P)∧leastN P≤n:=by
 have hex:∀k m,m≤k→P m→∃n,P n∧∀m,P m→n≤m:=fun k=>by
  induction k with
  |zero=>intro m hm h;exact⟨m,h,fun q _=>by omega⟩
  |succ k ih=>
   intro m hm h
   by_cases hq:∃q,q<m∧P q
   ·obtain⟨q,h1,h2⟩:=hq
    exact ih q (by omega) h2
   ·exact⟨m,h,fun q h1=>Nat.not_lt.1 fun h2=>hq ⟨q,h2,h1⟩⟩
 have h0:=hex n n (Nat.le_refl _) h
 have e:leastN P=h0.choose:=by unfold leastN;rw[dif_pos h0]
 rw[e]
 exact⟨h0.choose_spec.1,h0.choose_spec.2 n h⟩
def outL(chg:Nat→Tup→Option Tup)(l:List Tup):Nat→List Tup
 |0=>[]
 |i+1=>outL chg l i++(match l[i]?with
  |some t=>(chg i t).toList
  |none=>[])
theorem outL_len(chg:Nat→Tup→Option Tup)(l:List Tup):∀i,(outL chg l i).length≤i
 |0=>Nat.le_refl _
 |i+1=>by
  have h:=outL_len chg l i
  simp only[outL,List.length_append]
  rcases l[i]?with _|t
  ·simp;omega
  ·simp only
   rcases chg i t with _|u<;>simp<;>omega
theorem outL_mem{chg:Nat→Tup→Option Tup}{l:List Tup}{u:Tup}:∀{i:Nat},u∈outL chg l i→∃(j:Nat) (t:Tup),l[j]?=some t∧chg j t=some u
 |0,h=>by cases h
 |i+1,h=>by
  simp only[outL,List.mem_append]at h
  rcases h with h|h
  ·exact outL_mem h
  ·rcases hl:l[i]?with _|t
   ·rw[hl]at h;cases h
   ·rw[hl]at h
    exact⟨i,t,hl,by simpa using h⟩
theorem outL_step{chg:Nat→Tup→Option Tup}{l:List Tup}{i:Nat}{t:Tup}(h:l[i]?=some t):outL chg l (i+1)=outL chg l i++(chg i t).toList:=by simp[outL,h]
structure HowC (X:Cx) (pre:List Asn) (fH:Nat) (caps:Array Value) (l:List Tup) (chg:Nat→Tup→Option Tup) (H:Nat→List Asn) (nh:Nat):Prop where
 ent:∀args w,Sem.run Tryz.prog (callFunc fH args) w=.ok (.enter fH args) w
 len:∀j,(H j).length=nh
 how:∀j zz m W t,l[j]?=some t→Wd X (pre++H j++zz) m W→Calls Tryz.prog fH (#[tupV t]++caps) W fun e w'=>∃t' b,e=.returned (.tuple #[tupV t',.bool b])∧chg j t=(if b then some t' else none)∧Wd X (pre++H (j+1)++zz) m w'
structure CP where
 X:Cx
 pre:List Asn
 H:Nat→List Asn
 nh:Nat
 mid:List Asn
 l:List Tup
 chg:Nat→Tup→Option Tup
 r:Rt
 x:Nat
 fH:Nat
 caps:Array Value
structure CP.Ok (P:CP):Prop where
 how:HowC P.X P.pre P.fH P.caps P.l P.chg P.H P.nh
 rd:RdF P.X P.r P.l
 src:∀j a zz,Src (P.pre++P.H j++P.mid++[a]++zz) P.X.sz P.r.first P.r.k P.r.h P.l
def CP.Z(P:CP)(j:Nat)(a:Asn):List Asn:=P.pre++P.H j++P.mid++[a]
def CP.rd(P:CP)(i:Nat):Asn:=rdO P.X.p P.x (rat P.r i) P.X.sz P.l
def CP.np(P:CP):Nat:=P.pre.length+P.nh+P.mid.length
def CP.vF(P:CP):List Value:=[.func (.func 41) #[.pointer (some ⟨P.x,0,none⟩)] #[],.func (.func P.fH) #[] P.caps]
def CP.bx(P:CP)(b1 b2:Nat)(cs:List Value):List Asn:=[rowO b1 118 P.vF,rowO b2 56 cs]
def Z5:List Value:=[.int .i64 0,.int .i64 0,.int .i64 0,.int .i64 0,.int .i64 0]
def CP.A(P:CP)(zz:List Asn)(m i:Nat)(W:World):Prop:=Wd P.X (P.Z i (P.rd i)++zz) (m+blocksN P.r.h i) W
def CP.B(P:CP)(zz:List Asn)(m i:Nat)(W:World):Prop:=Wd P.X (P.Z i (P.rd (i+1))++zz) (m+blocksN P.r.h (i+1)) W
def CP.N(P:CP)(zz:List Asn)(m i:Nat)(W:World):Prop:=Wd P.X (P.Z i (rsO P.X.p P.x (rat P.r i))++zz) (m+blocksN P.r.h P.l.length+1) W
section
variable {P : CP} {W W' : World} {i m : Nat} {zz : List Asn}
theorem CP.at_(hP:P.Ok)(a:Asn):(P.Z i a++zz)[P.np]?=some a:=by
 unfold CP.Z CP.np
 rw[List.append_assoc,List.getElem?_append_right (by simp[hP.how.len];omega),show P.pre.length+P.nh+P.mid.length-(P.pre++P.H i++P.mid).length=0 by simp[hP.how.len];omega]
 rfl
theorem CP.set_(hP:P.Ok)(a b:Asn):(P.Z i a++zz).set P.np b=P.Z i b++zz:=by
 unfold CP.Z CP.np
 have e:P.pre.length+P.nh+P.mid.length=(P.pre++P.H i++P.mid).length:=by simp[hP.how.len];omega
 rw[e]
 simp
theorem CP.A.next(hP:P.Ok)(h:P.A zz m i W)(hi:i<P.l.length)(hn:P.X.N+m+blocksN P.r.h P.l.length+1≤1000000):
  Calls Tryz.prog 41 #[.pointer (some ⟨P.x,0,none⟩)] W fun e w'=>
   (∃t,P.l[i]?=some t∧e=.returned (.tuple #[tupV t,.bool true,.int .i64 0])∧P.B zz m i w')∨(e=.returned (.tuple #[tupV tup0,.bool false,.int .i64 6])∧¬P.X.cm∧P.N zz m i w'):=by
 refine(rd_next h (CP.at_ hP _) hP.rd (hP.src i _ zz) hi hn).mono ?_
 rintro e w' (⟨t,ht,he,hw⟩|⟨he,hno,hw⟩)
 ·rw[CP.set_ hP]at hw
  exact .inl ⟨t,ht,he,hw⟩
 ·rw[CP.set_ hP]at hw
  exact .inr ⟨he,hno,hw⟩
theorem CP.A.end_(hP:P.Ok)(h:P.A zz m i W)(hi:i=P.l.length):
  Calls Tryz.prog 41 #[.pointer (some ⟨P.x,0,none⟩)] W fun e w'=>e=.returned (.tuple #[tupV tup0,.bool false,.int .i64 0])∧P.A zz m i w':=
 rd_end h (CP.at_ hP _) hP.rd hi
theorem CP.B.how(hP:P.Ok)(h:P.B zz m i W){t:Tup}(ht:P.l[i]?=some t):
  Calls Tryz.prog P.fH (#[tupV t]++P.caps) W fun e w'=>∃t' b,e=.returned (.tuple #[tupV t',.bool b])∧P.chg i t=(if b then some t' else none)∧P.A zz m (i+1) w':=by
 have h1:Wd P.X (P.pre++P.H i++(P.mid++[P.rd (i+1)]++zz)) (m+blocksN P.r.h (i+1)) W:=by
  unfold CP.B CP.Z at h
  simpa [List.append_assoc]using h
 refine(hP.how.how i _ _ W t ht h1).mono ?_
 rintro e w' ⟨t',b,he,hc,hw⟩
 refine⟨t',b,he,hc,?_⟩
 unfold CP.A CP.Z
 simpa [List.append_assoc]using hw
theorem CP.A.below(h:P.A zz m i W)(hb:Below W.heap.size W W'):P.A zz m i W':=Wd.below h hb
theorem CP.B.below(h:P.B zz m i W)(hb:Below W.heap.size W W'):P.B zz m i W':=Wd.below h hb
theorem CP.N.below(h:P.N zz m i W)(hb:Below W.heap.size W W'):P.N zz m i W':=Wd.below h hb
theorem CP.zlen(hP:P.Ok)(a:Asn):(P.Z i a).length=P.np+1:=by simp[CP.Z,CP.np,hP.how.len];omega
theorem bx_at{Y zz:List Asn}{n b1 b2:Nat}{P:CP}{cs:List Value}(hY:Y.length=n):(Y++(zz++P.bx b1 b2 cs))[n+zz.length]?=some (rowO b1 118 P.vF)∧(Y++(zz++P.bx b1 b2 cs))[n+zz.length+1]?=some (rowO b2 56 cs):=by
 subst hY
 constructor
 ·rw[←List.append_assoc,List.getElem?_append_right (by simp),List.length_append,Nat.sub_self];rfl
 ·rw[←List.append_assoc,List.getElem?_append_right (by rw[List.length_append];omega),List.length_append,show Y.length+zz.length+1-(Y.length+zz.length)=1 by omega];rfl
theorem bx_set{Y zz:List Asn}{n b1 b2:Nat}{P:CP}{cs cs':List Value}(hY:Y.length=n):(Y++(zz++P.bx b1 b2 cs)).set (n+zz.length+1) (rowO b2 56 cs')=Y++(zz++P.bx b1 b2 cs'):=by
 subst hY
 rw[←List.append_assoc,←List.length_append,List.set_append_right _ _ (by omega),show (Y++zz).length+1-(Y++zz).length=1 by omega,List.append_assoc];rfl
theorem bx_cut{X:Cx}{Y zz:List Asn}{b1 b2 M:Nat}{P:CP}{cs:List Value}(h:Wd X (Y++(zz++P.bx b1 b2 cs)) M W):Wd X (Y++zz) M W:=by
 have h1:Wd X (Y++zz++P.bx b1 b2 cs++[]) M W:=by simpa [List.append_assoc]using h
 have h2:=Wd.cuts _ (fun q hq=>by simp[CP.bx]at hq;rcases hq with rfl|rfl<;>exact⟨rfl,rfl⟩) h1
 simpa using h2
theorem bx_store{X:Cx}{Y zz:List Asn}{n b1 b2 M:Nat}{P:CP}{cs:List Value}(hY:Y.length=n)(hcs:cs.length=5)(h:Wd X (Y++(zz++P.bx b1 b2 cs)) M W)(x0 x1 x2 x3 x4:Value):
  Wd X (Y++(zz++P.bx b1 b2 [x0,x1,x2,x3,x4])) M (((((W.setCell ⟨b2,0,none⟩ x0).setCell ⟨b2,1,none⟩ x1).setCell ⟨b2,2,none⟩ x2).setCell ⟨b2,3,none⟩ x3).setCell ⟨b2,4,none⟩ x4):=by
 have h0:=Wd.store h (bx_at hY).2 (by decide) 0 x0
 rw[bx_set hY]at h0
 have h1:=h0.store (bx_at hY).2 (by decide) 1 x1
 rw[bx_set hY]at h1
 have h2:=h1.store (bx_at hY).2 (by decide) 2 x2
 rw[bx_set hY]at h2
 have h3:=h2.store (bx_at hY).2 (by decide) 3 x3
 rw[bx_set hY]at h3
 have h4:=h3.store (bx_at hY).2 (by decide) 4 x4
 rw[bx_set hY]at h4
 match cs,hcs with
 |[c0,c1,c2,c3,c4],_=>exact h4
end
def CP.Res(P:CP)(zz:List Asn)(m i:Nat)(e:Ending)(w':World):Prop:=
 (∃t i',e=.returned (.tuple #[tupV t,.bool true,.int .i64 0])∧i<i'∧i'≤P.l.length∧outL P.chg P.l i'=outL P.chg P.l i++[t]∧P.A zz m i' w')∨
 (e=.returned (.tuple #[tupV tup0,.bool false,.int .i64 0])∧outL P.chg P.l i=outL P.chg P.l P.l.length∧P.A zz m P.l.length w')∨
 (∃i',e=.returned (.tuple #[tupV tup0,.bool false,.int .i64 6])∧¬P.X.cm∧P.N zz m i' w')
theorem cnext_any{P:CP}{W:World}{i m:Nat}{zz:List Asn}(hP:P.Ok)(h:P.A zz m i W)(hi:i≤P.l.length)(hn:P.X.N+m+blocksN P.r.h P.l.length+1≤1000000):
  Calls Tryz.prog 58 #[.agg P.vF.toArray] W (P.Res zz m i):=by
 obtain⟨fH,hfH⟩:∃fH,fH=P.fH:=⟨_,rfl⟩
 obtain⟨caps,hcaps⟩:∃caps,caps=P.caps:=⟨_,rfl⟩
 obtain⟨x,hx⟩:∃x,x=P.x:=⟨_,rfl⟩
 obtain⟨n,hln⟩:∃n,n=P.l.length:=⟨_,rfl⟩
 obtain⟨W2,hW2⟩:∃W2,W2=(W.alloc (.cells #[.func (.func 41) #[.pointer (some ⟨x,0,none⟩)] #[],.func (.func fH) #[] caps] 118)).alloc (.cells #[.int .i64 0,.int .i64 0,.int .i64 0,.int .i64 0,.int .i64 0] 56):=⟨_,rfl⟩
 have hvF:P.vF=[.func (.func 41) #[.pointer (some ⟨x,0,none⟩)] #[],.func (.func fH) #[] caps]:=by rw[hfH,hcaps,hx];rfl
 have hb1:Below W.heap.size W (W.alloc (.cells #[.func (.func 41) #[.pointer (some ⟨x,0,none⟩)] #[],.func (.func fH) #[] caps] 118)):=(Below.refl _ _).alloc (Nat.le_refl _) _
 have hr1:Row (W.alloc (.cells #[.func (.func 41) #[.pointer (some ⟨x,0,none⟩)] #[],.func (.func fH) #[] caps] 118)) W.heap.size 118 P.vF:=by rw[hvF];exact heap_alloc_new _ _
 have h1:=Wd.new h hb1 hr1 (Nat.le_refl _)
 have hb2:=(Below.refl (W.alloc (.cells #[.func (.func 41) #[.pointer (some ⟨x,0,none⟩)] #[],.func (.func fH) #[] caps] 118)).heap.size (W.alloc (.cells #[.func (.func 41) #[.pointer (some ⟨x,0,none⟩)] #[],.func (.func fH) #[] caps] 118))).alloc (Nat.le_refl _) (.cells #[.int .i64 0,.int .i64 0,.int .i64 0,.int .i64 0,.int .i64 0] 56)
 have h2:=h1.new hb2 (heap_alloc_new _ _:Row _ _ 56 Z5) (Nat.le_refl _)
 rw[←hW2]at h2
 have hz2:(W.alloc (.cells #[.func (.func 41) #[.pointer (some ⟨x,0,none⟩)] #[],.func (.func fH) #[] caps] 118)).heap.size=W.heap.size+1:=by simp
 rw[hz2]at h2
 have HA0:Hid (P.A (zz++P.bx W.heap.size (W.heap.size+1) Z5) m i W2):=by
  unfold Hid CP.A
  simpa [List.append_assoc,CP.bx]using h2
 have hent:=hP.how.ent
 rw[←hfH]at hent
 have HNX:Hid (∀i w,i<n→P.A (zz++P.bx W.heap.size (W.heap.size+1) Z5) m i w→Calls Tryz.prog 41 #[.pointer (some ⟨x,0,none⟩)] w fun e w'=>
   (∃t,P.l[i]?=some t∧e=.returned (.tuple #[tupV t,.bool true,.int .i64 0])∧P.B (zz++P.bx W.heap.size (W.heap.size+1) Z5) m i w')∨(e=.returned (.tuple #[tupV tup0,.bool false,.int .i64 6])∧¬P.X.cm∧P.N (zz++P.bx W.heap.size (W.heap.size+1) Z5) m i w')):=fun i w hi h=>by rw[hx];exact h.next hP (by rw[←hln];exact hi) hn
 have HND:Hid (∀w,P.A (zz++P.bx W.heap.size (W.heap.size+1) Z5) m n w→Calls Tryz.prog 41 #[.pointer (some ⟨x,0,none⟩)] w fun e w'=>e=.returned (.tuple #[tupV tup0,.bool false,.int .i64 0])∧P.A (zz++P.bx W.heap.size (W.heap.size+1) Z5) m n w'):=fun w h=>by rw[hx];exact h.end_ hP hln
 have HHO:Hid (∀i w t,P.l[i]?=some t→P.B (zz++P.bx W.heap.size (W.heap.size+1) Z5) m i w→Calls Tryz.prog fH (#[tupV t]++caps) w fun e w'=>∃t' b,e=.returned (.tuple #[tupV t',.bool b])∧P.chg i t=(if b then some t' else none)∧P.A (zz++P.bx W.heap.size (W.heap.size+1) Z5) m (i+1) w'):=fun i w t ht h=>by rw[hfH,hcaps];exact h.how hP ht
 have HRA:Hid (∀i w,P.A (zz++P.bx W.heap.size (W.heap.size+1) Z5) m i w→Row w W.heap.size 118 [.func (.func 41) #[.pointer (some ⟨x,0,none⟩)] #[],.func (.func fH) #[] caps]∧Row w (W.heap.size+1) 56 Z5):=fun i w h=>by
  have q:=bx_at (Y:=P.Z i (P.rd i)) (zz:=zz) (b1:=W.heap.size) (b2:=W.heap.size+1) (P:=P) (cs:=Z5) (CP.zlen hP _)
  have q1:=Wd.row h q.1
  have q2:=Wd.row h q.2
  rw[hvF]at q1
  exact⟨q1,q2⟩
 have HRB:Hid (∀i w,P.B (zz++P.bx W.heap.size (W.heap.size+1) Z5) m i w→Row w W.heap.size 118 [.func (.func 41) #[.pointer (some ⟨x,0,none⟩)] #[],.func (.func fH) #[] caps]):=fun i w h=>by
  have q:=bx_at (Y:=P.Z i (P.rd (i+1))) (zz:=zz) (b1:=W.heap.size) (b2:=W.heap.size+1) (P:=P) (cs:=Z5) (CP.zlen hP _)
  have q1:=Wd.row h q.1
  rw[hvF]at q1
  exact q1
 have HRN:Hid (∀i w,P.N (zz++P.bx W.heap.size (W.heap.size+1) Z5) m i w→Row w (W.heap.size+1) 56 Z5):=fun i w h=>by
  have q:=bx_at (Y:=P.Z i (rsO P.X.p P.x (rat P.r i))) (zz:=zz) (b1:=W.heap.size) (b2:=W.heap.size+1) (P:=P) (cs:=Z5) (CP.zlen hP _)
  exact Wd.row h q.2
 have HSA:Hid (∀i w x0 x1 x2 x3 x4,P.A (zz++P.bx W.heap.size (W.heap.size+1) Z5) m i w→Row (((((w.setCell ⟨W.heap.size+1,0,none⟩ x0).setCell ⟨W.heap.size+1,1,none⟩ x1).setCell ⟨W.heap.size+1,2,none⟩ x2).setCell ⟨W.heap.size+1,3,none⟩ x3).setCell ⟨W.heap.size+1,4,none⟩ x4) (W.heap.size+1) 56 [x0,x1,x2,x3,x4]∧P.A zz m i (((((w.setCell ⟨W.heap.size+1,0,none⟩ x0).setCell ⟨W.heap.size+1,1,none⟩ x1).setCell ⟨W.heap.size+1,2,none⟩ x2).setCell ⟨W.heap.size+1,3,none⟩ x3).setCell ⟨W.heap.size+1,4,none⟩ x4)):=fun i w x0 x1 x2 x3 x4 h=>by
  have q:=bx_store (CP.zlen hP (P.rd i)) rfl h x0 x1 x2 x3 x4
  exact⟨q.row (bx_at (CP.zlen hP _)).2,bx_cut q⟩
 have HSN:Hid (∀i w x0 x1 x2 x3 x4,P.N (zz++P.bx W.heap.size (W.heap.size+1) Z5) m i w→Row (((((w.setCell ⟨W.heap.size+1,0,none⟩ x0).setCell ⟨W.heap.size+1,1,none⟩ x1).setCell ⟨W.heap.size+1,2,none⟩ x2).setCell ⟨W.heap.size+1,3,none⟩ x3).setCell ⟨W.heap.size+1,4,none⟩ x4) (W.heap.size+1) 56 [x0,x1,x2,x3,x4]∧P.N zz m i (((((w.setCell ⟨W.heap.size+1,0,none⟩ x0).setCell ⟨W.heap.size+1,1,none⟩ x1).setCell ⟨W.heap.size+1,2,none⟩ x2).setCell ⟨W.heap.size+1,3,none⟩ x3).setCell ⟨W.heap.size+1,4,none⟩ x4)):=fun i w x0 x1 x2 x3 x4 h=>by
  have q:=bx_store (CP.zlen hP (rsO P.X.p P.x (rat P.r i))) rfl h x0 x1 x2 x3 x4
  exact⟨q.row (bx_at (CP.zlen hP _)).2,bx_cut q⟩
 have HBA:Hid (∀i w w',P.A (zz++P.bx W.heap.size (W.heap.size+1) Z5) m i w→Below w.heap.size w w'→P.A (zz++P.bx W.heap.size (W.heap.size+1) Z5) m i w'):=fun i w w' h hb=>h.below hb
 have HBB:Hid (∀i w w',P.B (zz++P.bx W.heap.size (W.heap.size+1) Z5) m i w→Below w.heap.size w w'→P.B (zz++P.bx W.heap.size (W.heap.size+1) Z5) m i w'):=fun i w w' h hb=>h.below hb
 have HBN:Hid (∀i w w',P.N (zz++P.bx W.heap.size (W.heap.size+1) Z5) m i w→Below w.heap.size w w'→P.N (zz++P.bx W.heap.size (W.heap.size+1) Z5) m i w'):=fun i w w' h hb=>h.below hb
 have HE1:Hid (∀i' t w,i<i'→i'≤n→outL P.chg P.l i'=outL P.chg P.l i++[t]→P.A zz m i' w→P.Res zz m i (.returned (.tuple #[tupV t,.bool true,.int .i64 0])) w):=fun i' t w k1 k2 k3 k4=>.inl ⟨t,i',rfl,k1,by rw[←hln];exact k2,k3,k4⟩
 have HE2:Hid (∀w,outL P.chg P.l n=outL P.chg P.l i→P.A zz m n w→P.Res zz m i (.returned (.tuple #[tupV tup0,.bool false,.int .i64 0])) w):=fun w k1 k2=>.inr (.inl ⟨rfl,by rw[←k1,hln],by rw[←hln];exact k2⟩)
 have HE3:Hid (∀i' w,¬P.X.cm→P.N zz m i' w→P.Res zz m i (.returned (.tuple #[tupV tup0,.bool false,.int .i64 6])) w):=fun i' w k1 k2=>.inr (.inr ⟨i',rfl,k1,k2⟩)
 have HST:Hid (∀i' t,P.l[i']?=some t→outL P.chg P.l (i'+1)=outL P.chg P.l i'++(P.chg i' t).toList):=fun i' t ht=>outL_step ht
 have hi2:i≤n:=by rw[hln];exact hi
 rw[hvF]
 generalize P.Res zz m i=POST at*
 generalize P.A (zz++P.bx W.heap.size (W.heap.size+1) Z5) m=A at*
 generalize P.B (zz++P.bx W.heap.size (W.heap.size+1) Z5) m=B at*
 generalize P.N (zz++P.bx W.heap.size (W.heap.size+1) Z5) m=N at*
 generalize P.A zz m=A9 at*
 generalize P.N zz m=N9 at*
 generalize P.chg=chg at*
 generalize P.l=l at*
 generalize outL chg l=OL at*
 generalize P.X.cm=cm at*
 have HW2:=Lib.hid hW2
 have HZ:Hid (W2.heap.size=W.heap.size+2):=by unfold Hid;rw[hW2];simp
 clear hvF hb1 hr1 h1 hb2 h2 hz2 hW2 h hP hn hfH hcaps hx hln hi
 go_enter Tryz.func58,Tryz.ntmps58
 go_wp2_with fail
 rw[←HW2.out]
 obtain⟨J,hJ⟩:∃J:Nat→World→Prop,∀q w,J q w↔∃k,i≤k∧k≤n∧q=n-k∧OL k=OL i∧A k w:=⟨_,fun _ _=>Iff.rfl⟩
 have HJD:=Lib.hid hJ
 clear hJ HW2
 generalize hs0:W.heap.size=s0 at*
 go_loopw [3,4] (fun _ _ wr=>∃q:Nat,Hid (J q wr)) (fun _ _ wr=>leastN fun q=>J q wr)
 case atStart=>exact⟨n-i,(HJD.out _ _).2 ⟨i,Nat.le_refl _,hi2,rfl,rfl,HA0.out⟩⟩
 case round=>
  obtain⟨q,hq⟩:=hrel
  obtain⟨k,k1,k2,k3,k4,k5⟩:=(HJD.out _ _).1 (least_of (P:=fun q=>J q wr) hq.out).1
  have HK3:=Lib.hid k3
  have HK4:=Lib.hid k4
  have HK5:=Lib.hid k5
  have HR1:=Lib.hid (HRA.out k wr k5)
  clear hq k3 k4 k5
  have c0:wr.cell? ⟨s0,0,none⟩=some (.func (.func 41) #[.pointer (some ⟨x,0,none⟩)] #[]):=HR1.out.1.cell 0
  by_cases hlt:k<n
  ·have HN1:=Lib.hid (HNX.out k wr hlt HK5.out)
   go_wp2_with fail
   refine HN1.out.mono ?_
   rintro e w2 (⟨t,ht,rfl,h2⟩|⟨rfl,hno,h2⟩)
   ·have HT:=Lib.hid ht
    have HB3:=Lib.hid (HBB.out k w2 _ h2 ((Below.refl w2.heap.size w2).alloc (Nat.le_refl _) (.cells #[.int .i64 t.a,.int .i64 t.b,.int .i64 t.c,.int .i64 t.d,.int .i64 t.e] 56)))
    have hrt:Row (w2.alloc (.cells #[.int .i64 t.a,.int .i64 t.b,.int .i64 t.c,.int .i64 t.d,.int .i64 t.e] 56)) w2.heap.size 56 [.int .i64 t.a,.int .i64 t.b,.int .i64 t.c,.int .i64 t.d,.int .i64 t.e]:=heap_alloc_new _ _
    have HRT:=Lib.hid hrt
    clear h2 hrt ht c0
    unfold tupV
    go_upto_region 4 with(fail)
    generalize w2.alloc (.cells #[.int .i64 t.a,.int .i64 t.b,.int .i64 t.c,.int .i64 t.d,.int .i64 t.e] 56)=w3 at*
    generalize w2.heap.size=bt at*
    have HH:=Lib.hid (HHO.out k w3 t HT.out HB3.out)
    unfold tupV at HH
    have HR3:=Lib.hid (HRB.out k w3 HB3.out)
    have d0:w3.cell? ⟨bt,0,none⟩=some (.int .i64 t.a):=HRT.out.cell 0
    have d1:w3.cell? ⟨bt,1,none⟩=some (.int .i64 t.b):=HRT.out.cell 1
    have d2:w3.cell? ⟨bt,2,none⟩=some (.int .i64 t.c):=HRT.out.cell 2
    have d3:w3.cell? ⟨bt,3,none⟩=some (.int .i64 t.d):=HRT.out.cell 3
    have d4:w3.cell? ⟨bt,4,none⟩=some (.int .i64 t.e):=HRT.out.cell 4
    have c1:w3.cell? ⟨s0,1,none⟩=some (.func (.func fH) #[] caps):=HR3.out.cell 1
    go_wp2_with fail
    refine HH.out.mono ?_
    rintro e w4 ⟨t',b,rfl,hc,h4⟩
    have hst:=HST.out k t HT.out
    rw[hc]at hst
    have HST4:=Lib.hid hst
    have HA5:=Lib.hid (HBA.out (k+1) w4 _ h4 ((Below.refl w4.heap.size w4).alloc (Nat.le_refl _) (.cells #[.int .i64 t'.a,.int .i64 t'.b,.int .i64 t'.c,.int .i64 t'.d,.int .i64 t'.e] 56)))
    have hrt:Row (w4.alloc (.cells #[.int .i64 t'.a,.int .i64 t'.b,.int .i64 t'.c,.int .i64 t'.d,.int .i64 t'.e] 56)) w4.heap.size 56 [.int .i64 t'.a,.int .i64 t'.b,.int .i64 t'.c,.int .i64 t'.d,.int .i64 t'.e]:=heap_alloc_new _ _
    have HRT5:=Lib.hid hrt
    clear h4 hrt hst hc d0 d1 d2 d3 d4 c1
    rcases b with _| _
    ·go_wp2
     go_roundw
     case rel=>exact⟨n-(k+1),(HJD.out _ _).2 ⟨k+1,by omega,by omega,rfl,by rw[HST4.out,HK4.out];simp,HA5.out⟩⟩
     case measure=>
      refine Nat.lt_of_le_of_lt (least_of (P:=fun q=>J q _) (n:=n-(k+1)) ((HJD.out _ _).2 ⟨k+1,by omega,by omega,rfl,by rw[HST4.out,HK4.out];simp,HA5.out⟩)).2 ?_
      rw[HK3.out];omega
    ·go_upto_region 5 with(fail)
     generalize w4.alloc (.cells #[.int .i64 t'.a,.int .i64 t'.b,.int .i64 t'.c,.int .i64 t'.d,.int .i64 t'.e] 56)=w5 at*
     generalize w4.heap.size=bu at*
     have d0:w5.cell? ⟨bu,0,none⟩=some (.int .i64 t'.a):=HRT5.out.cell 0
     have d1:w5.cell? ⟨bu,1,none⟩=some (.int .i64 t'.b):=HRT5.out.cell 1
     have d2:w5.cell? ⟨bu,2,none⟩=some (.int .i64 t'.c):=HRT5.out.cell 2
     have d3:w5.cell? ⟨bu,3,none⟩=some (.int .i64 t'.d):=HRT5.out.cell 3
     have d4:w5.cell? ⟨bu,4,none⟩=some (.int .i64 t'.e):=HRT5.out.cell 4
     have HR5:=Lib.hid (HRA.out (k+1) w5 HA5.out)
     have z0:w5.cell? ⟨s0+1,0,none⟩=some (.int .i64 0):=HR5.out.2.cell 0
     have z1:w5.cell? ⟨s0+1,1,none⟩=some (.int .i64 0):=HR5.out.2.cell 1
     have z2:w5.cell? ⟨s0+1,2,none⟩=some (.int .i64 0):=HR5.out.2.cell 2
     have z3:w5.cell? ⟨s0+1,3,none⟩=some (.int .i64 0):=HR5.out.2.cell 3
     have z4:w5.cell? ⟨s0+1,4,none⟩=some (.int .i64 0):=HR5.out.2.cell 4
     have f0:=HR5.out.2.free 0
     have f1:=HR5.out.2.free 1
     have f2:=HR5.out.2.free 2
     have f3:=HR5.out.2.free 3
     have f4:=HR5.out.2.free 4
     have H9:=Lib.hid (HSA.out (k+1) w5 (.int .i64 t'.a) (.int .i64 t'.b) (.int .i64 t'.c) (.int .i64 t'.d) (.int .i64 t'.e) HA5.out)
     go_wp2
     have r0:=H9.out.1.cell 0
     have r1:=H9.out.1.cell 1
     have r2:=H9.out.1.cell 2
     have r3:=H9.out.1.cell 3
     have r4:=H9.out.1.cell 4
     simp only[List.getElem?_cons_zero,List.getElem?_cons_succ]at r0 r1 r2 r3 r4
     refine bodyPost_ret (v:=.tuple #[tupV t',.bool true,.int .i64 0]) (by unfold tupV;simp[results,Tryz.results58,go_sem,r0,r1,r2,r3,r4]) rfl ?_
     exact HE1.out (k+1) t' _ (by omega) (by omega) (by rw[HST4.out,HK4.out];rfl) H9.out.2
   ·have HNO:=Lib.hid hno
    have HN3:=Lib.hid (HBN.out k w2 _ h2 ((Below.refl w2.heap.size w2).alloc (Nat.le_refl _) (.cells #[.int .i64 0,.int .i64 0,.int .i64 0,.int .i64 0,.int .i64 0] 56)))
    clear h2 hno c0
    unfold tupV tup0
    go_upto_region 2 with(fail)
    generalize w2.alloc (.cells #[.int .i64 0,.int .i64 0,.int .i64 0,.int .i64 0,.int .i64 0] 56)=w3 at*
    generalize w2.heap.size=bu at*
    have HR5:=Lib.hid (HRN.out k w3 HN3.out)
    have z0:w3.cell? ⟨s0+1,0,none⟩=some (.int .i64 0):=HR5.out.cell 0
    have z1:w3.cell? ⟨s0+1,1,none⟩=some (.int .i64 0):=HR5.out.cell 1
    have z2:w3.cell? ⟨s0+1,2,none⟩=some (.int .i64 0):=HR5.out.cell 2
    have z3:w3.cell? ⟨s0+1,3,none⟩=some (.int .i64 0):=HR5.out.cell 3
    have z4:w3.cell? ⟨s0+1,4,none⟩=some (.int .i64 0):=HR5.out.cell 4
    have f0:=HR5.out.free 0
    have f1:=HR5.out.free 1
    have f2:=HR5.out.free 2
    have f3:=HR5.out.free 3
    have f4:=HR5.out.free 4
    have H9:=Lib.hid (HSN.out k w3 (.int .i64 0) (.int .i64 0) (.int .i64 0) (.int .i64 0) (.int .i64 0) HN3.out)
    go_wp2
    have r0:=H9.out.1.cell 0
    have r1:=H9.out.1.cell 1
    have r2:=H9.out.1.cell 2
    have r3:=H9.out.1.cell 3
    have r4:=H9.out.1.cell 4
    simp only[List.getElem?_cons_zero,List.getElem?_cons_succ]at r0 r1 r2 r3 r4
    refine bodyPost_ret (v:=.tuple #[tupV tup0,.bool false,.int .i64 6]) (by unfold tupV tup0;simp[results,Tryz.results58,go_sem,r0,r1,r2,r3,r4]) rfl ?_
    exact HE3.out k _ HNO.out H9.out.2
  ·obtain rfl:k=n:=by omega
   have HN1:=Lib.hid (HND.out wr HK5.out)
   go_wp2_with fail
   refine HN1.out.mono ?_
   rintro e w2 ⟨rfl,h2⟩
   have HA3:=Lib.hid (HBA.out k w2 _ h2 ((Below.refl w2.heap.size w2).alloc (Nat.le_refl _) (.cells #[.int .i64 0,.int .i64 0,.int .i64 0,.int .i64 0,.int .i64 0] 56)))
   clear h2 c0
   unfold tupV tup0
   go_upto_region 2 with(fail)
   generalize w2.alloc (.cells #[.int .i64 0,.int .i64 0,.int .i64 0,.int .i64 0,.int .i64 0] 56)=w3 at*
   generalize w2.heap.size=bu at*
   have HR5:=Lib.hid (HRA.out k w3 HA3.out)
   have z0:w3.cell? ⟨s0+1,0,none⟩=some (.int .i64 0):=HR5.out.2.cell 0
   have z1:w3.cell? ⟨s0+1,1,none⟩=some (.int .i64 0):=HR5.out.2.cell 1
   have z2:w3.cell? ⟨s0+1,2,none⟩=some (.int .i64 0):=HR5.out.2.cell 2
   have z3:w3.cell? ⟨s0+1,3,none⟩=some (.int .i64 0):=HR5.out.2.cell 3
   have z4:w3.cell? ⟨s0+1,4,none⟩=some (.int .i64 0):=HR5.out.2.cell 4
   have f0:=HR5.out.2.free 0
   have f1:=HR5.out.2.free 1
   have f2:=HR5.out.2.free 2
   have f3:=HR5.out.2.free 3
   have f4:=HR5.out.2.free 4
   have H9:=Lib.hid (HSA.out k w3 (.int .i64 0) (.int .i64 0) (.int .i64 0) (.int .i64 0) (.int .i64 0) HA3.out)
   go_wp2
   have r0:=H9.out.1.cell 0
   have r1:=H9.out.1.cell 1
   have r2:=H9.out.1.cell 2
   have r3:=H9.out.1.cell 3
   have r4:=H9.out.1.cell 4
   simp only[List.getElem?_cons_zero,List.getElem?_cons_succ]at r0 r1 r2 r3 r4
   refine bodyPost_ret (v:=.tuple #[tupV tup0,.bool false,.int .i64 0]) (by unfold tupV tup0;simp[results,Tryz.results58,go_sem,r0,r1,r2,r3,r4]) rfl ?_
   exact HE2.out _ HK4.out H9.out.2
theorem shared_none{A:Option Addr}{n c first nb k count:Nat}{l:List Ex}{W:World}(ho:W.ownsRow 0 106 2 (.slice A n c) n (flatX l))(hn:n≤1000000)(hb:∀i,i<n→(xAt l i).1+(xAt l i).2≤3000000)(hf:first≤3000000∧nb≤3000000)(hno:∀i,i<n→∀z,(xAt l i).1≤z→z<(xAt l i).1+(xAt l i).2→¬(first≤z∧z<first+nb)):
  Calls Tryz.prog 83 #[.slice A n c,.agg #[.int .i64 first,.int .i64 nb,.int .i64 k,.int .i64 count]] W fun e w'=>e=.returned (.slice none 0 0)∧Below W.heap.size W w':=by
 obtain⟨W1,hW1⟩:∃W1,W1=W.alloc (.cells #[.int .i64 first,.int .i64 nb,.int .i64 k,.int .i64 count] 31):=⟨_,rfl⟩
 have hb1:Below W.heap.size W W1:=by rw[hW1];exact(Below.refl _ _).alloc (Nat.le_refl _) _
 have hr1:Row W1 W.heap.size 31 [.int .i64 first,.int .i64 nb,.int .i64 k,.int .i64 count]:=by rw[hW1];exact heap_alloc_new _ _
 have HCEL:Hid (∀w,Below W1.heap.size W1 w→w.cell? ⟨W.heap.size,0,none⟩=some (.int .i64 first)∧w.cell? ⟨W.heap.size,1,none⟩=some (.int .i64 nb)):=fun w hb=>by
  have h9:=hr1.below hb hr1.lt
  exact⟨h9.cell 0,h9.cell 1⟩
 have HX:Hid (∀w i,Below W1.heap.size W1 w→i<n→∃g,A=some ⟨g,0,none⟩∧g<w.heap.size∧w.cell? ⟨g,i*2,none⟩=some (.int .i64 (xAt l i).1)∧w.cell? ⟨g,i*2+1,none⟩=some (.int .i64 (xAt l i).2)):=fun w i hb hi=>by
  exact own2_at (own2_below ho (hb1.trans (hb.mono hb1.size))) hi
 have HFIN:Hid (∀w,Below W1.heap.size W1 w→Below W.heap.size W w):=fun w hb=>hb1.trans (hb.mono hb1.size)
 have HB:=Lib.hid hb
 have HNO:=Lib.hid hno
 have HW1:=Lib.hid hW1
 generalize hS0:W.heap.size=s0 at*
 clear hW1 hb1 hr1 hb hno ho
 go_enter Tryz.func83,Tryz.ntmps83
 go_upto_region 1 with(fail)
 rw[←HW1.out]
 clear HW1
 go_wp2_with fail
 go_loopw [5,12] (fun lv iv wr=>lv=.slice none 0 0∧∃i:Nat,i≤n∧iv=.int .i64 (i:Int)∧Hid (Below W1.heap.size W1 wr)) (fun _ iv _=>n-(intOf iv).toNat)
 case atStart=>exact⟨rfl,0,Nat.zero_le _,rfl,Below.refl _ _⟩
 case round=>
  obtain⟨rfl,i,hi,rfl,HBW⟩:=hrel
  by_cases hlt:i<n
  ·have g0:decide ((i:Int)<(n:Int))=true:=by simpa using hlt
   have hi0:(0:Int)≤(i:Int):=by omega
   have hi1:(i:Int)<(n:Int):=by omega
   obtain⟨g,rfl,hg,q0,q1⟩:=HX.out wr i HBW.out hlt
   have hs:=HB.out i hlt
   have hq:=HNO.out i hlt
   generalize(xAt l i).1=x1 at*
   generalize(xAt l i).2=x2 at*
   obtain⟨w3,hw3⟩:∃w3,w3=wr.alloc (.cells #[.int .i64 x1,.int .i64 x2] 106):=⟨_,rfl⟩
   have hb3:Below wr.heap.size wr w3:=by rw[hw3];exact(Below.refl _ _).alloc (Nat.le_refl _) _
   have hr3:Row w3 wr.heap.size 106 [.int .i64 x1,.int .i64 x2]:=by rw[hw3];exact heap_alloc_new _ _
   have HB3:=Lib.hid (HBW.out.trans (hb3.mono HBW.out.size))
   have HB4:=Lib.hid (HB3.out.trans (below_drewN (Below.refl W1.heap.size w3) 1))
   rw[show w3.drewN 1=w3.drew from rfl]at HB4
   have⟨c0,c1⟩:=HCEL.out _ HB4.out
   have c2:w3.drew.cell? ⟨wr.heap.size,0,none⟩=some (.int .i64 x1):=hr3.cell 0
   have c3:w3.drew.cell? ⟨wr.heap.size,1,none⟩=some (.int .i64 x2):=hr3.cell 1
   obtain⟨u,hu⟩:∃u,u=x1+x2:=⟨_,rfl⟩
   obtain⟨v,hv⟩:∃v,v=first+nb:=⟨_,rfl⟩
   obtain⟨hi9,hh⟩:∃hi9,hi9=max x1 first:=⟨_,rfl⟩
   obtain⟨lo9,hlo⟩:∃lo9,lo9=min u v:=⟨_,rfl⟩
   have hlt9:¬hi9<lo9:=fun hc=>hq hi9 (by omega) (by omega) ⟨by omega,by omega⟩
   have s1:(x1:Int)+(x2:Int)=(u:Int):=by omega
   have s2:(first:Int)+(nb:Int)=(v:Int):=by omega
   have m1:(if x1<first then (first:Int)else (x1:Int))=(hi9:Int):=by split<;>omega
   have m2:(if v<u then (v:Int)else (u:Int))=(lo9:Int):=by split<;>omega
   have g9:decide ((hi9:Int)<(lo9:Int))=false:=by simp;omega
   have w1:IntKind.i64.wrap (u:Int)=(u:Int):=IntWalk.i64_in _ (by omega)
   have w2:IntKind.i64.wrap (v:Int)=(v:Int):=IntWalk.i64_in _ (by omega)
   have HW3:=Lib.hid hw3
   clear hw3 hb3 hr3 hs hq hu hv hh hlo
   go_upto_region 5 with(fail)
   rw[←HW3.out]
   go_region_held3 (fun w=>w.cell? ⟨s0,0,none⟩=some (.int .i64 first)∧w.cell? ⟨s0,1,none⟩=some (.int .i64 nb)∧w.cell? ⟨wr.heap.size,0,none⟩=some (.int .i64 x1)∧w.cell? ⟨wr.heap.size,1,none⟩=some (.int .i64 x2)) (with_reducible exact⟨c0,c1,c2,c3⟩) (fail)
   all_goals
    clear c0 c1 c2 c3 s1 s2 m1 m2 w1 w2
    go_wp2
    go_roundw
    case rel=>exact⟨rfl,i+1,by omega,by go_num,HB4.out⟩
    case measure=>simp[intOf];omega
  ·obtain rfl:i=n:=by omega
   have g0:decide ((i:Int)<(i:Int))=false:=by simp
   go_wp2
   go_ret
   exact⟨rfl,HFIN.out _ HBW.out⟩
section
variable {X : Cx} {os : List Asn} {m : Nat} {W : World}
theorem wd_extents(h:Wd X os m W):Calls Tryz.prog 84 #[.pointer (some ⟨X.p.s,0,none⟩)] W fun e w'=>∃A n c l,e=.returned (.slice A n c)∧w'.ownsRow 0 106 2 (.slice A n c) n (flatX l)∧n≤1000000∧
  (∀i,i<n→(xAt l i).1+(xAt l i).2≤3000000)∧(∀i,i<n→∀z,(xAt l i).1≤z→z<(xAt l i).1+(xAt l i).2→∀(j:Nat) (a:Asn),os[j]?=some a→¬inX a.ex z)∧Below W.heap.size W w':=by
 obtain⟨G,D,A,S,hF⟩:=h
 obtain⟨Gd,Ga,Gs,hr,hd,ha,hs,_⟩:=hF.sys
 have hok:S.ok:=hs.1
 refine(extents_any X.p.s S Gs W hs).mono ?_
 rintro e w' ⟨v',rfl,ho,hb⟩
 have ho0:w'.ownsRow 0 106 2 v' S.fr.length (flatX S.fr):=by
  obtain⟨h1,h2⟩:=ho
  refine⟨h1,?_⟩
  rcases h2 with h2|⟨g,cap,cur,rfl,hg,r⟩
  ·exact .inl h2
  ·exact .inr ⟨g,cap,cur,rfl,Nat.zero_le _,r⟩
 obtain⟨A',c,rfl,_,_,_⟩:=own2_form ho0
 refine⟨A',_,c,S.fr,rfl,ho0,hok.len,fun i hi=>?_,fun i hi z h1 h2 j a hj hx=>?_,hb⟩
 ·have:=(hok.2.2.getD hi).2.2
  have:=hok.1
  have:=hok.2.1
  omega
 ·exact((hF.free z).1 ⟨xAt S.fr i,getD_lt hi,h1,h2⟩).2 j a hj hx
def ReadF(os:List Asn)(W:World)(rb nr:Nat):Prop:=∀i,i<nr→∃f n k c:Nat,(W.cell? ⟨rb,i*4,none⟩=some (.int .i64 f)∧W.cell? ⟨rb,i*4+1,none⟩=some (.int .i64 n)∧W.cell? ⟨rb,i*4+2,none⟩=some (.int .i64 k)∧W.cell? ⟨rb,i*4+3,none⟩=some (.int .i64 c))∧f≤3000000∧n≤3000000∧(n=0∨∃(j:Nat) (a:Asn),os[j]?=some a∧a.ex=(f,n))
theorem wd_jwrite{k rb nr cr c0:Nat}(h:Wd X os m W)(hhol:0<holdsI X.sz k)(hc:c0≤100000)(hroom:X.sz+sumN Asn.gw os≤X.rm)(hnr:0<nr∧nr≤10)(hrb:rb<W.heap.size)(hc0:W.cell? ⟨rb,3,none⟩=some (.int .i64 c0))(hrd:ReadF os W rb nr):
  Calls Tryz.prog 67 #[.pointer (some ⟨X.p.w,0,none⟩),.int .i64 k,.slice (some ⟨rb,0,none⟩) nr cr] W fun e w'=>
   (e=.returned (.tuple #[.pointer none,.int .i64 5])∧(∀q,¬Rm X os q (blocksN (holdsI X.sz k) c0))∧Wd X os m w')∨
   (∃x t,e=.returned (.tuple #[.pointer (some ⟨x,0,none⟩),.int .i64 0])∧t.k=k∧t.h=holdsI X.sz k∧t.bound=c0∧t.l=[]∧WtOk t X.sz∧Wd X (os++[wrO X.p x t X.sz]) m w'):=by
 have HSP:Hid (∀w,Below W.heap.size W w→Calls Tryz.prog 37 #[.pointer (some ⟨X.p.w,0,none⟩)] w fun e w'=>e=.returned (.pointer (some ⟨X.p.s,0,none⟩))∧w'=w):=fun w hb=>wd_spc (h.below hb)
 have HEX:Hid (∀w,Below W.heap.size W w→Calls Tryz.prog 84 #[.pointer (some ⟨X.p.s,0,none⟩)] w fun e w'=>∃A n c l,e=.returned (.slice A n c)∧w'.ownsRow 0 106 2 (.slice A n c) n (flatX l)∧n≤1000000∧
  (∀i,i<n→(xAt l i).1+(xAt l i).2≤3000000)∧(∀i,i<n→∀z,(xAt l i).1≤z→z<(xAt l i).1+(xAt l i).2→∀(j:Nat) (a:Asn),os[j]?=some a→¬inX a.ex z)∧Below w.heap.size w w'):=fun w hb=>wd_extents (h.below hb)
 have HWR:Hid (∀w,Below W.heap.size W w→Calls Tryz.prog 52 #[.pointer (some ⟨X.p.w,0,none⟩),.int .i64 k,.int .i64 c0] w fun e w'=>
   (e=.returned (.tuple #[.pointer none,.int .i64 5])∧(∀q,¬Rm X os q (blocksN (holdsI X.sz k) c0))∧Wd X os m w')∨
   (∃x t,e=.returned (.tuple #[.pointer (some ⟨x,0,none⟩),.int .i64 0])∧t.k=k∧t.h=holdsI X.sz k∧t.bound=c0∧t.l=[]∧WtOk t X.sz∧Wd X (os++[wrO X.p x t X.sz]) m w')):=fun w hb=>wd_write (h.below hb) k c0 hhol hc hroom
 have HRD:Hid (∀w,Below W.heap.size W w→ReadF os w rb nr):=fun w hb i hi=>by
  obtain⟨f,n,k,c,⟨h0,h1,h2,h3⟩,hr⟩:=hrd i hi
  exact⟨f,n,k,c,⟨(hb.cell hrb).trans h0,(hb.cell hrb).trans h1,(hb.cell hrb).trans h2,(hb.cell hrb).trans h3⟩,hr⟩
 have HC0:Hid (∀w,Below W.heap.size W w→w.cell? ⟨rb,3,none⟩=some (.int .i64 c0)):=fun w hb=>(hb.cell hrb).trans hc0
 have HRB:=Lib.hid hrb
 have HNR:=Lib.hid hnr
 have hnr2:nr≤10:=hnr.2
 have hmin:(if 100000000<c0 then (100000000:Int)else (c0:Int))=(c0:Int):=by rw[if_neg (by omega)]
 clear h hhol hroom hrb hc0 hrd hnr
 generalize hPO:(fun(e:Ending) (w':World)=>(e=.returned (.tuple #[.pointer none,.int .i64 5])∧(∀q,¬Rm X os q (blocksN (holdsI X.sz k) c0))∧Wd X os m w')∨
   (∃x t,e=.returned (.tuple #[.pointer (some ⟨x,0,none⟩),.int .i64 0])∧t.k=k∧t.h=holdsI X.sz k∧t.bound=c0∧t.l=[]∧WtOk t X.sz∧Wd X (os++[wrO X.p x t X.sz]) m w'))=POST at*
 replace hPO:=Lib.hid hPO
 go_enter_defers Tryz.func67,Tryz.ntmps67
 go_wp2_with fail
 go_loopw [14] (fun iv wr=>∃i:Nat,i≤nr∧iv=.int .i64 (i:Int)∧Hid (Below W.heap.size W wr)) (fun iv _=>nr-(intOf iv).toNat)
 case atStart=>exact⟨0,Nat.zero_le _,rfl,Below.refl _ _⟩
 case round=>
  obtain⟨i,hi,rfl,HBW⟩:=hrel
  by_cases hlt:i<nr
  ·have g0:decide ((i:Int)<(nr:Int))=true:=by simpa using hlt
   have hi0:(0:Int)≤(i:Int):=by omega
   have hi1:(i:Int)<(nr:Int):=by omega
   obtain⟨f,n,k2,c2,⟨q0,q1,q2,q3⟩,hf1,hf2,hob⟩:=HRD.out wr HBW.out i hlt
   have hrbl:rb<wr.heap.size:=by have:=HRB.out;have:=HBW.out.size;omega
   obtain⟨w3,hw3⟩:∃w3,w3=wr.alloc (.cells #[.int .i64 f,.int .i64 n,.int .i64 k2,.int .i64 c2] 31):=⟨_,rfl⟩
   have hb3:Below wr.heap.size wr w3:=by rw[hw3];exact(Below.refl _ _).alloc (Nat.le_refl _) _
   have hr3:Row w3 wr.heap.size 31 [.int .i64 f,.int .i64 n,.int .i64 k2,.int .i64 c2]:=by rw[hw3];exact heap_alloc_new _ _
   have HB3:=Lib.hid (HBW.out.trans (hb3.mono HBW.out.size))
   have HB4:=Lib.hid (HB3.out.trans ((below_drewN (Below.refl w3.heap.size w3) 1).mono HB3.out.size))
   rw[show w3.drewN 1=w3.drew from rfl]at HB4
   have HCE:Hid (∀w,Below w3.heap.size w3 w→w.cell? ⟨wr.heap.size,0,none⟩=some (.int .i64 f)∧w.cell? ⟨wr.heap.size,1,none⟩=some (.int .i64 n)∧w.cell? ⟨wr.heap.size,2,none⟩=some (.int .i64 k2)∧w.cell? ⟨wr.heap.size,3,none⟩=some (.int .i64 c2)):=fun w hb=>by
    have h9:=hr3.below hb hr3.lt
    exact⟨h9.cell 0,h9.cell 1,h9.cell 2,h9.cell 3⟩
   have c0:=HCE.out w3.drew (below_drewN (Below.refl w3.heap.size w3) 1)
   have HSH:Hid (∀(A:Option Addr) (N c:Nat) (l:List Ex) (w:World),w.ownsRow 0 106 2 (.slice A N c) N (flatX l)→N≤1000000→(∀i,i<N→(xAt l i).1+(xAt l i).2≤3000000)→(∀i,i<N→∀z,(xAt l i).1≤z→z<(xAt l i).1+(xAt l i).2→∀(j:Nat) (a:Asn),os[j]?=some a→¬inX a.ex z)→
     Calls Tryz.prog 83 #[.slice A N c,.agg #[.int .i64 f,.int .i64 n,.int .i64 k2,.int .i64 c2]] w fun e w'=>e=.returned (.slice none 0 0)∧Below w.heap.size w w'):=fun A N c l w h1 h2 h3 h4=>by
    refine shared_none h1 h2 h3 ⟨hf1,hf2⟩ fun i hi z k1 k2 ⟨k3,k4⟩=>?_
    rcases hob with h0|⟨j,a,hj,ha⟩
    ·omega
    ·exact h4 i hi z k1 k2 j a hj (by rw[ha];exact⟨k3,k4⟩)
   have HW3:=Lib.hid hw3
   clear hw3 hb3 hr3 hob
   go_upto_region 4 with(fail)
   rw[←HW3.out]
   go_region_held3 (fun w=>w.cell? ⟨wr.heap.size,0,none⟩=some (.int .i64 f)∧w.cell? ⟨wr.heap.size,1,none⟩=some (.int .i64 n)∧w.cell? ⟨wr.heap.size,2,none⟩=some (.int .i64 k2)∧w.cell? ⟨wr.heap.size,3,none⟩=some (.int .i64 c2)) (first|with_reducible exact c0|with_reducible exact q5|with_reducible exact q6)
    (first
     |(go_at_call 37;(with_reducible refine(HSP.out _ HB4.out).mono ?_);rintro e w4 ⟨rfl,rfl⟩)
     |(go_at_call 84;(with_reducible refine(HEX.out _ HB4.out).mono ?_);rintro e w5 ⟨A5,n5,cc5,l5,rfl,h51,h52,h53,h54,h55⟩;have hb5:Below w3.heap.size w3 w5:=(below_drewN (Below.refl w3.heap.size w3) 1).trans h55;have q5:=HCE.out w5 hb5)
     |(go_at_call 83;(with_reducible refine(HSH.out _ _ _ _ _ h51 h52 h53 h54).mono ?_);rintro e w6 ⟨rfl,h66⟩;have hb6:Below w3.heap.size w3 w6:=hb5.trans (h66.mono hb5.size);have q6:=HCE.out w6 hb6))
   all_goals
    have HB6:=Lib.hid (HB3.out.trans (hb6.mono HB3.out.size))
    clear c0 q5 q6 h51 h52 h53 h54 h55 h66 hb5 hb6
    go_wp2_with fail
    go_loopw [24] (fun jv wq=>jv=.int .i64 0∧Hid (Below W.heap.size W wq)) (fun _ _=>0)
    case atStart=>exact⟨rfl,HB6.out⟩
    case round=>
     obtain⟨rfl,HBQ⟩:=hrel
     go_wp2
     go_roundw
     case rel=>exact⟨i+1,by omega,by go_num,HBQ.out⟩
     case measure=>simp[intOf];omega
  ·obtain rfl:i=nr:=by omega
   have g0:decide ((i:Int)<(i:Int))=false:=by simp
   have q3:=HC0.out wr HBW.out
   have hrbl:rb<wr.heap.size:=by have:=HRB.out;have:=HBW.out.size;omega
   have hpos:(0:Int)<(i:Int):=by have:=HNR.out;omega
   have HW:=Lib.hid (HWR.out wr HBW.out)
   go_wp2_with fail
   refine HW.out.mono ?_
   rintro e w9 h9
   rw[←hPO.out]at h9
   rcases h9 with⟨rfl,hno,hw⟩|⟨x,t,rfl,e1,e2,e3,e4,e5,hw⟩
   ·have H9:=Lib.hid (show POST (.returned (.tuple #[.pointer none,.int .i64 5])) w9 by rw[←hPO.out];exact .inl ⟨rfl,hno,hw⟩)
    clear hno hw
    go_wp2
    exact⟨.tuple #[.pointer none,.int .i64 5],by simp[results,Tryz.results67,go_sem],H9.out⟩
   ·have H9:=Lib.hid (show POST (.returned (.tuple #[.pointer (some ⟨x,0,none⟩),.int .i64 0])) w9 by rw[←hPO.out];exact .inr ⟨x,t,rfl,e1,e2,e3,e4,e5,hw⟩)
    clear hw e1 e2 e3 e4 e5
    go_wp2
    exact⟨.tuple #[.pointer (some ⟨x,0,none⟩),.int .i64 0],by simp[results,Tryz.results67,go_sem],H9.out⟩
end
def TellC(fN:Nat)(vF:Value)(J:Nat→World→Prop)(Jm:Tup→Nat→World→Prop)(E:World→Prop)(Er:Nat→World→Prop):Prop:=
 ∀n w,J n w→Calls Tryz.prog fN #[vF] w fun e w'=>
  (∃t n',e=.returned (.tuple #[tupV t,.bool true,.int .i64 0])∧n'<n∧Jm t n' w')∨
  (e=.returned (.tuple #[tupV tup0,.bool false,.int .i64 0])∧E w')∨(∃er:Nat,e=.returned (.tuple #[tupV tup0,.bool false,.int .i64 er])∧0<er∧Er er w')
def TakeC(fP:Nat)(vT:Value)(J:Nat→World→Prop)(Jm:Tup→Nat→World→Prop)(Er:Nat→World→Prop):Prop:=
 ∀t n w,Jm t n w→Calls Tryz.prog fP #[vT,tupV t] w fun e w'=>(e=.returned (.int .i64 0)∧J n w')∨(∃er:Nat,e=.returned (.int .i64 er)∧0<er∧Er er w')
theorem jpour_any{fN fP n:Nat}{vF vT:Value}{J:Nat→World→Prop}{Jm:Tup→Nat→World→Prop}{E:World→Prop}{Er:Nat→World→Prop}{W:World}
  (eN:∀args w,Sem.run Tryz.prog (callFunc fN args) w=.ok (.enter fN args) w) (eP:∀args w,Sem.run Tryz.prog (callFunc fP args) w=.ok (.enter fP args) w)
  (hN:TellC fN vF J Jm E Er) (hP:TakeC fP vT J Jm Er)
  (bJm:∀t n w w',Jm t n w→Below w.heap.size w w'→Jm t n w') (bE:∀w w',E w→Below w.heap.size w w'→E w') (bEr:∀er w w',Er er w→Below w.heap.size w w'→Er er w')
  (h:J n W):Calls Tryz.prog 68 #[.func (.func fN) #[vF] #[],.func (.func fP) #[vT] #[]] W fun e w'=>(e=.returned (.int .i64 0)∧E w')∨(∃er:Nat,e=.returned (.int .i64 er)∧0<er∧Er er w'):=by
 have HN:=Lib.hid hN
 have HP:=Lib.hid hP
 have BJ:=Lib.hid bJm
 have BE:=Lib.hid bE
 have BR:=Lib.hid bEr
 have H:=Lib.hid h
 clear hN hP bJm bE bEr h
 go_enter Tryz.func68,Tryz.ntmps68
 go_wp2_with fail
 go_loopw [4] (fun _ wr=>∃k:Nat,Hid (J k wr)) (fun _ wr=>leastN fun k=>J k wr)
 case atStart=>exact⟨n,H⟩
 case round=>
  obtain⟨k,hJ⟩:=hrel
  have HJ:Hid (J (leastN fun k=>J k wr) wr):=(least_of (P:=fun k=>J k wr) hJ.out).1
  have HNI:=Lib.hid (HN.out _ wr HJ.out)
  clear hJ
  go_wp2_with fail
  refine HNI.out.mono ?_
  rintro e w2 (⟨t,n',rfl,hn',h2⟩|⟨rfl,h2⟩|⟨er,rfl,hpos,h2⟩)
  ·have HLT:=Lib.hid hn'
   have HW3:=Lib.hid (BJ.out t n' _ _ h2 ((Below.refl w2.heap.size w2).alloc (Nat.le_refl _) (.cells #[.int .i64 t.a,.int .i64 t.b,.int .i64 t.c,.int .i64 t.d,.int .i64 t.e] 56)))
   have hrt:Row (w2.alloc (.cells #[.int .i64 t.a,.int .i64 t.b,.int .i64 t.c,.int .i64 t.d,.int .i64 t.e] 56)) w2.heap.size 56 [.int .i64 t.a,.int .i64 t.b,.int .i64 t.c,.int .i64 t.d,.int .i64 t.e]:=heap_alloc_new _ _
   have HRT:=Lib.hid hrt
   clear h2 hrt hn'
   unfold tupV
   go_upto_region 4 with(fail)
   generalize w2.alloc (.cells #[.int .i64 t.a,.int .i64 t.b,.int .i64 t.c,.int .i64 t.d,.int .i64 t.e] 56)=w3 at*
   generalize w2.heap.size=bt at*
   have HPI:=Lib.hid (HP.out t n' w3 HW3.out)
   unfold tupV at HPI
   have d0:w3.cell? ⟨bt,0,none⟩=some (.int .i64 t.a):=HRT.out.cell 0
   have d1:w3.cell? ⟨bt,1,none⟩=some (.int .i64 t.b):=HRT.out.cell 1
   have d2:w3.cell? ⟨bt,2,none⟩=some (.int .i64 t.c):=HRT.out.cell 2
   have d3:w3.cell? ⟨bt,3,none⟩=some (.int .i64 t.d):=HRT.out.cell 3
   have d4:w3.cell? ⟨bt,4,none⟩=some (.int .i64 t.e):=HRT.out.cell 4
   go_wp2_with fail
   refine HPI.out.mono ?_
   rintro e w4 (⟨rfl,h4⟩|⟨er,rfl,hpos,h4⟩)
   ·have H4:=Lib.hid h4
    clear h4
    go_wp2
    go_roundw
    case rel=>exact⟨n',H4⟩
    case measure=>exact Nat.lt_of_le_of_lt (least_of (P:=fun k=>J k w4) H4.out).2 HLT.out
   ·have H4:=Lib.hid h4
    have hne:¬(er:Int)=0:=by omega
    have HPO:=Lib.hid hpos
    clear h4 hpos
    go_wp2
    go_ret
    exact .inr ⟨er,rfl,HPO.out,H4.out⟩
  ·have H2:=Lib.hid h2
   clear h2
   unfold tupV tup0
   go_wp2
   go_ret
   exact .inl ⟨rfl,BE.out _ _ H2.out ((Below.refl _ _).alloc (Nat.le_refl _) _)⟩
  ·have H2:=Lib.hid h2
   have hne:¬(er:Int)=0:=by omega
   have HPO:=Lib.hid hpos
   clear h2 hpos
   unfold tupV tup0
   go_wp2
   go_ret
   exact .inr ⟨er,rfl,HPO.out,BR.out _ _ _ H2.out ((Below.refl _ _).alloc (Nat.le_refl _) _)⟩
structure SrcC (X:Cx) (fN:Nat) (vF:Value) {σ:Type} (P:σ→Prop) (Z:σ→List Asn) (O:σ→List Tup) (mu c:σ→Nat) (nz:Nat) (Ze:List Asn→Prop) (Out:List Tup) (Fin:Prop) (Bad:Nat→Prop) (bd ct k:Nat):Prop where
 ent:∀args w,Sem.run Tryz.prog (callFunc fN args) w=.ok (.enter fN args) w
 len:∀s,(Z s).length=nz
 out:∀s,P s→(O s).length≤bd∧∀u∈O s,TupOk u∧fitsT k u=true
 cost:∀s,P s→c s≤ct
 zok:∀s,P s→Ze (Z s)
 next:∀s zz m W,P s→Wd X (Z s++zz) (m+c s) W→X.N+m+ct+1≤1000000→Calls Tryz.prog fN #[vF] W fun e w'=>
  (∃t s',e=.returned (.tuple #[tupV t,.bool true,.int .i64 0])∧P s'∧mu s'<mu s∧O s'=O s++[t]∧Wd X (Z s'++zz) (m+c s') w')∨
  (∃z',e=.returned (.tuple #[tupV tup0,.bool false,.int .i64 0])∧O s=Out∧Fin∧z'.length=nz∧Ze z'∧Wd X (z'++zz) (m+ct) w')∨
  (∃(er:Nat) (z':List Asn),e=.returned (.tuple #[tupV tup0,.bool false,.int .i64 er])∧0<er∧(Bad er∨er=6∧¬X.cm)∧z'.length=nz∧Ze z'∧Wd X (z'++zz) (m+ct+1) w')
structure KP where
 X:Cx
 nz:Nat
 Ze:List Asn→Prop
 Out:List Tup
 Fin:Prop
 Bad:Nat→Prop
 bd:Nat
 ct:Nat
 m:Nat
 x:Nat
 t:Wt
 R:Nat
structure KP.Ok (P:KP):Prop where
 ok:WtOk P.t P.X.sz
 bd:P.t.bound=P.bd
 nil:P.t.l=[]
 n:P.X.N+P.m+P.ct+P.bd+2≤1000000
def KP.tl(P:KP)(l:List Tup):Wt:={P.t with l:=l}
def KP.Z(P:KP)(z:List Asn)(cs:List Value)(a:Asn):List Asn:=z++[rowO P.R 31 cs,a]
def KP.Why(P:KP)(er:Nat):Prop:=P.Bad er∨er=6∧¬P.X.cm
def KP.J{σ:Type}(P:KP)(Q:σ→Prop)(Z:σ→List Asn)(O:σ→List Tup)(mu c:σ→Nat)(n:Nat)(W:World):Prop:=
 ∃s,Q s∧mu s=n∧Wd P.X (P.Z (Z s) Z4 (wrO P.X.p P.x (P.tl (O s)) P.X.sz)) (P.m+(O s).length/P.t.h+c s) W
def KP.Jm{σ:Type}(P:KP)(Q:σ→Prop)(Z:σ→List Asn)(O:σ→List Tup)(mu c:σ→Nat)(t:Tup)(n:Nat)(W:World):Prop:=
 ∃s l,Q s∧mu s=n∧O s=l++[t]∧Wd P.X (P.Z (Z s) Z4 (wrO P.X.p P.x (P.tl l) P.X.sz)) (P.m+l.length/P.t.h+c s) W
def KP.Fit(P:KP):Prop:=P.Out.length≤P.bd∧(∀u∈P.Out,TupOk u∧fitsT P.t.k u=true)∧P.Fin
def KP.E(P:KP)(W:World):Prop:=∃z,z.length=P.nz∧P.Ze z∧P.Fit∧Wd P.X (P.Z z Z4 (wrO P.X.p P.x (P.tl P.Out) P.X.sz)) (P.m+P.Out.length/P.t.h+P.ct) W
def KP.Er(P:KP)(cs:List Value)(er:Nat)(W:World):Prop:=∃z a l,z.length=P.nz∧P.Ze z∧P.Why er∧l.length≤P.bd∧(a=wrO P.X.p P.x (P.tl l) P.X.sz∨a=wsO P.X.p P.x (P.tl l))∧Wd P.X (P.Z z cs a) (P.m+P.ct+P.bd+2) W
def KP.N(P:KP)(cs:List Value)(er:Nat)(W:World):Prop:=∃z l,z.length=P.nz∧P.Ze z∧P.Why er∧Wd P.X (P.Z z cs (wsO P.X.p P.x (P.tl l))) (P.m+P.ct+P.bd+2) W
def KP.C(P:KP)(cs:List Value)(W:World):Prop:=∃z,z.length=P.nz∧P.Ze z∧P.Fit∧Wd P.X (P.Z z cs (wfO P.X.p P.x (P.tl P.Out) P.X.sz)) (P.m+blocksN P.t.h P.Out.length+P.ct) W
section
variable {P : KP} {W W' : World} {z : List Asn} {cs cs' : List Value} {a b : Asn} {er : Nat} {l : List Tup}
theorem KP.atW(P:KP)(hz:z.length=P.nz)(cs:List Value)(a:Asn):(P.Z z cs a)[P.nz+1]?=some a:=by rw[←hz];simp[KP.Z]
theorem KP.setW(P:KP)(hz:z.length=P.nz)(cs:List Value)(a b:Asn):(P.Z z cs a).set (P.nz+1) b=P.Z z cs b:=by rw[←hz];simp[KP.Z]
theorem KP.atR(P:KP)(hz:z.length=P.nz)(cs:List Value)(a:Asn):(P.Z z cs a)[P.nz]?=some (rowO P.R 31 cs):=by rw[←hz];simp[KP.Z]
theorem KP.setR(P:KP)(hz:z.length=P.nz)(cs cs':List Value)(a:Asn):(P.Z z cs a).set P.nz (rowO P.R 31 cs')=P.Z z cs' a:=by rw[←hz];simp[KP.Z]
theorem KP.tlOk(hP:P.Ok)(hl:l.length≤P.bd):WtOk (P.tl l) P.X.sz:=
 ⟨hP.ok.k,hP.ok.h,hP.ok.sz,⟨hP.ok.bound.1,by show l.length≤P.t.bound;rw[hP.bd];exact hl⟩,hP.ok.blocks,hP.ok.first⟩
theorem KP.store4{M:Nat}(hz:z.length=P.nz)(h:Wd P.X (P.Z z cs a) M W)(hcs:cs.length=4)(x1 x2 x3 x4:Value):Wd P.X (P.Z z [x1,x2,x3,x4] a) M ((((W.setCell ⟨P.R,0,none⟩ x1).setCell ⟨P.R,1,none⟩ x2).setCell ⟨P.R,2,none⟩ x3).setCell ⟨P.R,3,none⟩ x4):=by
 have h1:=Wd.store h (P.atR hz _ _) (by decide) 0 x1
 rw[P.setR hz]at h1
 have h2:=h1.store (P.atR hz _ _) (by decide) 1 x2
 rw[P.setR hz]at h2
 have h3:=h2.store (P.atR hz _ _) (by decide) 2 x3
 rw[P.setR hz]at h3
 have h4:=h3.store (P.atR hz _ _) (by decide) 3 x4
 rw[P.setR hz]at h4
 match cs,hcs with
 |[c1,c2,c3,c4],_=>exact h4
theorem div_next(n h:Nat):(n+1)/h=n/h+((n+1)/h-n/h):=by
 have:=Nat.div_le_div_right (c:=h) (show n≤n+1 by omega)
 omega
theorem KP.tell{σ:Type}{fN k:Nat}{vF:Value}{Q:σ→Prop}{Z:σ→List Asn}{O:σ→List Tup}{mu c:σ→Nat}(hP:P.Ok)(hk:P.t.k=k)(hS:SrcC P.X fN vF Q Z O mu c P.nz P.Ze P.Out P.Fin P.Bad P.bd P.ct k):
  TellC fN vF (P.J Q Z O mu c) (P.Jm Q Z O mu c) P.E (P.Er Z4):=by
 rintro n w ⟨s,hs,hmu,hw⟩
 have hd1:=Nat.div_le_self (O s).length P.t.h
 have hd2:=(hS.out s hs).1
 have hn:=hP.n
 refine(hS.next s _ (P.m+(O s).length/P.t.h) w hs hw (by omega)).mono ?_
 rintro e w' (⟨t,s',he,h1,h2,h3,h4⟩|⟨z',he,h1,hF,h2,h3,h4⟩|⟨er,z',he,h0,h1,h2,h3,h4⟩)
 ·exact .inl ⟨t,mu s',he,by omega,s',O s,h1,rfl,h3,h4⟩
 ·have hof:=(hS.out s hs).2
  rw[h1]at h4 hd2 hof
  exact .inr (.inl ⟨he,z',h2,h3,⟨hd2,by rw[hk];exact hof,hF⟩,h4⟩)
 ·exact .inr (.inr ⟨er,he,h0,z',_,O s,h2,h3,h1,hd2,.inl rfl,h4.mono (by omega) (by omega)⟩)
theorem KP.take{σ:Type}{fN k:Nat}{vF:Value}{Q:σ→Prop}{Z:σ→List Asn}{O:σ→List Tup}{mu c:σ→Nat}(hP:P.Ok)(hk:P.t.k=k)(hS:SrcC P.X fN vF Q Z O mu c P.nz P.Ze P.Out P.Fin P.Bad P.bd P.ct k):
  TakeC 54 (.pointer (some ⟨P.x,0,none⟩)) (P.J Q Z O mu c) (P.Jm Q Z O mu c) (P.Er Z4):=by
 rintro t n w ⟨s,l,hs,hmu,ho,hw⟩
 obtain⟨ho1,ho2⟩:=hS.out s hs
 have hcs:=hS.cost s hs
 rw[ho]at ho1 ho2
 have hll:l.length+1≤P.bd:=by simpa using ho1
 have hn:=hP.n
 have hd1:=Nat.div_le_self l.length P.t.h
 have hd2:=Nat.div_le_self (l.length+1) P.t.h
 refine(wd_put hw (P.atW (hS.len s) _ _) (KP.tlOk hP (by omega)) (by omega) (tu:=t) (by show fitsT P.t.k t=true;rw[hk];exact(ho2 t (by simp)).2) (by show l.length<P.t.bound;rw[hP.bd];omega)).mono ?_
 rintro e w' (⟨he,hw2⟩|⟨he,hno,hw2⟩)
 ·refine .inl ⟨he,s,hs,hmu,?_⟩
  rw[P.setW (hS.len s)]at hw2
  rw[ho]
  have e1:(l++[t]).length=l.length+1:=by simp
  rw[e1]
  have hdm:=div_next l.length P.t.h
  rw[show P.m+(l.length+1)/P.t.h+c s=P.m+l.length/P.t.h+c s+((l.length+1)/P.t.h-l.length/P.t.h)by omega]
  exact hw2
 ·refine .inr ⟨6,he,by omega,Z s,_,l++[t],hS.len s,hS.zok s hs,.inr ⟨rfl,hno⟩,by simpa using hll,.inr rfl,?_⟩
  rw[P.setW (hS.len s)]at hw2
  exact hw2.mono (by omega) (by omega)
theorem KP.close(hP:P.Ok)(h:P.E W):
  Calls Tryz.prog 55 #[.pointer (some ⟨P.x,0,none⟩)] W fun e w'=>(e=.returned (.tuple #[.agg #[.int .i64 (firstOf (P.tl P.Out):Nat),.int .i64 (blocksN P.t.h P.Out.length:Nat),.int .i64 (P.t.k:Nat),.int .i64 (P.Out.length:Nat)],.int .i64 0])∧P.C Z4 w')∨(e=.returned (.tuple #[.agg #[.int .i64 0,.int .i64 0,.int .i64 0,.int .i64 0],.int .i64 6])∧P.N Z4 6 w'):=by
 obtain⟨z,hz,hze,hfit,hw⟩:=h
 have hle:=hfit.1
 have hn:=hP.n
 have hd1:=Nat.div_le_self P.Out.length P.t.h
 refine(wd_close hw (P.atW hz _ _) (KP.tlOk hP hle) (by omega)).mono ?_
 rintro e w' (⟨he,hw2⟩|⟨he,hno,hw2⟩)
 ·refine .inl ⟨he,z,hz,hze,hfit,?_⟩
  rw[P.setW hz]at hw2
  have hb:P.Out.length/P.t.h≤blocksN P.t.h P.Out.length:=by unfold blocksN;split<;>omega
  rw[show P.m+blocksN P.t.h P.Out.length+P.ct=P.m+P.Out.length/P.t.h+P.ct+(blocksN P.t.h P.Out.length-P.Out.length/P.t.h)by omega]
  exact hw2
 ·refine .inr ⟨he,z,P.Out,hz,hze,.inr ⟨rfl,hno⟩,?_⟩
  rw[P.setW hz]at hw2
  exact hw2.mono (by omega) (by omega)
theorem KP.drop(u:FrameMode)(hP:P.Ok)(h:P.Er cs er W):
  CallsD Tryz.prog 53 #[.pointer (some ⟨P.x,0,none⟩)] u W fun e u' w'=>u'=u∧(e=.returned (.tuple #[])∧P.N cs er w'):=by
 obtain⟨z,a,l,hz,hze,hwhy,hl,rfl|rfl,hw⟩:=h
 ·refine(wd_drop hw (P.atW hz _ _) (KP.tlOk hP hl) u).mono ?_
  rintro e u' w' ⟨h1,h2,hw2⟩
  rw[P.setW hz]at hw2
  exact⟨h1,h2,z,l,hz,hze,hwhy,hw2⟩
 ·refine(wd_drop_shut (hw.at_ (P.atW hz _ _)) u).mono ?_
  rintro e u' w' ⟨h1,h2,rfl⟩
  exact⟨h1,h2,z,l,hz,hze,hwhy,hw⟩
theorem KP.N.drop(u:FrameMode)(h:P.N cs er W):
  CallsD Tryz.prog 53 #[.pointer (some ⟨P.x,0,none⟩)] u W fun e u' w'=>u'=u∧(e=.returned (.tuple #[])∧w'=W):=by
 obtain⟨z,l,hz,_,_,hw⟩:=h
 exact wd_drop_shut (hw.at_ (P.atW hz _ _)) u
theorem KP.C.drop(u:FrameMode)(h:P.C cs W):
  CallsD Tryz.prog 53 #[.pointer (some ⟨P.x,0,none⟩)] u W fun e u' w'=>u'=u∧(e=.returned (.tuple #[])∧w'=W):=by
 obtain⟨z,hz,_,_,hw⟩:=h
 exact wd_drop_shut (hw.at_ (P.atW hz _ _)) u
theorem KP.Er.store(h:P.Er cs er W)(hcs:cs.length=4)(x1 x2 x3 x4:Value):P.Er [x1,x2,x3,x4] er ((((W.setCell ⟨P.R,0,none⟩ x1).setCell ⟨P.R,1,none⟩ x2).setCell ⟨P.R,2,none⟩ x3).setCell ⟨P.R,3,none⟩ x4):=by
 obtain⟨z,a,l,hz,h1,h2,h3,h4,hw⟩:=h
 exact⟨z,a,l,hz,h1,h2,h3,h4,KP.store4 hz hw hcs x1 x2 x3 x4⟩
theorem KP.N.store(h:P.N cs er W)(hcs:cs.length=4)(x1 x2 x3 x4:Value):P.N [x1,x2,x3,x4] er ((((W.setCell ⟨P.R,0,none⟩ x1).setCell ⟨P.R,1,none⟩ x2).setCell ⟨P.R,2,none⟩ x3).setCell ⟨P.R,3,none⟩ x4):=by
 obtain⟨z,l,hz,h1,h2,hw⟩:=h
 exact⟨z,l,hz,h1,h2,KP.store4 hz hw hcs x1 x2 x3 x4⟩
theorem KP.C.store(h:P.C cs W)(hcs:cs.length=4)(x1 x2 x3 x4:Value):P.C [x1,x2,x3,x4] ((((W.setCell ⟨P.R,0,none⟩ x1).setCell ⟨P.R,1,none⟩ x2).setCell ⟨P.R,2,none⟩ x3).setCell ⟨P.R,3,none⟩ x4):=by
 obtain⟨z,hz,h1,h2,hw⟩:=h
 exact⟨z,hz,h1,h2,KP.store4 hz hw hcs x1 x2 x3 x4⟩
theorem KP.Er.row(h:P.Er cs er W):Row W P.R 31 cs:=by
 obtain⟨z,a,l,hz,h1,h2,h3,h4,hw⟩:=h
 exact hw.row (P.atR hz _ _)
theorem KP.N.row(h:P.N cs er W):Row W P.R 31 cs:=by
 obtain⟨z,l,hz,h1,h2,hw⟩:=h
 exact hw.row (P.atR hz _ _)
theorem KP.C.row(h:P.C cs W):Row W P.R 31 cs:=by
 obtain⟨z,hz,h1,h2,hw⟩:=h
 exact hw.row (P.atR hz _ _)
theorem KP.N.fin(h:P.N cs er W):∃z,z.length=P.nz∧P.Ze z∧P.Why er∧Wd P.X z (P.m+P.ct+P.bd+2) W:=by
 obtain⟨z,l,hz,h1,h2,hw⟩:=h
 refine⟨z,hz,h1,h2,?_⟩
 have h3:Wd P.X (z++[rowO P.R 31 cs,wsO P.X.p P.x (P.tl l)]++[]) (P.m+P.ct+P.bd+2) W:=by rw[List.append_nil];exact hw
 have h4:=Wd.cuts _ (fun q hq=>by simp at hq;rcases hq with rfl|rfl<;>exact⟨rfl,rfl⟩) h3
 rwa [List.append_nil]at h4
theorem KP.C.fin(h:P.C cs W):∃z,z.length=P.nz∧P.Ze z∧P.Fit∧Wd P.X (z++[fiO (firstOf (P.tl P.Out)) (blocksN P.t.h P.Out.length) P.t.k P.t.h P.Out P.X.sz]) (P.m+blocksN P.t.h P.Out.length+P.ct) W:=by
 obtain⟨z,hz,h1,hf,hw⟩:=h
 refine⟨z,hz,h1,hf,?_⟩
 have h2:=wf_fi hw (P.atW hz _ _)
 rw[P.setW hz]at h2
 have h3:Wd P.X (z++rowO P.R 31 cs::[fiO (firstOf (P.tl P.Out)) (blocksN P.t.h P.Out.length) P.t.k P.t.h P.Out P.X.sz]) (P.m+blocksN P.t.h P.Out.length+P.ct) W:=h2
 exact h3.cut rfl rfl
end
def LayRes(X:Cx)(nz:Nat)(Ze:List Asn→Prop)(Out:List Tup)(Fin:Prop)(Bad:Nat→Prop)(z0:List Asn)(m ct bd k:Nat)(e:Ending)(w':World):Prop:=
 (∃(F N:Nat) (z:List Asn),e=.returned (.tuple #[.agg #[.int .i64 F,.int .i64 N,.int .i64 k,.int .i64 (Out.length:Nat)],.int .i64 0])∧FOk F N k (holdsI X.sz k) Out X.sz∧Fin∧z.length=nz∧Ze z∧Wd X (z++[fiO F N k (holdsI X.sz k) Out X.sz]) (m+N+ct) w')∨
 (∃(er:Nat) (z:List Asn),e=.returned (.tuple #[.agg #[.int .i64 0,.int .i64 0,.int .i64 0,.int .i64 0],.int .i64 er])∧0<er∧((Bad er∨er=6∧¬X.cm)∨er=5∧∀q,¬Rm X z0 q (blocksN (holdsI X.sz k) bd))∧z.length=nz∧Ze z∧Wd X z (m+ct+bd+2) w')
section
variable {X : Cx} {m : Nat} {W : World}
theorem wd_jlay{σ:Type}{fN k nz bd ct nr rb cr:Nat}{vF:Value}{Q:σ→Prop}{Z:σ→List Asn}{O:σ→List Tup}{mu c:σ→Nat}{Ze:List Asn→Prop}{Out:List Tup}{Fin:Prop}{Bad:Nat→Prop}{s0:σ}
  (hS:SrcC X fN vF Q Z O mu c nz Ze Out Fin Bad bd ct k) (hs0:Q s0) (ho0:O s0=[]) (hc0:c s0=0) (h:Wd X (Z s0) m W) (hhol:0<holdsI X.sz k) (hbd:bd≤100000) (hroom:X.sz+sumN Asn.gw (Z s0)≤X.rm) (hn:X.N+m+ct+bd+2≤1000000)
  (hnr:0<nr∧nr≤10) (hrb:rb<W.heap.size) (hcl:W.cell? ⟨rb,3,none⟩=some (.int .i64 bd)) (hrd:ReadF (Z s0) W rb nr):
  Calls Tryz.prog 47 #[.pointer (some ⟨X.p.w,0,none⟩),.int .i64 k,.func (.func fN) #[vF] #[],.slice (some ⟨rb,0,none⟩) nr cr] W (LayRes X nz Ze Out Fin Bad (Z s0) m ct bd k):=by
 have hb0:Below W.heap.size W (W.alloc (.cells #[.int .i64 0,.int .i64 0,.int .i64 0,.int .i64 0] 31)):=(Below.refl _ _).alloc (Nat.le_refl _) _
 have hr0:Row (W.alloc (.cells #[.int .i64 0,.int .i64 0,.int .i64 0,.int .i64 0] 31)) W.heap.size 31 Z4:=heap_alloc_new _ _
 have h0:=h.new hb0 hr0 (Nat.le_refl _)
 have hgw:sumN Asn.gw (Z s0++[rowO W.heap.size 31 Z4])=sumN Asn.gw (Z s0):=sumN_snoc _ _ _
 have hrd1:ReadF (Z s0++[rowO W.heap.size 31 Z4]) (W.alloc (.cells #[.int .i64 0,.int .i64 0,.int .i64 0,.int .i64 0] 31)) rb nr:=fun i hi=>by
  obtain⟨f,n,k,c,⟨q0,q1,q2,q3⟩,h1,h2,h3⟩:=hrd i hi
  refine⟨f,n,k,c,⟨(hb0.cell hrb).trans q0,(hb0.cell hrb).trans q1,(hb0.cell hrb).trans q2,(hb0.cell hrb).trans q3⟩,h1,h2,h3.imp_right ?_⟩
  rintro⟨j,a,hj,ha⟩
  exact⟨j,a,snoc_old hj,ha⟩
 have HWR:=Lib.hid (wd_jwrite (cr:=cr) h0 hhol hbd (by rw[hgw];exact hroom) hnr (by have:=hb0.size;omega) ((hb0.cell hrb).trans hcl) hrd1)
 have hNO:∀(w':World),(∀q,¬Rm X (Z s0++[rowO W.heap.size 31 Z4]) q (blocksN (holdsI X.sz k) bd))→Wd X (Z s0++[rowO W.heap.size 31 Z4]) m w'→∀q,¬Rm X (Z s0) q (blocksN (holdsI X.sz k) bd):=fun w' hno _ q hq=>
  hno q (rm_bare hq fun a ha=>by simp at ha;subst ha;exact⟨rfl,rfl⟩)
 generalize hPO:LayRes X nz Ze Out Fin Bad (Z s0) m ct bd k=POST at*
 have HNF:Hid (∀W':World,(∀q,¬Rm X (Z s0++[rowO W.heap.size 31 Z4]) q (blocksN (holdsI X.sz k) bd))→Wd X (Z s0++[rowO W.heap.size 31 Z4]) m W'→∃P:World→Prop,P W'∧(∀w,P w→Row w W.heap.size 31 Z4)∧(∀w,P w→P ((((w.setCell ⟨W.heap.size,0,none⟩ (.int .i64 0)).setCell ⟨W.heap.size,1,none⟩ (.int .i64 0)).setCell ⟨W.heap.size,2,none⟩ (.int .i64 0)).setCell ⟨W.heap.size,3,none⟩ (.int .i64 0)))∧∀w,P w→POST (.returned (.tuple #[.agg #[.int .i64 0,.int .i64 0,.int .i64 0,.int .i64 0],.int .i64 5])) w):=fun W' hno hw=>by
  have ha:(Z s0++[rowO W.heap.size 31 Z4])[(Z s0).length]?=some (rowO W.heap.size 31 Z4):=by simp
  have hse:∀cs,(Z s0++[rowO W.heap.size 31 cs]).set (Z s0).length (rowO W.heap.size 31 Z4)=Z s0++[rowO W.heap.size 31 Z4]:=fun cs=>by simp
  refine⟨fun w=>Wd X (Z s0++[rowO W.heap.size 31 Z4]) m w,hw,fun w h1=>h1.row ha,fun w h1=>?_,fun w h1=>?_⟩
  ·have k1:=h1.store ha (by decide) 0 (.int .i64 0)
   have k2:=k1.store (set_at _ ha _) (by decide) 1 (.int .i64 0)
   have k3:=k2.store (set_at _ (set_at _ ha _) _) (by decide) 2 (.int .i64 0)
   have k4:=k3.store (set_at _ (set_at _ (set_at _ ha _) _) _) (by decide) 3 (.int .i64 0)
   simpa [Z4]using k4
  ·rw[←hPO]
   refine .inr ⟨5,Z s0,rfl,by omega,.inr ⟨rfl,hNO w hno h1⟩,hS.len s0,hS.zok s0 hs0,?_⟩
   exact(h1.drop rfl rfl).mono (by omega) (by omega)
 have HINIT:Hid (∀x t W1,t.k=k→t.h=holdsI X.sz k→t.bound=bd→t.l=[]→WtOk t X.sz→Wd X (Z s0++[rowO W.heap.size 31 Z4]++[wrO X.p x t X.sz]) m W1→
   ∃(P:KP) (F N:Nat),P.R=W.heap.size∧P.Ok∧P.x=x∧
    Calls Tryz.prog 68 #[.func (.func fN) #[vF] #[],.func (.func 54) #[.pointer (some ⟨x,0,none⟩)] #[]] W1 (fun e w'=>(e=.returned (.int .i64 0)∧P.E w')∨(∃er:Nat,e=.returned (.int .i64 er)∧0<er∧P.Er Z4 er w'))∧
    (∀w,P.E w→Calls Tryz.prog 55 #[.pointer (some ⟨x,0,none⟩)] w fun e w'=>(e=.returned (.tuple #[.agg #[.int .i64 F,.int .i64 N,.int .i64 k,.int .i64 (Out.length:Nat)],.int .i64 0])∧P.C Z4 w')∨(e=.returned (.tuple #[.agg #[.int .i64 0,.int .i64 0,.int .i64 0,.int .i64 0],.int .i64 6])∧P.N Z4 6 w'))∧
    (∀cs w,P.C cs w→POST (.returned (.tuple #[.agg #[.int .i64 F,.int .i64 N,.int .i64 k,.int .i64 (Out.length:Nat)],.int .i64 0])) w)∧
    (∀cs er w,0<er→P.N cs er w→POST (.returned (.tuple #[.agg #[.int .i64 0,.int .i64 0,.int .i64 0,.int .i64 0],.int .i64 er])) w)):=fun x t W1 e1 e2 e3 e4 e5 hw=>by
  have hP:KP.Ok ⟨X,nz,Ze,Out,Fin,Bad,bd,ct,m,x,t,W.heap.size⟩:=⟨e5,e3,e4,hn⟩
  refine⟨⟨X,nz,Ze,Out,Fin,Bad,bd,ct,m,x,t,W.heap.size⟩,firstOf (KP.tl ⟨X,nz,Ze,Out,Fin,Bad,bd,ct,m,x,t,W.heap.size⟩ Out),blocksN t.h Out.length,rfl,hP,rfl,?_,fun w h1=>?_,fun cs w h1=>?_,fun cs er w her h1=>?_⟩
  ·refine jpour_any (J:=KP.J ⟨X,nz,Ze,Out,Fin,Bad,bd,ct,m,x,t,W.heap.size⟩ Q Z O mu c) (n:=mu s0) hS.ent (fun args w=>by kernel_rfl) (KP.tell hP e1 hS) (KP.take hP e1 hS) ?_ ?_ ?_ ?_
   ·rintro tu n w w' ⟨s,l,q1,q2,q3,q4⟩ hb
    exact⟨s,l,q1,q2,q3,q4.below hb⟩
   ·rintro w w' ⟨z,q1,q2,q3,q4⟩ hb
    exact⟨z,q1,q2,q3,q4.below hb⟩
   ·rintro er w w' ⟨z,a,l,q1,q2,q3,q4,q5,q6⟩ hb
    exact⟨z,a,l,q1,q2,q3,q4,q5,q6.below hb⟩
   ·refine⟨s0,hs0,rfl,?_⟩
    have et:(KP.tl ⟨X,nz,Ze,Out,Fin,Bad,bd,ct,m,x,t,W.heap.size⟩ (O s0))=t:=by unfold KP.tl;rw[ho0,←e4]
    rw[et,ho0,hc0]
    show Wd X (Z s0++[rowO W.heap.size 31 Z4,wrO X.p x t X.sz]) (m+0/t.h+0) W1
    rw[Nat.zero_div]
    simpa using hw
  ·have:=KP.close hP h1
   have e1':((⟨X,nz,Ze,Out,Fin,Bad,bd,ct,m,x,t,W.heap.size⟩:KP).t.k)=k:=e1
   rw[e1']at this
   exact this
  ·obtain⟨z,q1,q2,q3,q4⟩:=h1.fin
   have q3':Out.length≤bd∧(∀u∈Out,TupOk u∧fitsT t.k u=true)∧Fin:=q3
   have q4':Wd X (z++[fiO (firstOf (KP.tl ⟨X,nz,Ze,Out,Fin,Bad,bd,ct,m,x,t,W.heap.size⟩ Out)) (blocksN t.h Out.length) t.k t.h Out X.sz]) (m+blocksN t.h Out.length+ct) w:=q4
   rw[←hPO]
   have hfo:firstOf (KP.tl ⟨X,nz,Ze,Out,Fin,Bad,bd,ct,m,x,t,W.heap.size⟩ Out)≤2000000:=by
    have:=e5.first
    unfold firstOf KP.tl
    split
    ·omega
    ·exact this
   generalize firstOf (KP.tl ⟨X,nz,Ze,Out,Fin,Bad,bd,ct,m,x,t,W.heap.size⟩ Out)=fo at*
   refine .inl ⟨fo,blocksN t.h Out.length,z,rfl,⟨by rw[←e1];exact e5.k,by have h9:=e5.h;rw[e2,e1]at h9;exact h9,rfl,by rw[e2],by omega,hfo,by rw[←e1];exact q3'.2.1⟩,q3'.2.2,q1,q2,?_⟩
   rw[e1]at q4'
   rw[e2]at q4'⊢
   exact q4'
  ·obtain⟨z,q1,q2,q3,q4⟩:=h1.fin
   rw[←hPO]
   exact .inr ⟨er,z,rfl,her,.inl q3,q1,q2,q4⟩
 clear hS hs0 ho0 hc0 h hhol hbd hroom hn hnr hrb hcl hrd hb0 hr0 h0 hgw hrd1 hNO
 replace hPO:=Lib.hid hPO
 go_enter_defers Tryz.func47,Tryz.ntmps47
 go_wp2_with fail
 refine HWR.out.mono ?_
 rintro e w1 (⟨rfl,hno,hw1⟩|⟨x,t,rfl,e1,e2,e3,e4,e5,hw1⟩)
 ·obtain⟨P,hp,hrow,hst,hfin⟩:=HNF.out w1 hno hw1
  have HP0:=Lib.hid hp
  have HRW:=Lib.hid hrow
  have HST:=Lib.hid hst
  have HFI:=Lib.hid hfin
  clear hp hrow hst hfin hno hw1 HNF HINIT HWR
  have HR0:=Lib.hid (HRW.out _ HP0.out)
  have z0:w1.cell? ⟨W.heap.size,0,none⟩=some (.int .i64 0):=HR0.out.cell 0
  have z1:w1.cell? ⟨W.heap.size,1,none⟩=some (.int .i64 0):=HR0.out.cell 1
  have z2:w1.cell? ⟨W.heap.size,2,none⟩=some (.int .i64 0):=HR0.out.cell 2
  have z3:w1.cell? ⟨W.heap.size,3,none⟩=some (.int .i64 0):=HR0.out.cell 3
  have f0:=HR0.out.free 0
  have f1:=HR0.out.free 1
  have f2:=HR0.out.free 2
  have f3:=HR0.out.free 3
  have HP9:=Lib.hid (HST.out _ HP0.out)
  have HR9:=Lib.hid (HRW.out _ HP9.out)
  go_wp2
  have r0:=HR9.out.cell 0
  have r1:=HR9.out.cell 1
  have r2:=HR9.out.cell 2
  have r3:=HR9.out.cell 3
  simp only[Z4,List.getElem?_cons_zero,List.getElem?_cons_succ]at r0 r1 r2 r3
  exact⟨.tuple #[.agg #[.int .i64 0,.int .i64 0,.int .i64 0,.int .i64 0],.int .i64 5],by simp[results,Tryz.results47,go_sem,r0,r1,r2,r3],HFI.out _ HP9.out⟩
 obtain⟨P,F,N,hR,hP,hx,hpour,hclose,hC,hN⟩:=HINIT.out x t w1 e1 e2 e3 e4 e5 hw1
 have HPOUR:=Lib.hid hpour
 have HCL:=Lib.hid hclose
 have HC:=Lib.hid hC
 have HN:=Lib.hid hN
 have HOK:=Lib.hid hP
 have HSTE:Hid (∀er w,P.Er Z4 er w→Row w W.heap.size 31 Z4∧P.Er Z4 er ((((w.setCell ⟨W.heap.size,0,none⟩ (.int .i64 0)).setCell ⟨W.heap.size,1,none⟩ (.int .i64 0)).setCell ⟨W.heap.size,2,none⟩ (.int .i64 0)).setCell ⟨W.heap.size,3,none⟩ (.int .i64 0))):=fun er w h1=>by
  have q1:=h1.row
  have q2:=h1.store rfl (.int .i64 0) (.int .i64 0) (.int .i64 0) (.int .i64 0)
  rw[hR]at q1 q2
  exact⟨q1,q2⟩
 have HSTN:Hid (∀er w,P.N Z4 er w→Row w W.heap.size 31 Z4∧P.N Z4 er ((((w.setCell ⟨W.heap.size,0,none⟩ (.int .i64 0)).setCell ⟨W.heap.size,1,none⟩ (.int .i64 0)).setCell ⟨W.heap.size,2,none⟩ (.int .i64 0)).setCell ⟨W.heap.size,3,none⟩ (.int .i64 0))):=fun er w h1=>by
  have q1:=h1.row
  have q2:=h1.store rfl (.int .i64 0) (.int .i64 0) (.int .i64 0) (.int .i64 0)
  rw[hR]at q1 q2
  exact⟨q1,q2⟩
 have HSTC:Hid (∀w x1 x2 x3 x4,P.C Z4 w→Row w W.heap.size 31 Z4∧P.C [x1,x2,x3,x4] ((((w.setCell ⟨W.heap.size,0,none⟩ x1).setCell ⟨W.heap.size,1,none⟩ x2).setCell ⟨W.heap.size,2,none⟩ x3).setCell ⟨W.heap.size,3,none⟩ x4)):=fun w x1 x2 x3 x4 h1=>by
  have q1:=h1.row
  have q2:=h1.store rfl x1 x2 x3 x4
  rw[hR]at q1 q2
  exact⟨q1,q2⟩
 have HRC:Hid (∀cs w,P.C cs w→Row w W.heap.size 31 cs):=fun cs w h1=>by have:=h1.row;rw[hR]at this;exact this
 have HRN:Hid (∀cs er w,P.N cs er w→Row w W.heap.size 31 cs):=fun cs er w h1=>by have:=h1.row;rw[hR]at this;exact this
 have HDE:Hid (∀u er w,P.Er Z4 er w→CallsD Tryz.prog 53 #[.pointer (some ⟨x,0,none⟩)] u w fun e u' w'=>u'=u∧(e=.returned (.tuple #[])∧P.N Z4 er w')):=fun u er w h1=>by have:=KP.drop u hP h1;rw[hx]at this;exact this
 have HDN:Hid (∀u er w,P.N Z4 er w→CallsD Tryz.prog 53 #[.pointer (some ⟨x,0,none⟩)] u w fun e u' w'=>u'=u∧(e=.returned (.tuple #[])∧w'=w)):=fun u er w h1=>by have:=KP.N.drop u h1;rw[hx]at this;exact this
 have HDC:Hid (∀u cs w,P.C cs w→CallsD Tryz.prog 53 #[.pointer (some ⟨x,0,none⟩)] u w fun e u' w'=>u'=u∧(e=.returned (.tuple #[])∧w'=w)):=fun u cs w h1=>by have:=KP.C.drop u h1;rw[hx]at this;exact this
 clear hpour hclose hC hN hP hx hR hw1 e1 e2 e3 e4 e5 HINIT HNF HWR
 generalize hol9:Out.length=ol at*
 go_wp2_with fail
 refine HPOUR.out.mono ?_
 rintro e w2 (⟨rfl,h2⟩|⟨er,rfl,hpos,h2⟩)
 ·have H2:=Lib.hid h2
  clear h2
  go_wp2_with fail
  refine(HCL.out _ H2.out).mono ?_
  rintro e w3 (⟨rfl,h3⟩|⟨rfl,h3⟩)
  ·obtain⟨hr3,h4⟩:=HSTC.out w3 (.int .i64 F) (.int .i64 N) (.int .i64 k) (.int .i64 ol) h3
   have HR3:=Lib.hid hr3
   have H4:=Lib.hid h4
   clear h3 hr3 h4
   have z0:w3.cell? ⟨W.heap.size,0,none⟩=some (.int .i64 0):=HR3.out.cell 0
   have z1:w3.cell? ⟨W.heap.size,1,none⟩=some (.int .i64 0):=HR3.out.cell 1
   have z2:w3.cell? ⟨W.heap.size,2,none⟩=some (.int .i64 0):=HR3.out.cell 2
   have z3:w3.cell? ⟨W.heap.size,3,none⟩=some (.int .i64 0):=HR3.out.cell 3
   have f0:=HR3.out.free 0
   have f1:=HR3.out.free 1
   have f2:=HR3.out.free 2
   have f3:=HR3.out.free 3
   go_wp2
   refine leaves_cons (f:=53) (args:=#[.pointer (some ⟨x,0,none⟩)]) (by simp) (by simp[go_sem]) ?_
   refine(HDC.out _ _ _ H4.out).mono ?_
   rintro e u' w'' ⟨rfl,rfl,rfl⟩
   have HR9:=Lib.hid (HRC.out _ _ H4.out)
   have r0:=HR9.out.cell 0
   have r1:=HR9.out.cell 1
   have r2:=HR9.out.cell 2
   have r3:=HR9.out.cell 3
   simp only[List.getElem?_cons_zero,List.getElem?_cons_succ]at r0 r1 r2 r3
   exact⟨.tuple #[.agg #[.int .i64 F,.int .i64 N,.int .i64 k,.int .i64 ol],.int .i64 0],by simp[results,Tryz.results47,go_sem,r0,r1,r2,r3],HC.out _ _ H4.out⟩
  ·obtain⟨hr3,h4⟩:=HSTN.out 6 w3 h3
   have HR3:=Lib.hid hr3
   have H4:=Lib.hid h4
   clear h3 hr3 h4
   have z0:w3.cell? ⟨W.heap.size,0,none⟩=some (.int .i64 0):=HR3.out.cell 0
   have z1:w3.cell? ⟨W.heap.size,1,none⟩=some (.int .i64 0):=HR3.out.cell 1
   have z2:w3.cell? ⟨W.heap.size,2,none⟩=some (.int .i64 0):=HR3.out.cell 2
   have z3:w3.cell? ⟨W.heap.size,3,none⟩=some (.int .i64 0):=HR3.out.cell 3
   have f0:=HR3.out.free 0
   have f1:=HR3.out.free 1
   have f2:=HR3.out.free 2
   have f3:=HR3.out.free 3
   go_wp2
   refine leaves_cons (f:=53) (args:=#[.pointer (some ⟨x,0,none⟩)]) (by simp) (by simp[go_sem]) ?_
   refine(HDN.out _ _ _ H4.out).mono ?_
   rintro e u' w'' ⟨rfl,rfl,rfl⟩
   have HR9:=Lib.hid (HRN.out _ _ _ H4.out)
   have r0:=HR9.out.cell 0
   have r1:=HR9.out.cell 1
   have r2:=HR9.out.cell 2
   have r3:=HR9.out.cell 3
   simp only[Z4,List.getElem?_cons_zero,List.getElem?_cons_succ]at r0 r1 r2 r3
   exact⟨.tuple #[.agg #[.int .i64 0,.int .i64 0,.int .i64 0,.int .i64 0],.int .i64 6],by simp[results,Tryz.results47,go_sem,r0,r1,r2,r3],HN.out _ 6 _ (by omega) H4.out⟩
 ·obtain⟨hr3,h4⟩:=HSTE.out er w2 h2
  have HR3:=Lib.hid hr3
  have H4:=Lib.hid h4
  have hne:¬(er:Int)=0:=by omega
  have HPO:=Lib.hid hpos
  clear h2 hr3 h4 hpos
  have z0:w2.cell? ⟨W.heap.size,0,none⟩=some (.int .i64 0):=HR3.out.cell 0
  have z1:w2.cell? ⟨W.heap.size,1,none⟩=some (.int .i64 0):=HR3.out.cell 1
  have z2:w2.cell? ⟨W.heap.size,2,none⟩=some (.int .i64 0):=HR3.out.cell 2
  have z3:w2.cell? ⟨W.heap.size,3,none⟩=some (.int .i64 0):=HR3.out.cell 3
  have f0:=HR3.out.free 0
  have f1:=HR3.out.free 1
  have f2:=HR3.out.free 2
  have f3:=HR3.out.free 3
  go_wp2
  refine leaves_cons (f:=53) (args:=#[.pointer (some ⟨x,0,none⟩)]) (by simp) (by simp[go_sem]) ?_
  refine(HDE.out _ _ _ H4.out).mono ?_
  rintro e u' w'' ⟨rfl,rfl,h5⟩
  have HR9:=Lib.hid (HRN.out _ _ _ h5)
  have r0:=HR9.out.cell 0
  have r1:=HR9.out.cell 1
  have r2:=HR9.out.cell 2
  have r3:=HR9.out.cell 3
  simp only[Z4,List.getElem?_cons_zero,List.getElem?_cons_succ]at r0 r1 r2 r3
  exact⟨.tuple #[.agg #[.int .i64 0,.int .i64 0,.int .i64 0,.int .i64 0],.int .i64 er],by simp[results,Tryz.results47,go_sem,r0,r1,r2,r3],HN.out _ er _ HPO.out h5⟩
end
def CP.Ze(P:CP)(z:List Asn):Prop:=∃i a,z=P.Z i a∧RdE P.X P.x P.r P.l a
theorem CP.src_{P:CP}{k:Nat}(hP:P.Ok)(hout:∀j t u,P.l[j]?=some t→P.chg j t=some u→TupOk u∧fitsT k u=true):
  SrcC P.X 58 (.agg P.vF.toArray) (fun i=>i≤P.l.length) (fun i=>P.Z i (P.rd i)) (outL P.chg P.l) (fun i=>P.l.length-i) (fun i=>blocksN P.r.h i) (P.np+1) P.Ze (outL P.chg P.l P.l.length) True (fun _=>False) P.l.length (blocksN P.r.h P.l.length) k where
 ent:=fun args w=>by kernel_rfl
 len:=fun s=>CP.zlen hP _
 out:=fun s hs=>⟨Nat.le_trans (outL_len _ _ s) hs,fun u hu=>by
  obtain⟨j,t,h1,h2⟩:=outL_mem hu
  exact hout j t u h1 h2⟩
 cost:=fun s hs=>blocks_mono hP.rd.ok.h.1 hs
 zok:=fun s _=>⟨s,_,rfl,s,.inl rfl⟩
 next:=fun s zz m W hs hw hn=>by
  refine(cnext_any hP hw hs hn).mono ?_
  rintro e w' (⟨t,i',he,h1,h2,h3,h4⟩|⟨he,h1,h2⟩|⟨i',he,h1,h2⟩)
  ·exact .inl ⟨t,i',he,h2,by omega,h3,h4⟩
  ·exact .inr (.inl ⟨_,he,h1,trivial,CP.zlen hP _,⟨_,_,rfl,_,.inl rfl⟩,h2⟩)
  ·exact .inr (.inr ⟨6,_,he,by omega,.inr ⟨rfl,h1⟩,CP.zlen hP _,⟨_,_,rfl,_,.inr rfl⟩,h2⟩)
def ChgRes(X:Cx)(pre post:List Asn)(H:Nat→List Asn)(Out:List Tup)(m nb bd k:Nat)(e:Ending)(w':World):Prop:=
 (∃F N i:Nat,e=.returned (.tuple #[.agg #[.int .i64 F,.int .i64 N,.int .i64 k,.int .i64 (Out.length:Nat)],.int .i64 0])∧FOk F N k (holdsI X.sz k) Out X.sz∧Wd X (pre++H i++post++[fiO F N k (holdsI X.sz k) Out X.sz]) (m+N+nb) w')∨
 (∃er i:Nat,e=.returned (.tuple #[.agg #[.int .i64 0,.int .i64 0,.int .i64 0,.int .i64 0],.int .i64 er])∧0<er∧(er=6∧¬X.cm∨er=5∧∀q,¬Rm X (pre++H 0++post) q (blocksN (holdsI X.sz k) bd))∧Wd X (pre++H i++post) (m+nb+bd+2) w')
def chZ(Y:List Asn)(fb R:Nat)(fc cs:List Value)(a:Asn)(tail:List Asn):List Asn:=Y++[rowO fb 31 fc,rowO R 31 cs,a]++tail
section
variable {X : Cx} {Y tail : List Asn} {fb R M : Nat} {fc cs cs' : List Value} {a b : Asn} {W : World}
theorem chZ_R:(chZ Y fb R fc cs a tail)[Y.length+1]?=some (rowO R 31 cs):=by simp[chZ]
theorem chZ_F:(chZ Y fb R fc cs a tail)[Y.length]?=some (rowO fb 31 fc):=by simp[chZ]
theorem chZ_rd:(chZ Y fb R fc cs a tail)[Y.length+2]?=some a:=by simp[chZ]
theorem chZ_setR:(chZ Y fb R fc cs a tail).set (Y.length+1) (rowO R 31 cs')=chZ Y fb R fc cs' a tail:=by simp[chZ]
theorem chZ_setrd:(chZ Y fb R fc cs a tail).set (Y.length+2) b=chZ Y fb R fc cs b tail:=by simp[chZ]
theorem chZ_store(hcs:cs.length=4)(h:Wd X (chZ Y fb R fc cs a tail) M W)(x1 x2 x3 x4:Value):Wd X (chZ Y fb R fc [x1,x2,x3,x4] a tail) M ((((W.setCell ⟨R,0,none⟩ x1).setCell ⟨R,1,none⟩ x2).setCell ⟨R,2,none⟩ x3).setCell ⟨R,3,none⟩ x4):=by
 have h1:=Wd.store h chZ_R (by decide) 0 x1
 rw[chZ_setR]at h1
 have h2:=h1.store chZ_R (by decide) 1 x2
 rw[chZ_setR]at h2
 have h3:=h2.store chZ_R (by decide) 2 x3
 rw[chZ_setR]at h3
 have h4:=h3.store chZ_R (by decide) 3 x4
 rw[chZ_setR]at h4
 match cs,hcs with
 |[c1,c2,c3,c4],_=>exact h4
theorem chZ_cut(ha:a.gr=none∧a.ex.2=0)(h:Wd X (chZ Y fb R fc cs a tail) M W):Wd X (Y++tail) M W:=
 Wd.cuts _ (fun q hq=>by simp at hq;rcases hq with rfl|rfl|rfl<;>first|exact⟨rfl,rfl⟩|exact ha) h
end
section
variable {X : Cx} {m : Nat} {W : World}
theorem wd_change{pre post:List Asn}{H:Nat→List Asn}{nh fH first nb k hh count width:Nat}{caps:Array Value}{l:List Tup}{chg:Nat→Tup→Option Tup}
  (hH:HowC X pre fH caps l chg H nh) (h:Wd X (pre++H 0++post) m W) (hf:FOk first nb k hh l X.sz) (hmem:fiO first nb k hh l X.sz∈pre++post) (hc:l.length=count) (hwd:0<holdsI X.sz width)
  (hout:∀j t u,l[j]?=some t→chg j t=some u→TupOk u∧fitsT width u=true) (hroom:2*X.sz+sumN Asn.gw (pre++H 0++post)≤X.rm) (hn:X.N+m+nb+count+2≤1000000):
  Calls Tryz.prog 32 #[.pointer (some ⟨X.p.w,0,none⟩),.agg #[.int .i64 first,.int .i64 nb,.int .i64 k,.int .i64 count],.int .i64 width,.func (.func fH) #[] caps] W (ChgRes X pre post H (outL chg l count) m nb count width):=by
 obtain⟨W2,hW2⟩:∃W2,W2=(W.alloc (.cells #[.int .i64 first,.int .i64 nb,.int .i64 k,.int .i64 count] 31)).alloc (.cells #[.int .i64 0,.int .i64 0,.int .i64 0,.int .i64 0] 31):=⟨_,rfl⟩
 have hb1:Below W.heap.size W (W.alloc (.cells #[.int .i64 first,.int .i64 nb,.int .i64 k,.int .i64 count] 31)):=(Below.refl _ _).alloc (Nat.le_refl _) _
 have h1:=h.new hb1 (heap_alloc_new _ _:Row _ _ 31 [.int .i64 first,.int .i64 nb,.int .i64 k,.int .i64 count]) (Nat.le_refl _)
 have hb2:=(Below.refl (W.alloc (.cells #[.int .i64 first,.int .i64 nb,.int .i64 k,.int .i64 count] 31)).heap.size (W.alloc (.cells #[.int .i64 first,.int .i64 nb,.int .i64 k,.int .i64 count] 31))).alloc (Nat.le_refl _) (.cells #[.int .i64 0,.int .i64 0,.int .i64 0,.int .i64 0] 31)
 have h2:=h1.new hb2 (heap_alloc_new _ _:Row _ _ 31 Z4) (Nat.le_refl _)
 rw[←hW2]at h2
 rw[show (W.alloc (.cells #[.int .i64 first,.int .i64 nb,.int .i64 k,.int .i64 count] 31)).heap.size=W.heap.size+1 by simp]at h2
 obtain⟨fb,hfb⟩:∃fb,fb=W.heap.size:=⟨_,rfl⟩
 rw[←hfb]at h2
 obtain⟨fc,hfc⟩:∃fc:List Value,fc=[.int .i64 first,.int .i64 nb,.int .i64 k,.int .i64 count]:=⟨_,rfl⟩
 rw[←hfc]at h2
 have h2:Wd X (pre++H 0++(post++[rowO fb 31 fc,rowO (fb+1) 31 Z4])) m W2:=by simpa [List.append_assoc]using h2
 have hgw:sumN Asn.gw (pre++H 0++(post++[rowO fb 31 fc,rowO (fb+1) 31 Z4]))=sumN Asn.gw (pre++H 0++post):=by
  rw[←List.append_assoc,sumN_app,gw_bare [rowO fb 31 fc,rowO (fb+1) 31 Z4] (fun q hq=>by simp at hq;rcases hq with rfl|rfl<;>exact⟨rfl,rfl⟩)];omega
 have HRD:Hid (∀w,Below W2.heap.size W2 w→Calls Tryz.prog 39 #[.pointer (some ⟨X.p.w,0,none⟩),.agg #[.int .i64 first,.int .i64 nb,.int .i64 k,.int .i64 count]] w fun e w'=>∃x b g,e=.returned (.tuple #[.pointer (some ⟨x,0,none⟩),.int .i64 0])∧RtOk ⟨k,hh,first,nb,count,0,b,g⟩ X.sz∧Wd X (pre++H 0++(post++[rowO fb 31 fc,rowO (fb+1) 31 Z4])++[rdO X.p x ⟨k,hh,first,nb,count,0,b,g⟩ X.sz l]) m w'):=fun w hb=>
  wd_read (h2.below hb) first nb k hh count l hf.hol hf.hh.1 (by rw[hf.bn,hc]) (by rw[←hc];exact hf.len) hf.fst (by rw[hgw];omega)
 have HF2:Hid (Row W2 fb 31 fc):=h2.row (i:=(pre++H 0++post).length) (by rw[←List.append_assoc,List.getElem?_append_right (Nat.le_refl _),Nat.sub_self];rfl)
 have HINIT:Hid (∀x b g w0,RtOk ⟨k,hh,first,nb,count,0,b,g⟩ X.sz→Wd X (pre++H 0++(post++[rowO fb 31 fc,rowO (fb+1) 31 Z4])++[rdO X.p x ⟨k,hh,first,nb,count,0,b,g⟩ X.sz l]) m w0→
   ∃(A:World→Prop) (C:Nat→Nat→List Value→World→Prop) (N:Nat→List Value→World→Prop),A w0∧(∀w w',A w→Below w.heap.size w w'→A w')∧(∀w,A w→Row w fb 31 fc)∧
    (∀w rb,A w→Row w rb 31 fc→Calls Tryz.prog 47 #[.pointer (some ⟨X.p.w,0,none⟩),.int .i64 width,.func (.func 58) #[.agg #[.func (.func 41) #[.pointer (some ⟨x,0,none⟩)] #[],.func (.func fH) #[] caps]] #[],.slice (some ⟨rb,0,none⟩) 1 1] w fun e w'=>
     (∃F M:Nat,e=.returned (.tuple #[.agg #[.int .i64 F,.int .i64 M,.int .i64 width,.int .i64 ((outL chg l count).length:Nat)],.int .i64 0])∧C F M Z4 w')∨
     (∃er:Nat,e=.returned (.tuple #[.agg #[.int .i64 0,.int .i64 0,.int .i64 0,.int .i64 0],.int .i64 er])∧0<er∧N er Z4 w'))∧
    (∀F M cs w x1 x2 x3 x4,cs.length=4→C F M cs w→C F M [x1,x2,x3,x4] ((((w.setCell ⟨fb+1,0,none⟩ x1).setCell ⟨fb+1,1,none⟩ x2).setCell ⟨fb+1,2,none⟩ x3).setCell ⟨fb+1,3,none⟩ x4))∧
    (∀er cs w x1 x2 x3 x4,cs.length=4→N er cs w→N er [x1,x2,x3,x4] ((((w.setCell ⟨fb+1,0,none⟩ x1).setCell ⟨fb+1,1,none⟩ x2).setCell ⟨fb+1,2,none⟩ x3).setCell ⟨fb+1,3,none⟩ x4))∧
    (∀F M cs w,C F M cs w→Row w (fb+1) 31 cs)∧(∀er cs w,N er cs w→Row w (fb+1) 31 cs)∧
    (∀F M cs w u,C F M cs w→CallsD Tryz.prog 40 #[.pointer (some ⟨x,0,none⟩)] u w fun e u' w'=>u'=u∧(e=.returned (.tuple #[])∧Row w' (fb+1) 31 cs∧ChgRes X pre post H (outL chg l count) m nb count width (.returned (.tuple #[.agg #[.int .i64 F,.int .i64 M,.int .i64 width,.int .i64 ((outL chg l count).length:Nat)],.int .i64 0])) w'))∧
    (∀er cs w u,0<er→N er cs w→CallsD Tryz.prog 40 #[.pointer (some ⟨x,0,none⟩)] u w fun e u' w'=>u'=u∧(e=.returned (.tuple #[])∧Row w' (fb+1) 31 cs∧ChgRes X pre post H (outL chg l count) m nb count width (.returned (.tuple #[.agg #[.int .i64 0,.int .i64 0,.int .i64 0,.int .i64 0],.int .i64 er])) w'))):=fun x b g w0 hrt hw0=>by
  obtain⟨P,hPd⟩:∃P:CP,P=⟨X,pre,H,nh,post++[rowO fb 31 fc,rowO (fb+1) 31 Z4],l,chg,⟨k,hh,first,nb,count,0,b,g⟩,x,fH,caps⟩:=⟨_,rfl⟩
  have hP:P.Ok:=by
   rw[hPd]
   refine⟨hH,⟨hrt,hc,fun u hu=>hf.fit u hu,hf.bn⟩,fun j a zz=>src_mem (nb:=nb) ?_ hf.bn⟩
   show fiO first nb k hh l X.sz∈pre++H j++(post++[rowO fb 31 fc,rowO (fb+1) 31 Z4])++[a]++zz
   rcases List.mem_append.1 hmem with hm|hm<;>simp[hm]
  have hS:=CP.src_ (k:=width) hP (by rw[hPd];exact hout)
  have hZ:∀(i:Nat) (a:Asn) (tail:List Asn),P.Z i a++tail=chZ (pre++H i++post) fb (fb+1) fc Z4 a tail:=fun i a tail=>by rw[hPd];simp[CP.Z,chZ,List.append_assoc]
  have hll:P.l.length=count:=by rw[hPd];exact hc
  have hol:outL P.chg P.l P.l.length=outL chg l count:=by rw[hPd,←hc]
  have hbn:blocksN P.r.h P.l.length=nb:=by rw[hPd];exact hf.bn.symm
  have hPX:P.X=X:=by rw[hPd]
  have hZe:∀z,P.Ze z→∃i a,z=P.Z i a∧RdE X x ⟨k,hh,first,nb,count,0,b,g⟩ l a:=fun z hz=>by rw[hPd]at hz⊢;exact hz
  have hvF:P.vF.toArray=#[.func (.func 41) #[.pointer (some ⟨x,0,none⟩)] #[],.func (.func fH) #[] caps]:=by rw[hPd];rfl
  have hZ0:P.Z 0 (P.rd 0)=pre++H 0++(post++[rowO fb 31 fc,rowO (fb+1) 31 Z4])++[rdO X.p x ⟨k,hh,first,nb,count,0,b,g⟩ X.sz l]:=by rw[hPd];rfl
  rw[hvF,hol,hbn,hll,hPX]at hS
  refine⟨fun w=>Wd X (P.Z 0 (P.rd 0)) m w,
   fun F M cs w=>FOk F M width (holdsI X.sz width) (outL chg l count) X.sz∧∃i a,RdE X x ⟨k,hh,first,nb,count,0,b,g⟩ l a∧Wd X (chZ (pre++H i++post) fb (fb+1) fc cs a [fiO F M width (holdsI X.sz width) (outL chg l count) X.sz]) (m+M+nb) w,
   fun er cs w=>(er=6∧¬X.cm∨er=5∧∀q,¬Rm X (pre++H 0++post) q (blocksN (holdsI X.sz width) count))∧∃i a,RdE X x ⟨k,hh,first,nb,count,0,b,g⟩ l a∧Wd X (chZ (pre++H i++post) fb (fb+1) fc cs a []) (m+nb+count+2) w,
   by rw[hZ0];exact hw0,fun w w' q hb=>q.below hb,fun w q=>?_,fun w rb q hr=>?_,?_,?_,?_,?_,?_,?_⟩
  ·have q2:Wd X (chZ (pre++H 0++post) fb (fb+1) fc Z4 (P.rd 0) []) m w:=by rw[←hZ,List.append_nil];exact q
   exact q2.row chZ_F
  ·have hcf:=hc
   have hrc:Row w rb 31 [.int .i64 first,.int .i64 nb,.int .i64 k,.int .i64 count]:=by rw[←hfc];exact hr
   refine(wd_jlay (nr:=1) (rb:=rb) (cr:=1) hS (Nat.zero_le _) rfl (blocks_zero _) q hwd (by rw[←hc];exact hf.len) ?_ (by omega) ⟨by omega,by omega⟩ hrc.lt (hrc.cell 3) ?_).mono ?_
   ·rw[hZ0,sumN_snoc,hgw]
    show X.sz+(sumN Asn.gw (pre++H 0++post)+X.sz)≤X.rm
    omega
   ·intro i hi
    obtain rfl:i=0:=by omega
    refine⟨first,nb,k,count,⟨hrc.cell 0,hrc.cell 1,hrc.cell 2,hrc.cell 3⟩,by have:=hf.fst;omega,?_,.inr ?_⟩
    ·have h7:=hf.len
     have h8:=blocks_le hh l.length
     have h9:=hf.bn
     omega
    ·have hm2:fiO first nb k hh l X.sz∈P.Z 0 (P.rd 0):=by
      rw[hZ0]
      rcases List.mem_append.1 hmem with hm|hm<;>simp[hm]
     obtain⟨j,hj⟩:=List.mem_iff_getElem?.1 hm2
     exact⟨j,_,hj,rfl⟩
   ·rintro e w' (⟨F,M,z,he,q1,-,q2,q3,q4⟩|⟨er,z,he,q0,q1,q2,q3,q4⟩)
    ·obtain⟨i,a,rfl,ha⟩:=hZe z q3
     rw[hZ]at q4
     exact .inl ⟨F,M,he,q1,i,a,ha,q4⟩
    ·obtain⟨i,a,rfl,ha⟩:=hZe z q3
     have q5:Wd X (chZ (pre++H i++post) fb (fb+1) fc Z4 a []) (m+nb+count+2) w':=by rw[←hZ,List.append_nil];exact q4
     refine .inr ⟨er,he,q0,?_,i,a,ha,q5⟩
     rcases q1 with(q1|q1)|⟨q1,q6⟩
     ·exact q1.elim
     ·exact .inl q1
     ·refine .inr ⟨q1,fun qq hq=>q6 qq ?_⟩
      rw[hZ0,←List.append_assoc,List.append_assoc _ [rowO fb 31 fc,rowO (fb+1) 31 Z4]]
      exact rm_none hq fun y hy=>by
       simp at hy
       rcases hy with rfl|rfl|rfl<;>rfl
  ·rintro F M cs w x1 x2 x3 x4 hcs ⟨q1,i,a,ha,q2⟩
   exact⟨q1,i,a,ha,chZ_store hcs q2 x1 x2 x3 x4⟩
  ·rintro er cs w x1 x2 x3 x4 hcs ⟨q1,i,a,ha,q2⟩
   exact⟨q1,i,a,ha,chZ_store hcs q2 x1 x2 x3 x4⟩
  ·rintro F M cs w ⟨q1,i,a,ha,q2⟩
   exact q2.row chZ_R
  ·rintro er cs w ⟨q1,i,a,ha,q2⟩
   exact q2.row chZ_R
  ·rintro F M cs w u ⟨q1,i,a,ha,q2⟩
   refine(rd_close u q2 chZ_rd ha).mono ?_
   rintro e u' w' ⟨k1,k2,j,k3⟩
   rw[chZ_setrd]at k3
   exact⟨k1,k2,k3.row chZ_R,.inl ⟨F,M,i,rfl,q1,chZ_cut ⟨rfl,rfl⟩ k3⟩⟩
  ·rintro er cs w u her ⟨q1,i,a,ha,q2⟩
   refine(rd_close u q2 chZ_rd ha).mono ?_
   rintro e u' w' ⟨k1,k2,j,k3⟩
   rw[chZ_setrd]at k3
   have k4:=chZ_cut ⟨rfl,rfl⟩ k3
   rw[List.append_nil]at k4
   exact⟨k1,k2,k3.row chZ_R,.inr ⟨er,i,rfl,her,q1,k4⟩⟩
 have HW2:=Lib.hid hW2
 have HFC:=Lib.hid hfc
 generalize hPO:ChgRes X pre post H (outL chg l count) m nb count width=POST at*
 generalize(outL chg l count).length=ol at*
 clear hH h hf hmem hc hwd hout hroom hn hb1 h1 hb2 h2 hgw hW2 hPO
 subst hfb
 go_enter_defers Tryz.func32,Tryz.ntmps32
 go_upto_region 1 with(fail)
 rw[←HW2.out]
 clear HW2
 generalize hs0:W.heap.size=s0 at*
 have hF2:=HF2.out
 rw[HFC.out]at hF2
 have a0:W2.cell? ⟨s0,0,none⟩=some (.int .i64 first):=hF2.cell 0
 have a1:W2.cell? ⟨s0,1,none⟩=some (.int .i64 nb):=hF2.cell 1
 have a2:W2.cell? ⟨s0,2,none⟩=some (.int .i64 k):=hF2.cell 2
 have a3:W2.cell? ⟨s0,3,none⟩=some (.int .i64 count):=hF2.cell 3
 have HR2:=Lib.hid (HRD.out W2 (Below.refl _ _))
 clear hF2
 go_wp2_with fail
 refine HR2.out.mono ?_
 rintro e w3 ⟨x,b,g,rfl,hrt,hw3⟩
 obtain⟨A,C,N,hA,hAb,hAr,hlay,hCs,hNs,hCr,hNr,hCc,hNc⟩:=HINIT.out x b g w3 hrt hw3
 have HA:=Lib.hid hA
 have HAB:=Lib.hid hAb
 have HAR:=Lib.hid hAr
 have HLAY:=Lib.hid hlay
 have HCS:=Lib.hid hCs
 have HNS:=Lib.hid hNs
 have HCR:=Lib.hid hCr
 have HNR:=Lib.hid hNr
 have HCC:=Lib.hid hCc
 have HNC:=Lib.hid hNc
 clear hA hAb hAr hlay hCs hNs hCr hNr hCc hNc hrt hw3 HINIT HRD HR2 HF2 a0 a1 a2 a3
 have HA4:=Lib.hid (HAB.out w3 _ HA.out ((Below.refl w3.heap.size w3).alloc (Nat.le_refl _) (.cells #[.func (.func 41) #[.pointer (some ⟨x,0,none⟩)] #[],.func (.func fH) #[] caps] 118)))
 have hch:Row (w3.alloc (.cells #[.func (.func 41) #[.pointer (some ⟨x,0,none⟩)] #[],.func (.func fH) #[] caps] 118)) w3.heap.size 118 [.func (.func 41) #[.pointer (some ⟨x,0,none⟩)] #[],.func (.func fH) #[] caps]:=heap_alloc_new _ _
 have HCH:=Lib.hid hch
 clear hch
 go_upto_region 6 with(fail)
 generalize w3.alloc (.cells #[.func (.func 41) #[.pointer (some ⟨x,0,none⟩)] #[],.func (.func fH) #[] caps] 118)=w4 at*
 generalize w3.heap.size=cb at*
 have hr4:=HAR.out _ HA4.out
 rw[HFC.out]at hr4
 have a0:w4.cell? ⟨s0,0,none⟩=some (.int .i64 first):=hr4.cell 0
 have a1:w4.cell? ⟨s0,1,none⟩=some (.int .i64 nb):=hr4.cell 1
 have a2:w4.cell? ⟨s0,2,none⟩=some (.int .i64 k):=hr4.cell 2
 have a3:w4.cell? ⟨s0,3,none⟩=some (.int .i64 count):=hr4.cell 3
 have b0:w4.cell? ⟨cb,0,none⟩=some (.func (.func 41) #[.pointer (some ⟨x,0,none⟩)] #[]):=HCH.out.cell 0
 have b1:w4.cell? ⟨cb,1,none⟩=some (.func (.func fH) #[] caps):=HCH.out.cell 1
 have HA5:=Lib.hid (HAB.out w4 _ HA4.out ((Below.refl w4.heap.size w4).alloc (Nat.le_refl _) (.cells #[.int .i64 first,.int .i64 nb,.int .i64 k,.int .i64 count] 31)))
 have hr5:Row (w4.alloc (.cells #[.int .i64 first,.int .i64 nb,.int .i64 k,.int .i64 count] 31)) w4.heap.size 31 fc:=by rw[HFC.out];exact heap_alloc_new _ _
 have HL:=Lib.hid (HLAY.out _ _ HA5.out hr5)
 clear hr4 hr5
 go_wp2_with fail
 refine HL.out.mono ?_
 rintro e w6 (⟨F,M,rfl,hc⟩|⟨er,rfl,hpos,hn⟩)
 ·have HR6:=Lib.hid (HCR.out _ _ _ _ hc)
  have H9:=Lib.hid (HCS.out F M Z4 w6 (.int .i64 F) (.int .i64 M) (.int .i64 width) (.int .i64 ol) rfl hc)
  clear hc a0 a1 a2 a3 b0 b1 HL HA5
  have z0:w6.cell? ⟨s0+1,0,none⟩=some (.int .i64 0):=HR6.out.cell 0
  have z1:w6.cell? ⟨s0+1,1,none⟩=some (.int .i64 0):=HR6.out.cell 1
  have z2:w6.cell? ⟨s0+1,2,none⟩=some (.int .i64 0):=HR6.out.cell 2
  have z3:w6.cell? ⟨s0+1,3,none⟩=some (.int .i64 0):=HR6.out.cell 3
  have f0:=HR6.out.free 0
  have f1:=HR6.out.free 1
  have f2:=HR6.out.free 2
  have f3:=HR6.out.free 3
  go_wp2
  refine leaves_cons (f:=40) (args:=#[.pointer (some ⟨x,0,none⟩)]) (by simp) (by simp[go_sem]) ?_
  refine(HCC.out _ _ _ _ _ H9.out).mono ?_
  rintro e u' w'' ⟨rfl,rfl,hr9,hpost⟩
  have r0:=hr9.cell 0
  have r1:=hr9.cell 1
  have r2:=hr9.cell 2
  have r3:=hr9.cell 3
  simp only[List.getElem?_cons_zero,List.getElem?_cons_succ]at r0 r1 r2 r3
  exact⟨.tuple #[.agg #[.int .i64 F,.int .i64 M,.int .i64 width,.int .i64 ol],.int .i64 0],by simp[results,Tryz.results32,go_sem,r0,r1,r2,r3],hpost⟩
 ·have HPO:=Lib.hid hpos
  have HR6:=Lib.hid (HNR.out _ _ _ hn)
  have H9:=Lib.hid (HNS.out er Z4 w6 (.int .i64 0) (.int .i64 0) (.int .i64 0) (.int .i64 0) rfl hn)
  clear hn hpos a0 a1 a2 a3 b0 b1 HL HA5
  have z0:w6.cell? ⟨s0+1,0,none⟩=some (.int .i64 0):=HR6.out.cell 0
  have z1:w6.cell? ⟨s0+1,1,none⟩=some (.int .i64 0):=HR6.out.cell 1
  have z2:w6.cell? ⟨s0+1,2,none⟩=some (.int .i64 0):=HR6.out.cell 2
  have z3:w6.cell? ⟨s0+1,3,none⟩=some (.int .i64 0):=HR6.out.cell 3
  have f0:=HR6.out.free 0
  have f1:=HR6.out.free 1
  have f2:=HR6.out.free 2
  have f3:=HR6.out.free 3
  go_wp2
  refine leaves_cons (f:=40) (args:=#[.pointer (some ⟨x,0,none⟩)]) (by simp) (by simp[go_sem]) ?_
  refine(HNC.out _ _ _ _ HPO.out H9.out).mono ?_
  rintro e u' w'' ⟨rfl,rfl,hr9,hpost⟩
  have r0:=hr9.cell 0
  have r1:=hr9.cell 1
  have r2:=hr9.cell 2
  have r3:=hr9.cell 3
  simp only[List.getElem?_cons_zero,List.getElem?_cons_succ]at r0 r1 r2 r3
  exact⟨.tuple #[.agg #[.int .i64 0,.int .i64 0,.int .i64 0,.int .i64 0],.int .i64 er],by simp[results,Tryz.results32,go_sem,r0,r1,r2,r3],hpost⟩
end
def colT(t:Tup)(i:Nat):Int:=t.cols.getD i 0
def kol(k:Int):Nat:=k.natAbs-1
theorem kol_pos{k:Int}(h:0<k):((kol k:Nat):Int)=k-1:=by unfold kol;omega
theorem kol_min{k:Int}(h:k<0):((kol k:Nat):Int)=-k-1:=by unfold kol;omega
def Fm(o:Tup):Prop:=∀i,i<5→(-5≤colT o i∧colT o i≤5)∧∀k,k<i→colT o i≠0→colT o k≠0∧kol (colT o k)≠kol (colT o i)
instance fmDec (o : Tup) : Decidable (Fm o) := by unfold Fm; exact inferInstance
def cutO(ks:List Int)(t:Tup):List Int:=(ks.takeWhile fun k=>k≠0).map fun k=>colT t (kol k)
theorem cutO_len(ks:List Int)(t:Tup):(cutO ks t).length=(ks.takeWhile fun k=>k≠0).length:=by unfold cutO;rw[List.length_map]
end Go.Proofs.YtfpjmhnmpjdbiaaGreat
