/- What the laws stand on. -/
import Derived.Test.YtfpjmhnmpjdbiaaGreatNinA
namespace Go.Proofs.YtfpjmhnmpjdbiaaGreat
set_option linter.unusedVariables false
set_option maxRecDepth 100000
set_option maxHeartbeats 8000000
open Go.ChangeShapes Go.WideShapes Go.ChangeAt Go.RowKit
open Go.Joins Go.Deep
open Go.ChangeShapes Go.WideShapes Go.ChangeAt Go.RowKit Go.Maps
open Go.ChangeMaps (setBlock heap_setBlock_same heap_setBlock_other)
def mayW(s a:Int):Bool:=decide (8≤s)&&decide (s≤256)&&decide (0≤a)
theorem may_any(s a:Int)(w:World):Calls Tryz.prog 94 #[.int .i64 s,.int .i64 a] w fun e w'=>e=.returned (.bool (mayW s a))∧w=w':=by
 by_cases h1:8≤s
 ·have g1:decide (s≥8)=true:=by simpa using h1
  by_cases h2:s≤256
  ·have g2:decide (s≤256)=true:=by simpa using h2
   have HR:Hid (mayW s a=decide (a≥0)):=by unfold Hid mayW;simp[h1,h2]
   rw[HR.out]
   go_enter Tryz.func94,Tryz.ntmps94
   go_wp2
   go_ret
   exact⟨rfl,rfl⟩
  ·have g2:decide (s≤256)=false:=by simp;omega
   have HR:Hid (mayW s a=false):=by unfold Hid mayW;simp[h2]
   rw[HR.out]
   go_enter Tryz.func94,Tryz.ntmps94
   go_wp2
   go_ret
   exact⟨rfl,rfl⟩
 ·have g1:decide (s≥8)=false:=by simp;omega
  have HR:Hid (mayW s a=false):=by unfold Hid mayW;simp[h1]
  rw[HR.out]
  go_enter Tryz.func94,Tryz.ntmps94
  go_wp2
  go_ret
  exact⟨rfl,rfl⟩
theorem sm_two(l:List Nat)(a b:Nat):nx (nx (sm l) a) b=sm (l++[a,b]):=by
 rw[←sm_snoc,←sm_snoc];simp
theorem lastw_any(a:Option Addr)(n cap:Nat)(l:List Nat)(num ad:Nat)(w:World){B:Nat}(hl:Reads .u64 w B a n l)(hn:n≤1000000)(hnum:num<4294967296)(had:ad≤9223372036854775807):
  Calls Tryz.prog 96 #[.slice a n cap,.int .u64 num,.int .i64 ad] w fun e w'=>e=.returned (.int .u64 (lastW l num ad))∧w=w':=by
 have HLEN:=Lib.hid hl.1
 have hs0:=sm_lt l
 have hs1:=nx_lt num hs0
 have hs2:=nx_lt ad hs1
 have HS2:Hid (nx (nx (sm l) num) ad=sm (l++[num,ad])):=sm_two l num ad
 have HOR:Hid (bits .or .u64 ((num:Int)*4294967296) (IntKind.u64.wrap ((sm (l++[num,ad]):Nat):Int))=(lastW l num ad:Int)):=by
  unfold Hid
  have e:IntKind.u64.wrap ((sm (l++[num,ad]):Nat):Int)=((sm (l++[num,ad]):Nat):Int):=by
   have:=sm_lt (l++[num,ad]);exact IntWalk.u64_in _ (by omega)
  rw[e]
  have h:=u64_or_nat (num*4294967296) (sm (l++[num,ad])) (by omega) (by have:=sm_lt (l++[num,ad]);omega)
  rw[last_or]at h
  rw[←h];simp
 go_enter Tryz.func96,Tryz.ntmps96
 go_wp2_with fail
 refine(sum_any none 0 0 [] w (B:=0) ⟨rfl,by simp,fun h=>absurd h (by omega)⟩ (by omega)).mono ?_;rintro e w' ⟨rfl,rfl⟩
 go_wp2
 go_loop [7,13] (fun sv kv=>∃k s:Nat,k≤n∧s<4294967296∧kv=.int .i64 k∧sv=.int .u32 s∧Hid (s=sm (l.take k))) (fun _ kv=>n-(intOf kv).toNat)
 case atStart=>exact⟨0,0,by omega,by omega,rfl,rfl,rfl⟩
 case round=>
  obtain⟨k,s,hk,hs,rfl,rfl,HN⟩:=hrel
  by_cases hlt:k<n
  ·obtain⟨b,o,c,rfl,hb,hc,hw,HC⟩:=hl.at_ hlt
   have hc64:=u64_lt hw
   have HS:Hid (nx s c=sm (l.take (k+1))):=by
    unfold Hid;rw[HN.out];exact sm_next HLEN.out hlt HC.out
   have HL:=nx_lt c hs
   go_wp2_with fail
   refine(next_any s c _ hs hc64).mono ?_;rintro e w' ⟨rfl,rfl⟩
   go_wp2
   go_round
   case rel=>exact⟨k+1,_,by omega,HL,by go_num,rfl,HS.out⟩
   case measure=>simp[intOf];omega
  ·obtain rfl:k=n:=by omega
   have HSK:Hid (s=sm l):=by
    unfold Hid;rw[HN.out,List.take_of_length_le (by have:=HLEN.out;omega)]
   go_wp2_with fail
   refine(next_any s num _ hs (by omega)).mono ?_;rintro e w' ⟨rfl,rfl⟩
   go_wp2_with fail
   refine(next_any (nx s num) ad _ (nx_lt num hs) (by omega)).mono ?_;rintro e w' ⟨rfl,rfl⟩
   have HF:Hid (nx (nx s num) ad=sm (l++[num,ad])):=by unfold Hid;rw[HSK.out];exact HS2.out
   rw[HF.out]
   go_wp2
   go_ret
   exact⟨ret_int HOR.out,rfl⟩
theorem zclos_any(x:Nat)(w:World):Calls Tryz.prog 110 #[.int .u64 x] w fun e w'=>e=.returned (.bool (decide (x≠0)))∧w=w':=by
 by_cases h:x=0
 ·subst h
  go_enter Tryz.func110,Tryz.ntmps110
  go_wp2
  go_ret
  exact⟨rfl,rfl⟩
 ·have HR:Hid (decide (x≠0)=true):=by unfold Hid;simpa using h
  rw[HR.out]
  have g:((x:Int) !=0)=true:=by simp;omega
  go_enter Tryz.func110,Tryz.ntmps110
  go_wp2
  go_ret
  exact⟨rfl,rfl⟩
def zeroW(l:List Nat):Bool:=decide (∀x∈l,x=0)
theorem idxf_any(a:Option Addr)(n cap:Nat)(l:List Nat)(w:World){B:Nat}(hl:Reads .u64 w B a n l)(hn:n≤1000000):
  Calls Tryz.prog 116 #[.slice a n cap,.func (.func 110) #[] #[]] w fun e w'=>(zeroW l=true∧e=.returned (.int .i64 (-1))∧w=w')∨(zeroW l=false∧∃i:Nat,e=.returned (.int .i64 i)∧w=w'):=by
 have HLEN:=Lib.hid hl.1
 go_enter Tryz.func116,Tryz.ntmps116
 go_wp2
 go_loop [5,8] (fun _ kv=>∃k:Nat,k≤n∧kv=.int .i64 k∧Hid (∀x∈l.take k,x=0)) (fun _ kv=>n-(intOf kv).toNat)
 case atStart=>exact⟨0,by omega,rfl,by unfold Hid;simp⟩
 case round=>
  obtain⟨k,hk,rfl,HN⟩:=hrel
  by_cases hlt:k<n
  ·obtain⟨b,o,c,rfl,hb,hc,hw,HC⟩:=hl.at_ hlt
   have hclo:=zclos_any c w
   by_cases h0:c=0
   ·have HS:Hid (∀x∈l.take (k+1),x=0):=by
     intro x hx
     have hkl:k<l.length:=by have:=HLEN.out;omega
     rw[List.take_succ_eq_append_getElem hkl]at hx
     rcases List.mem_append.1 hx with hx|hx
     ·exact HN.out x hx
     ·simp at hx
      have:=HC.out
      rw[List.getD_eq_getElem?_getD,List.getElem?_eq_getElem hkl]at this
      rw[hx,←h0,this];rfl
    have hd:decide (c≠0)=false:=by simpa using h0
    rw[hd]at hclo
    have HCL:=Lib.hid hclo
    clear hclo hd h0
    go_wp2_with fail
    refine HCL.out.mono ?_;rintro e w' ⟨rfl,rfl⟩
    go_wp2
    go_round
    case rel=>exact⟨k+1,by omega,by go_num,HS.out⟩
    case measure=>simp[intOf];omega
   ·have HZ:Hid (zeroW l=false):=by
     unfold Hid zeroW
     rw[decide_eq_false_iff_not]
     intro h
     have hkl:k<l.length:=by have:=HLEN.out;omega
     have h1:=h l[k] (List.getElem_mem hkl)
     have:=HC.out
     rw[List.getD_eq_getElem?_getD,List.getElem?_eq_getElem hkl]at this
     exact h0 (by rw[this];exact h1)
    have hd:decide (c≠0)=true:=by simpa using h0
    rw[hd]at hclo
    have HCL:=Lib.hid hclo
    clear hclo hd h0
    go_wp2_with fail
    refine HCL.out.mono ?_;rintro e w' ⟨rfl,rfl⟩
    go_wp2
    go_ret
    exact .inr ⟨HZ.out,k,rfl,rfl⟩
  ·have HZ:Hid (zeroW l=true):=by
    unfold Hid zeroW
    rw[decide_eq_true_eq]
    have h:=HN.out
    rwa [List.take_of_length_le (by have:=HLEN.out;omega)]at h
   go_wp2
   go_ret
   exact .inl ⟨HZ.out,rfl,rfl⟩
theorem cont_any(a:Option Addr)(n cap:Nat)(l:List Nat)(w:World){B:Nat}(hl:Reads .u64 w B a n l)(hn:n≤1000000):
  Calls Tryz.prog 109 #[.slice a n cap,.func (.func 110) #[] #[]] w fun e w'=>e=.returned (.bool (!zeroW l))∧w=w':=by
 have hx:=idxf_any a n cap l w hl hn
 cases hz:zeroW l with
 |true=>
  rw[hz]at hx
  have HX:=Lib.hid hx
  clear hx hz
  go_enter Tryz.func109,Tryz.ntmps109
  go_wp2_with fail
  refine HX.out.mono ?_
  rintro e w' (⟨_,rfl,rfl⟩|⟨hz,_⟩)
  ·go_wp2
   go_ret
   exact⟨rfl,rfl⟩
  ·cases hz
 |false=>
  rw[hz]at hx
  have HX:=Lib.hid hx
  clear hx hz
  go_enter Tryz.func109,Tryz.ntmps109
  go_wp2_with fail
  refine HX.out.mono ?_
  rintro e w' (⟨hz,_⟩|⟨_,i,rfl,rfl⟩)
  ·cases hz
  ·have hi:decide ((i:Int)≥0)=true:=by simp
   go_wp2
   go_ret
   exact⟨rfl,rfl⟩
theorem allz_any(a:Option Addr)(n cap:Nat)(l:List Nat)(w:World){B:Nat}(hl:Reads .u64 w B a n l)(hn:n≤1000000):
  Calls Tryz.prog 95 #[.slice a n cap] w fun e w'=>e=.returned (.bool (zeroW l))∧w=w':=by
 have hx:=cont_any a n cap l w hl hn
 cases hz:zeroW l with
 |true=>
  rw[hz]at hx
  have HX:=Lib.hid hx
  clear hx hz
  go_enter Tryz.func95,Tryz.ntmps95
  go_wp2_with fail
  refine HX.out.mono ?_
  rintro e w' ⟨rfl,rfl⟩
  go_wp2
  go_ret
  exact⟨rfl,rfl⟩
 |false=>
  rw[hz]at hx
  have HX:=Lib.hid hx
  clear hx hz
  go_enter Tryz.func95,Tryz.ntmps95
  go_wp2_with fail
  refine HX.out.mono ?_
  rintro e w' ⟨rfl,rfl⟩
  go_wp2
  go_ret
  exact⟨rfl,rfl⟩
theorem infoW:(Tryz.prog.info? 133).map (fun i=>(i.zero,i.size,i.bytes))=some (some (.int .u64 0),1,8):=by kernel_rfl
theorem sizeW:(Tryz.prog.info? 133).map (·.size)=some 1:=by kernel_rfl
theorem owns_made(w:World)(e:TypeId):(w.alloc (.cells #[] e)).ownsRow w.heap.size e 1 (.slice (some ⟨w.heap.size,0,none⟩) 0 0) 0 []:=
 ⟨rfl,.inr ⟨w.heap.size,0,#[],rfl,Nat.le_refl _,heap_alloc_new _ _,Nat.le_refl _,Nat.zero_le _,rfl,rfl⟩⟩
theorem wclone_any(A:Option Addr)(n c:Nat)(l:List Nat)(w:World){B:Nat}(hl:Reads .u64 w B A n l)(hA:A≠none)(hn2:n≤1000000)(hB:B≤w.heap.size):
  Calls Tryz.prog 93 #[.slice A n c] w fun e w'=>∃v,e=.returned v∧w'.ownsRow w.heap.size 133 1 v n (l.map fun x:Nat=>Value.int .u64 x)∧Below w.heap.size w w':=by
 obtain⟨i0,hi,hz0,hz1,hz2⟩:=info_parts infoW
 rcases A with _|⟨b,off,z⟩
 ·exact absurd rfl hA
 have HL:=Lib.hid hl
 have HL0:=Lib.hid hl.1
 clear hl hA
 have hq:=fun w=>Go.Lib.run_eql_slice_nil (P:=Tryz.prog) w 129 133 (some ⟨b,off,z⟩) n c 0 0 Tryz.underlying129
 go_enter Tryz.func93,Tryz.ntmps93
 go_wp2_with (with_reducible refine stopAt 7 ?_)
 unfold Hid
 refine wpList_append_list _ rfl _ _ 129 rfl w.heap.size 133 i0 (.int .u64 0) 8 Tryz.underlying129 hi hz0 hz1 hz2 rfl _ 0 [] rfl (owns_made w 133) (some ⟨b,off,z⟩) n c (l.map fun x:Nat=>Value.int .u64 x) rfl (by rw[List.length_map];exact HL0.out) (HL.out.keep ((Below.refl _ w).alloc (by omega) _:Below B w _)).source cells_int (by omega) (by omega) (by simp) ?_
 intro v' w' hown hb
 rw[Nat.zero_add,List.nil_append]at hown
 have HO:=Lib.hid hown
 have HB:=Lib.hid (((Below.refl w.heap.size w).alloc (Nat.le_refl _) _).trans hb)
 clear hown hb
 go_wp2
 go_ret
 exact⟨v',rfl,HO.out,HB.out⟩
def vw(x:Nat):Value:=.int .u64 x
theorem map_set(l:List Nat)(k x:Nat):(l.map vw).set k (vw x)=(l.set k x).map vw:=by rw[List.map_set]
theorem lay_words(size:Nat)(l:List Nat):splice (List.replicate size (Value.int .u64 0)) 0 (l.map vw)=(l++List.replicate (size-l.length) 0).map vw:=by
 unfold splice
 rw[List.take_zero,List.nil_append,Nat.zero_add,List.length_map,List.drop_replicate,List.map_append,List.map_replicate];rfl
theorem lay_tag{size tag:Nat}{l:List Nat}(h:l.length≤size-2)(h2:2≤size):(l++List.replicate (size-l.length) 0).set (size-2) tag=frontW size tag l++[0]:=by
 have e:List.replicate (size-l.length) 0=List.replicate (size-2-l.length) 0++[0,0]:=by
  rw[show size-l.length=size-2-l.length+2 by omega,←List.replicate_append_replicate];rfl
 rw[e,←List.append_assoc,List.set_append_right _ _ (by simp;omega)]
 have e2:size-2-(l++List.replicate (size-2-l.length) 0).length=0:=by rw[List.length_append,List.length_replicate];omega
 rw[e2]
 unfold frontW
 rw[List.append_assoc (l++ _)];rfl
theorem lay_last{size z:Nat}{F:List Nat}(h:F.length=size-1):(F++[0]).set (size-1) z=F++[z]:=by
 rw[List.set_append_right _ _ (by omega),h,Nat.sub_self];rfl
theorem map_at{l:List Nat}{k:Nat}(h:k<l.length):(l.map vw)[k]?=some (.int .u64 (l.getD k 0:Nat)):=by
 rw[List.getElem?_map,List.getElem?_eq_getElem h,List.getD_eq_getElem?_getD,List.getElem?_eq_getElem h];rfl
theorem Row.words{w:World}{g n:Nat}{t:TypeId}{l:List Nat}(h:Row w g t (l.map vw))(hn:n≤l.length)(hu:∀x∈l,(Lit.int .u64 (x:Nat)).wf=true):Reads .u64 w w.heap.size (some ⟨g,0,none⟩) n (l.take n):=
 h.reads (by rw[List.length_take];omega) (fun x hx=>hu x (List.mem_of_mem_take hx)) (fun i hi=>by
  rw[map_at (by omega)]
  congr 2
  rw[List.getD_eq_getElem?_getD,List.getD_eq_getElem?_getD,List.getElem?_take,if_pos hi]) h.lt
theorem put_ok(size ad tag:Nat)(a:Option Addr)(n c:Nat)(l:List Nat)(w:World){B:Nat}(hl:Reads .u64 w B a n l)(hB:B≤w.heap.size)(h8:8≤size)(h256:size≤256)(had:ad≤9223372036854775807)(ht:tag<18446744073709551616)(hn:n≤size-2):
  Calls Tryz.prog 89 #[.int .i64 size,.int .i64 ad,.int .u64 tag,.slice a n c] w fun e w'=>e=.returned (.tuple #[.slice (some ⟨w.heap.size,0,none⟩) size size,.int .i64 0])∧Row w' w.heap.size 133 ((sealW size ad tag l).map vw)∧Below w.heap.size w w':=by
 obtain⟨i0,hi,hz0,hz1,hz2⟩:=info_parts infoW
 have hlen:=hl.1
 have hu:U64s l:=fun x hx=>u64_lt (hl.2.1 x hx)
 have HM:Hid (∀w,Calls Tryz.prog 94 #[.int .i64 size,.int .i64 ad] w fun e w'=>e=.returned (.bool true)∧w=w'):=fun w=>by
  have h:=may_any size ad w
  have e:mayW size ad=true:=by unfold mayW;simp;omega
  rwa [e]at h
 obtain⟨s1,hs1⟩:∃s1,s1=size-1:=⟨_,rfl⟩
 obtain⟨s2,hs2⟩:∃s2,s2=size-2:=⟨_,rfl⟩
 obtain⟨num,hnum⟩:∃num,num=n+1:=⟨_,rfl⟩
 have b1:s1+1≤size∧size≤s1+1:=by omega
 have b2:s2+2≤size∧size≤s2+2:=by omega
 have b3:num≤n+1∧n+1≤num:=by omega
 have hsub1:(size:Int)-1=(s1:Int):=by omega
 have hsub2:(size:Int)-2=(s2:Int):=by omega
 have hadd:(n:Int)+1=(num:Int):=by omega
 have hg:decide ((n:Int)>(s2:Int))=false:=by simp;omega
 have HROW1:Hid (∀cs:List Value,cs=l.map vw→splice (List.replicate size (Value.int .u64 0)) 0 cs=(l++List.replicate (size-l.length) 0).map vw):=by
  rintro cs rfl;exact lay_words size l
 have HTAG:Hid (((l++List.replicate (size-l.length) 0).map vw).set s2 (vw tag)=(frontW size tag l++[0]).map vw):=by
  unfold Hid;rw[map_set,hs2,lay_tag (by omega) (by omega)]
 have hF:=front_len (tag:=tag) (pl:=l) (size:=size) (by omega) (by omega)
 have HLAST:Hid (∀z,((frontW size tag l++[0]).map vw).set s1 (vw z)=(frontW size tag l++[z]).map vw):=by
  intro z;rw[map_set,hs1,lay_last hF]
 have HSEAL:Hid (sealW size ad tag l=frontW size tag l++[lastW (frontW size tag l) num ad]):=by
  unfold Hid sealW;rw[hlen,hnum]
 have HFU:=Lib.hid (front_u64 (size:=size) hu ht)
 have HLEN1:Hid ((l++List.replicate (size-l.length) 0).length=size):=by unfold Hid;simp;omega
 have HLENF:Hid ((frontW size tag l).length=s1):=by unfold Hid;rw[hF,hs1]
 have HL:=Lib.hid hl
 have HLL:=Lib.hid hlen
 rw[HSEAL.out]
 generalize hZE:lastW (frontW size tag l) num ad=z
 have HZE:=Lib.hid hZE
 clear hZE
 generalize l++List.replicate (size-l.length) 0=L1 at*
 generalize frontW size tag l=F at*
 clear hF hs1 hs2 hnum hlen hl hu HSEAL
 have hcut:=fun W=>run_head (P:=Tryz.prog) W 129 133 i0 Tryz.underlying129 hi (some ⟨w.heap.size,0,none⟩) size size s1 (by omega) .i64 (s1:Int) rfl
 go_enter Tryz.func89,Tryz.ntmps89
 go_wp2_with fail
 refine(HM.out _).mono ?_;rintro e w1 ⟨rfl,rfl⟩
 go_wp2_with (with_reducible refine stopAt 23 ?_)
 unfold Hid
 refine wpList_make_row _ rfl _ _ 129 rfl 133 i0 (.int .u64 0) Tryz.underlying129 hi hz0 hz1 rfl .i64 .i64 _ _ size rfl rfl rfl rfl (by rw[hz2];omega) (by omega) ?_
 intro w2 hr2 hb2 hs2
 have HR2:=Lib.hid hr2
 have HB2:=Lib.hid hb2
 clear hr2 hb2 hs2
 go_wp2_with (with_reducible refine stopAt 26 ?_)
 unfold Hid
 have HSRC:=Lib.hid ((HL.out.keep (B:=B) (w':=w2) ⟨HB2.out.os,HB2.out.tape,HB2.out.output,by have:=HB2.out.size;omega,fun k hk=>HB2.out.block k (by omega)⟩).source)
 refine wpList_copy_rows rfl _ _ 129 129 rfl 133 Tryz.underlying129 sizeW (by decide) (some ⟨w.heap.size,0,none⟩) a size size n c rfl rfl w.heap.size 0 _ 133 HR2.out (l.map vw) (by rw[List.length_map,HLL.out,Nat.mul_one];exact(Nat.min_eq_left (by omega)).symm) (fun h0=>⟨rfl,HSRC.out (by have:=HLL.out;rw[List.length_map]at h0;omega)⟩) (by rw[List.length_map,List.length_replicate,HLL.out];omega) (fun v hv=>by obtain⟨x,_,rfl⟩:=List.mem_map.1 hv;rfl) ?_
 intro w3 hr3 hf3
 have HR3:Hid (Row w3 w.heap.size 133 (L1.map vw)):=by
  have h:=hr3.out
  rwa [HROW1.out _ rfl]at h
 have HB3:=Lib.hid (HB2.out.trans (hf3.out.below (by have:=HB2.out.size;exact this) (fun b hb=>by rw[hb];exact Nat.le_refl _)))
 clear hr3 hf3
 have hc3:w3.cell? ⟨w.heap.size,s2,none⟩=some (.int .u64 (L1.getD s2 0:Nat)):=by
  rw[HR3.out.cell];exact map_at (by have:=HLEN1.out;omega)
 have hz3:=HR3.out.free s2
 have i20:(0:Int)≤(s2:Int):=by omega
 have i21:(s2:Int)<(size:Int):=by omega
 have i10:(0:Int)≤(s1:Int):=by omega
 have i11:(s1:Int)<(size:Int):=by omega
 have HR4:Hid (Row (w3.setCell ⟨w.heap.size,s2,none⟩ (.int .u64 tag)) w.heap.size 133 ((F++[0]).map vw)):=by
  have h:=HR3.out.set s2 (vw tag)
  rw[HTAG.out]at h;exact h
 have HB4:Hid (Below w.heap.size w (w3.setCell ⟨w.heap.size,s2,none⟩ (.int .u64 tag))):=HB3.out.setCell (Nat.le_refl _) _
 go_wp2_with fail
 have HRD:=Lib.hid (HR4.out.words (n:=s1) (by have:=HLENF.out;simp;omega) (fun x hx=>by
  rcases List.mem_append.1 hx with hx|hx
  ·exact u64_wf (HFU.out x hx)
  ·simp at hx;subst hx;exact u64_wf (by decide)))
 have HTK:Hid ((F++[0]).take s1=F):=by unfold Hid;rw[←HLENF.out];exact List.take_left' rfl
 generalize w3.setCell ⟨w.heap.size,s2,none⟩ (.int .u64 tag)=w4 at*
 rw[HTK.out]at HRD
 refine(lastw_any (some ⟨w.heap.size,0,none⟩) s1 size F num ad w4 HRD.out (by omega) (by omega) had).mono ?_;rintro e w5 ⟨rfl,rfl⟩
 rw[HZE.out]
 have HZ:=Lib.hid (HLAST.out z)
 have hc4:w4.cell? ⟨w.heap.size,s1,none⟩=some (.int .u64 ((F++[0]).getD s1 0:Nat)):=by
  rw[HR4.out.cell];exact map_at (by have:=HLENF.out;simp;omega)
 have hz4:=HR4.out.free s1
 have HR5:Hid (Row (w4.setCell ⟨w.heap.size,s1,none⟩ (.int .u64 z)) w.heap.size 133 ((F++[z]).map vw)):=by
  have h:=HR4.out.set s1 (vw z)
  rw[HZ.out]at h;exact h
 have HB5:Hid (Below w.heap.size w (w4.setCell ⟨w.heap.size,s1,none⟩ (.int .u64 z))):=HB4.out.setCell (Nat.le_refl _) _
 go_wp2
 go_ret2
 exact⟨rfl,HR5.out,HB5.out⟩
theorem Reads.mid{k:IntKind}{w:World}{B b off n i m:Nat}{l:List Nat}(h:Reads k w B (some ⟨b,off,none⟩) n l)(him:i+m≤n):Reads k w B (some ⟨b,off+i,none⟩) m ((l.drop i).take m):=by
 obtain⟨h1,h2,h3⟩:=h
 refine⟨by rw[List.length_take,List.length_drop];omega,fun x hx=>h2 x (List.mem_of_mem_drop (List.mem_of_mem_take hx)),fun hp=>?_⟩
 obtain⟨b',off',e,hb,hc⟩:=h3 (by omega)
 injection e with e;injection e with e1 e2;subst e1;subst e2
 refine⟨b,off+i,rfl,hb,fun j hj=>?_⟩
 rw[Nat.add_assoc,hc (i+j) (by omega)]
 congr 3
 rw[List.getD_eq_getElem?_getD,List.getD_eq_getElem?_getD,List.getElem?_take,if_pos hj,List.getElem?_drop]
theorem get_may(a:Option Addr)(n c ad:Nat)(l:List Nat)(w:World){B:Nat}(hl:Reads .u64 w B a n l)(hB:B≤w.heap.size)(hc:n≤c)(h8:8≤n)(h256:n≤256)(had:ad≤9223372036854775807):
  Calls Tryz.prog 81 #[.slice a n c,.int .i64 ad] w fun e w'=>(okW l ad=false∧e=.returned (.tuple #[.slice none 0 0,.int .u64 0,.int .i64 6])∧Below w.heap.size w w')∨
   (okW l ad=true∧∃v,e=.returned (.tuple #[v,.int .u64 (tagW l),.int .i64 0])∧w'.ownsRow w.heap.size 133 1 v (numW l-1) ((l.take (numW l-1)).map vw)∧Below w.heap.size w w'):=by
 obtain⟨i0,hi,hz0,hz1,hz2⟩:=info_parts infoW
 have hlen:=hl.1
 have HM:Hid (∀w,Calls Tryz.prog 94 #[.int .i64 n,.int .i64 ad] w fun e w'=>e=.returned (.bool true)∧w=w'):=fun w=>by
  have h:=may_any n ad w
  have e:mayW n ad=true:=by unfold mayW;simp;omega
  rwa [e]at h
 obtain⟨b,o,rfl,hbB,hcell⟩:=hl.2.2 (by omega)
 obtain⟨s1,hs1⟩:∃s1,s1=n-1:=⟨_,rfl⟩
 obtain⟨s2,hs2⟩:∃s2,s2=n-2:=⟨_,rfl⟩
 obtain⟨num,hnum⟩:∃num,num=numW l:=⟨_,rfl⟩
 obtain⟨tag,htag⟩:∃tag,tag=tagW l:=⟨_,rfl⟩
 obtain⟨z,hz⟩:∃z,z=l.getD s1 0:=⟨_,rfl⟩
 have c1:w.cell? ⟨b,o+s1,none⟩=some (.int .u64 (z:Nat)):=by rw[hz];exact hcell s1 (by omega)
 have c2:w.cell? ⟨b,o+s2,none⟩=some (.int .u64 (tag:Nat)):=by
  rw[htag];unfold tagW;rw[hlen,←hs2];exact hcell s2 (by omega)
 have hnz:num=z/4294967296:=by rw[hnum,hz];unfold numW;rw[hlen,hs1]
 have hzlt:z<18446744073709551616:=by
  rw[hz];exact u64_lt (hl.2.1 _ (by rw[List.getD_eq_getElem?_getD,List.getElem?_eq_getElem (by omega)];exact List.getElem_mem _))
 have hdiv:(z:Int)/4294967296=(num:Int):=by omega
 have hnlt:num<4294967296:=by omega
 have b1:s1+1≤n∧n≤s1+1:=by omega
 have b2:s2+2≤n∧n≤s2+2:=by omega
 have hsub1:(n:Int)-1=(s1:Int):=by omega
 have hsub2:(n:Int)-2=(s2:Int):=by omega
 have i10:(0:Int)≤(s1:Int):=by omega
 have i11:(s1:Int)<(n:Int):=by omega
 have i20:(0:Int)≤(s2:Int):=by omega
 have i21:(s2:Int)<(n:Int):=by omega
 have HL:=Lib.hid hl
 have HLL:=Lib.hid hlen
 have HB:=Lib.hid hB
 rw[←htag]
 rw[←hnum]
 have HNUM:=Lib.hid hnum
 have HZ:=Lib.hid hz
 have HS1:=Lib.hid hs1
 have HS2:=Lib.hid hs2
 clear hcell hlen hl hs1 hs2 hnum htag hz hnz
 by_cases h1:num<1
 ·have HNO:Hid (okW l ad=false):=by
   unfold Hid okW;rw[←HNUM.out];simp;omega
  have g1:decide ((num:Int)<1)=true:=by simp;omega
  go_enter Tryz.func81,Tryz.ntmps81
  go_wp2_with fail
  refine(HM.out _).mono ?_;rintro e w1 ⟨rfl,rfl⟩
  go_wp2
  go_ret3
  exact .inl ⟨HNO.out,rfl,Below.refl _ _⟩
 have g1:decide ((num:Int)<1)=false:=by simp;omega
 by_cases h2:s1<num
 ·have HNO:Hid (okW l ad=false):=by
   unfold Hid okW;rw[←HNUM.out,HLL.out,←HS1.out];simp;omega
  have g2:decide ((num:Int)>(s1:Int))=true:=by simp;omega
  go_enter Tryz.func81,Tryz.ntmps81
  go_wp2_with fail
  refine(HM.out _).mono ?_;rintro e w1 ⟨rfl,rfl⟩
  go_wp2
  go_ret3
  exact .inl ⟨HNO.out,rfl,Below.refl _ _⟩
 have g2:decide ((num:Int)>(s1:Int))=false:=by simp;omega
 obtain⟨p,hp⟩:∃p,p=num-1:=⟨_,rfl⟩
 obtain⟨m,hm⟩:∃m,m=s2-p:=⟨_,rfl⟩
 obtain⟨cp,hcp⟩:∃cp,cp=c-p:=⟨_,rfl⟩
 have bp:p+1≤num∧num≤p+1:=by omega
 have bm:p+m≤s2∧s2≤p+m:=by omega
 have hsubp:(num:Int)-1=(p:Int):=by omega
 have HIFF:Hid (okW l ad=true↔zeroW ((l.drop p).take m)=true∧z=lastW (l.take s1) num ad):=by
  have h:=ok_iff (ad:=ad) HLL.out (by omega) (show 1≤numW l by rw[←HNUM.out];omega) (by rw[←HNUM.out];omega)
  rw[←HNUM.out,←hp,←HS2.out,←HS1.out,←hm,←HZ.out]at h
  unfold Hid zeroW
  rw[decide_eq_true_eq];exact h
 have k1:=fun W=>run_head (P:=Tryz.prog) W 129 133 i0 Tryz.underlying129 hi (some ⟨b,o,none⟩) n c p (by omega) .u64 (p:Int) rfl
 have k2:=fun W=>run_cut (P:=Tryz.prog) W 129 133 i0 Tryz.underlying129 hi hz1 b o n c p s2 (by omega) (by omega) (by omega) .u64 .i64 (p:Int) (s2:Int) rfl rfl
 have k3:=fun W=>run_head (P:=Tryz.prog) W 129 133 i0 Tryz.underlying129 hi (some ⟨b,o,none⟩) n c s1 (by omega) .i64 (s1:Int) rfl
 rw[←hm,←hcp]at k2
 have HZR:=Lib.hid (HL.out.mid (i:=p) (m:=m) (by omega))
 have HFR:=Lib.hid (HL.out.take (m:=s1) (by omega))
 have HPR:=Lib.hid (HL.out.take (m:=p) (by omega))
 rw[←hp]
 have H1:Hid (∀r q,Calls Tryz.prog 95 #[.slice (some ⟨b,o+p,none⟩) m cp] (w.drewN (r+q)) fun e w'=>e=.returned (.bool (zeroW ((l.drop p).take m)))∧∃j,w'=w.drewN (r+j)):=fun r q=>
  ((allz_any _ m cp _ _ (HZR.out.drewN (r+q)) (by omega)).mono fun _ _ h=>⟨h.1,q,h.2.symm⟩)
 have H2:Hid (∀r q,Calls Tryz.prog 96 #[.slice (some ⟨b,o,none⟩) s1 c,.int .u64 num,.int .i64 ad] (w.drewN (r+q)) fun e w'=>e=.returned (.int .u64 (lastW (l.take s1) num ad))∧∃j,w'=w.drewN (r+j)):=fun r q=>
  ((lastw_any _ s1 c _ num ad _ (HFR.out.drewN (r+q)) (by omega) hnlt had).mono fun _ _ h=>⟨h.1,q,h.2.symm⟩)
 generalize lastW (l.take s1) num ad=zz at*
 have c1':∀q,(w.drewN q).cell? ⟨b,o+s1,none⟩=some (.int .u64 (z:Nat)):=fun _=>c1
 clear hp hm hcp
 cases hzz:zeroW ((l.drop p).take m)with
 |false=>
  rw[hzz]at H1
  have HNO:Hid (okW l ad=false):=by
   unfold Hid
   rw[Bool.eq_false_iff];intro h
   have:=(HIFF.out.1 h).1
   rw[hzz]at this;cases this
  clear hzz HIFF
  go_enter Tryz.func81,Tryz.ntmps81
  go_wp2_with fail
  refine(HM.out _).mono ?_;rintro e w1 ⟨rfl,rfl⟩
  go_wp2
  go_quiet (fail)
  go_wp2
  go_quiet (with_reducible first|exact H1.out _ _|exact H2.out _ _)
  go_wp2
  go_ret3
  exact .inl ⟨HNO.out,rfl,below_drewN (below_drewN (Below.refl _ _) _) _⟩
 |true=>
  rw[hzz]at H1
  by_cases he:z=zz
  ·subst he
   have HYES:Hid (okW l ad=true):=HIFF.out.2 ⟨hzz,rfl⟩
   clear hzz HIFF
   have HCL:Hid (∀q,Calls Tryz.prog 93 #[.slice (some ⟨b,o,none⟩) p c] (w.drewN q) fun e w'=>∃v,e=.returned v∧w'.ownsRow w.heap.size 133 1 v p ((l.take p).map vw)∧Below w.heap.size w w'):=fun q=>
    (wclone_any (some ⟨b,o,none⟩) p c (l.take p) (w.drewN q) (HPR.out.drewN q) (by simp) (by omega) HB.out).mono fun e w' ⟨v,h1,h2,h3⟩=>⟨v,h1,h2,(below_drewN (Below.refl w.heap.size w) q).trans h3⟩
   have c2':∀q,(w.drewN q).cell? ⟨b,o+s2,none⟩=some (.int .u64 (tag:Nat)):=fun _=>c2
   go_enter Tryz.func81,Tryz.ntmps81
   go_wp2_with fail
   refine(HM.out _).mono ?_;rintro e w1 ⟨rfl,rfl⟩
   go_wp2
   go_quiet (fail)
   go_wp2
   go_quiet (with_reducible first|exact H1.out _ _|exact H2.out _ _)
   go_wp2
   have hwr:IntKind.i64.wrap (s2:Int)=(s2:Int):=IntWalk.i64_in _ (by omega)
   go_region_held3 (fun w'=>w'.cell? ⟨b,o+s2,none⟩=some (.int .u64 (tag:Nat)))
    (first|exact c2|exact e2) ((go_at_call 93;refine(HCL.out _).mono ?_;rintro e w2 ⟨v,rfl,ho3,hb3⟩;have e2:w2.cell? ⟨b,o+s2,none⟩=some (.int .u64 (tag:Nat)):=(hb3.cell (p:=⟨b,o+s2,none⟩) (Nat.lt_of_lt_of_le hbB HB.out)).trans c2))
   have HO:=Lib.hid ho3
   have HB3:=Lib.hid hb3
   clear ho3 hb3
   go_wp2
   go_ret3
   exact .inr ⟨HYES.out,v,rfl,HO.out,HB3.out⟩
  ·have HNO:Hid (okW l ad=false):=by
    unfold Hid
    rw[Bool.eq_false_iff];intro h
    exact he (HIFF.out.1 h).2
   have g3:((z:Int) !=(zz:Int))=true:=by simp;omega
   clear hzz HIFF
   go_enter Tryz.func81,Tryz.ntmps81
   go_wp2_with fail
   refine(HM.out _).mono ?_;rintro e w1 ⟨rfl,rfl⟩
   go_wp2
   go_quiet (fail)
   go_wp2
   go_quiet (with_reducible first|exact H1.out _ _|exact H2.out _ _)
   go_wp2
   go_ret3
   exact .inl ⟨HNO.out,rfl,below_drewN (below_drewN (Below.refl _ _) _) _⟩
def keepV(v:Value):Option (DataW Value×List MemPlace):=some (.held v,[])
theorem law:Maps.Keyed Tryz.prog 3:=Maps.int_keyed Tryz.underlying3
theorem keyI{x:Int}(h:I64 x):keyOf Tryz.prog 3 (.int .i64 x)=some (.int .i64 x):=Maps.keyOf_int_mk Tryz.underlying3 h
theorem litI{x:Int}(h:I64 x):WideAt.IsKeyLit (.int .i64 x):=law.key (keyI h)
def Fn(D:DataW Value)(f:Int→Option Value):Prop:=
 Maps.IsMap D∧(∀x,I64 x→f x=none→Maps.has D (.int .i64 x)=false)∧∀x v,I64 x→f x=some v→Maps.has D (.int .i64 x)=true∧∀zd,D.atKey (.int .i64 x) zd=.held v
theorem Fn.empty:Fn (.map []) nothing:=⟨Maps.isMap_empty,fun _ _ _=>rfl,fun _ _ _ h=>by cases h⟩
theorem Fn.put{D:DataW Value}{f:Int→Option Value}(h:Fn D f){i:Int}(hi:I64 i)(v:Value):Fn (D.put (.int .i64 i) (.held v)) (upd f i v):=by
 obtain⟨h0,h1,h2⟩:=h
 have hne:∀{x:Int},x≠i→(Lit.int .i64 x)≠.int .i64 i:=fun hx e=>hx (by injection e)
 refine⟨h0.put _ _,fun x hx hn=>?_,fun x u hx hu=>?_⟩
 ·by_cases e:x=i
  ·subst e;rw[upd_same]at hn;cases hn
  ·rw[upd_other _ _ e]at hn
   rw[Maps.has_put_other (hne e)];exact h1 x hx hn
 ·by_cases e:x=i
  ·subst e;rw[upd_same]at hu;injection hu with hu;subst hu
   exact⟨Maps.has_put_same h0 (litI hx) _,fun zd=>Maps.atKey_put_same h0 (litI hx) _ _⟩
  ·rw[upd_other _ _ e]at hu
   rw[Maps.has_put_other (hne e)]
   exact⟨(h2 x u hx hu).1,fun zd=>by rw[Maps.atKey_put_other (hne e)];exact(h2 x u hx hu).2 zd⟩
def MapF(w:World)(b n:Nat)(f:Int→Option Value):Prop:=∃D:DataW Value,w.ownsMap Tryz.prog 3 keepV b n D∧Fn D f
theorem MapF.lt{w:World}{b n:Nat}{f:Int→Option Value}(h:MapF w b n f):b<w.heap.size:=by obtain⟨D,h,_⟩:=h;exact h.lt
theorem MapF.mono{w:World}{b n n':Nat}{f:Int→Option Value}(h:MapF w b n f)(hn:n≤n'):MapF w b n' f:=by obtain⟨D,h,k⟩:=h;exact⟨D,h.mono hn,k⟩
theorem MapF.same{w w':World}{b n:Nat}{f:Int→Option Value}(h:MapF w b n f)(hb:w'.heap[b]?=w.heap[b]?):MapF w' b n f:=by
 obtain⟨D,⟨es,clock,h1,h2⟩,k⟩:=h
 exact⟨D,⟨es,clock,hb.trans h1,h2⟩,k⟩
theorem MapF.made(w:World):MapF (w.alloc (.map #[] 0)) w.heap.size 0 nothing:=⟨_,World.ownsMap_made w Tryz.prog 3 keepV,Fn.empty⟩
theorem MapF.not_row{w:World}{b n g:Nat}{f:Int→Option Value}{t:TypeId}{cs:List Value}(h:MapF w b n f)(hr:Row w g t cs):g≠b:=by
 obtain⟨D,⟨es,clock,h1,_⟩,_⟩:=h
 intro e;subst e;unfold Row at hr;rw[h1]at hr;cases hr
def Words(w:World)(G:Nat→Prop)(v:Value)(l:List Nat):Prop:=
 ∃g c cs,v=.slice (some ⟨g,0,none⟩) l.length c∧Row w g 133 cs∧G g∧l.length≤c∧c≤maxLen∧0<l.length∧(∀x∈l,(Lit.int .u64 (x:Nat)).wf=true)∧cs.take l.length=l.map fun x:Nat=>Value.int .u64 x
theorem Words.keep{w w':World}{G G':Nat→Prop}{v:Value}{l:List Nat}(h:Words w G v l)(hG:∀k cs,Row w k 133 cs→G k→w'.heap[k]?=w.heap[k]?)(hG':∀k cs,Row w k 133 cs→G k→G' k):Words w' G' v l:=by
 obtain⟨g,c,cs,rfl,hr,hg,h1⟩:=h
 exact⟨g,c,cs,rfl,(hG g cs hr hg).trans hr,hG' g cs hr hg,h1⟩
theorem Words.reads{w:World}{G:Nat→Prop}{v:Value}{l:List Nat}(h:Words w G v l):∃A c,v=.slice A l.length c∧A≠none∧Reads .u64 w w.heap.size A l.length l:=by
 obtain⟨g,c,cs,rfl,hr,hg,_,_,hp,hw,ht⟩:=h
 refine⟨_,c,rfl,by simp,hr.reads rfl hw (fun i hi=>?_) hr.lt⟩
 have h1:(cs.take l.length)[i]?=cs[i]?:=by rw[List.getElem?_take,if_pos hi]
 rw[←h1,ht,List.getElem?_map,List.getElem?_eq_getElem hi,List.getD_eq_getElem?_getD,List.getElem?_eq_getElem hi];rfl
def Rel(w:World)(G:Nat→Prop):Option Value→Option (List Nat)→Prop
 |none,none=>True
 |some v,some l=>Words w G v l
 | _,_=>False
theorem Rel.keep{w w':World}{G G':Nat→Prop}{v:Option Value}{l:Option (List Nat)}(h:Rel w G v l)(hG:∀k cs,Row w k 133 cs→G k→w'.heap[k]?=w.heap[k]?)(hG':∀k cs,Row w k 133 cs→G k→G' k):Rel w' G' v l:=by
 match v,l,h with
 |none,none,_=>trivial
 |some v,some l,h=>exact Words.keep h hG hG'
def Store(w:World)(G:Nat→Prop)(b n:Nat)(fl:Int→Option (List Nat)):Prop:=∃f,MapF w b n f∧∀x,Rel w G (f x) (fl x)
def flatW:List (Int×Value)→List Value
 |[]=>[]
 |e::l=>.int .i64 e.1::e.2::flatW l
theorem flatW_append:∀l m,flatW (l++m)=flatW l++flatW m
 |[],_=>rfl
 |e::l,m=>by show _:: _::flatW (l++m)= _;rw[flatW_append l m];rfl
def Later(w:World)(G:Nat→Prop)(v:Value)(l:List (Int×List Nat)):Prop:=
 ∃rs:List (Int×Value),w.ownsRow 0 172 2 v l.length (flatW rs)∧rs.length=l.length∧(∀(i:Nat) (r:Int×Value) (e:Int×List Nat),rs[i]?=some r→l[i]?=some e→r.1=e.1∧Words w G r.2 e.2)∧∀k,v.ownBlock=some k→G k
def cellsOf(s:St)(bl bf:Nat)(v:Value):List Value:=
 [.int .i64 (s.size:Int),.int .i64 s.blocks,.map (some bl),.map (some bf),v,.bool s.fb,.int .i64 s.fn,.bool s.tb,.int .i64 s.tn,.bool s.down,.int .i64 s.acts]
structure Fits (s:St) (n:Nat):Prop where
 size:8≤s.size∧s.size≤256
 blocks:0≤s.blocks∧s.blocks≤1000000
 fn:0≤s.fn∧s.fn≤1000000
 tn:0≤s.tn∧s.tn≤1000000
 acts:0≤s.acts∧s.acts≤n
 small:n≤1000000
 later:∀e∈s.later,I64 e.1∧e.2.length=s.size
 fl:∀x l,s.fl x=some l→l.length=s.size
def DevM(w:World)(G:Nat→Prop)(p:Nat)(s:St)(n m:Nat):Prop:=
 Fits s n∧∃bl bf v nl,Row w p 90 (cellsOf s bl bf v)∧Store w G bl nl s.fl∧Store w G bf s.later.length (lay nothing s.later)∧Later w G v s.later∧bl≠bf∧G p∧G bl∧G bf∧(∀k,G k→k<w.heap.size)∧nl+s.later.length≤m
def Dev(w:World)(G:Nat→Prop)(p:Nat)(s:St)(n:Nat):Prop:=DevM w G p s n n
section
variable {w w' : World} {G G' : Nat → Prop}
theorem Store.keep{b n:Nat}{fl:Int→Option (List Nat)}(h:Store w G b n fl)(hb:w'.heap[b]?=w.heap[b]?)(hG:∀k cs,Row w k 133 cs→G k→w'.heap[k]?=w.heap[k]?)(hG':∀k cs,Row w k 133 cs→G k→G' k):Store w' G' b n fl:=by
 obtain⟨f,h1,h2⟩:=h
 exact⟨f,h1.same hb,fun x=>(h2 x).keep hG hG'⟩
theorem Store.lt{b n:Nat}{fl:Int→Option (List Nat)}(h:Store w G b n fl):b<w.heap.size:=by obtain⟨f,h1,_⟩:=h;exact h1.lt
theorem Store.not_row{b n g:Nat}{fl:Int→Option (List Nat)}{t:TypeId}{cs:List Value}(h:Store w G b n fl)(hr:Row w g t cs):g≠b:=by obtain⟨f,h1,_⟩:=h;exact h1.not_row hr
theorem Store.mono{b n n':Nat}{fl:Int→Option (List Nat)}(h:Store w G b n fl)(hn:n≤n'):Store w G b n' fl:=by obtain⟨f,h1,h2⟩:=h;exact⟨f,h1.mono hn,h2⟩
theorem Later.keep{v:Value}{l:List (Int×List Nat)}(h:Later w G v l)(hv:∀k,v.ownBlock=some k→G k→w'.heap[k]?=w.heap[k]?∧G' k)(hG:∀k cs,Row w k 133 cs→G k→w'.heap[k]?=w.heap[k]?)(hG':∀k cs,Row w k 133 cs→G k→G' k):Later w' G' v l:=by
 obtain⟨rs,h1,h2,h3,h4⟩:=h
 exact⟨rs,ownsRow_same h1 fun k hk=>(hv k hk (h4 k hk)).1,h2,fun i r e hr he=>⟨(h3 i r e hr he).1,(h3 i r e hr he).2.keep hG hG'⟩,fun k hk=>(hv k hk (h4 k hk)).2⟩
theorem Later.nil(w:World)(G:Nat→Prop):Later w G (.slice none 0 0) []:=⟨[],World.ownsRow_nil _ _ _ _,rfl,fun i r e h=>by simp at h,fun k h=>by simp[Value.ownBlock]at h⟩
theorem Later.not_row{v:Value}{l:List (Int×List Nat)}(h:Later w G v l){g:Nat}{t:TypeId}{cs:List Value}(hr:Row w g t cs)(ht:t≠172):v.ownBlock≠some g:=by
 obtain⟨rs,⟨_,h1⟩,_⟩:=h
 rcases h1 with⟨rfl,_⟩|⟨g',cap,cur,rfl,_,hh,_⟩
 ·simp[Value.ownBlock]
 ·simp only[Value.ownBlock]
  intro e;injection e with e;subst e
  unfold Row at hr;rw[hh]at hr;injection hr with hr;injection hr with _ hr;exact ht hr.symm
theorem Later.not_map{v:Value}{l:List (Int×List Nat)}(h:Later w G v l){b n:Nat}{fl:Int→Option (List Nat)}(hs:Store w G b n fl):v.ownBlock≠some b:=by
 obtain⟨rs,⟨_,h1⟩,_⟩:=h
 rcases h1 with⟨rfl,_⟩|⟨g',cap,cur,rfl,_,hh,_⟩
 ·simp[Value.ownBlock]
 ·simp only[Value.ownBlock]
  intro e;injection e with e;subst e
  obtain⟨f,⟨D,⟨es,clock,h1,_⟩,_⟩,_⟩:=hs
  rw[h1]at hh;cases hh
theorem Later.form{v:Value}{l:List (Int×List Nat)}(h:Later w G v l):∃A c,v=.slice A l.length c:=by
 obtain⟨rs,⟨_,h1⟩,_⟩:=h
 rcases h1 with⟨rfl,h0⟩|⟨g,cap,cur,rfl,_⟩
 ·exact⟨none,0,by rw[h0]⟩
 ·exact⟨_,_,rfl⟩
theorem Dev.keep{p:Nat}{s:St}{n:Nat}(h:Dev w G p s n)(hG:∀k,G k→w'.heap[k]?=w.heap[k]?)(hs:w.heap.size≤w'.heap.size):Dev w' G p s n:=by
 obtain⟨h0,bl,bf,v,nl,h1,h2,h3,h4,h5,h6,h7,h8,h9,h10⟩:=h
 exact⟨h0,bl,bf,v,nl,(hG p h6).trans h1,h2.keep (hG bl h7) (fun k _ _ hk=>hG k hk) (fun k _ _ hk=>hk),h3.keep (hG bf h8) (fun k _ _ hk=>hG k hk) (fun k _ _ hk=>hk),h4.keep (fun k _ hk=>⟨hG k hk,hk⟩) (fun k _ _ hk=>hG k hk) (fun k _ _ hk=>hk),h5,h6,h7,h8,fun k hk=>Nat.lt_of_lt_of_le (h9 k hk) hs,h10⟩
theorem Dev.below{p:Nat}{s:St}{n:Nat}(h:Dev w G p s n)(hb:Below w.heap.size w w'):Dev w' G p s n:=
 h.keep (fun k hk=>hb.block k (by obtain⟨_,_,_,_,_,_,_,_,_,_,_,_,_,h9,_⟩:=h;exact h9 k hk)) hb.size
theorem Dev.lt{p:Nat}{s:St}{n:Nat}(h:Dev w G p s n){k:Nat}(hk:G k):k<w.heap.size:=by obtain⟨_,_,_,_,_,_,_,_,_,_,_,_,_,h9,_⟩:=h;exact h9 k hk
theorem Dev.far{F:Nat→Prop}{p:Nat}{s:St}{n:Nat}(h:Dev w G p s n)(hb:Far F w w')(hF:∀k,G k→¬F k):Dev w' G p s n:=
 h.keep (fun k hk=>hb.block k (h.lt hk) (hF k hk)) hb.size
theorem Dev.fits{p:Nat}{s:St}{n:Nat}(h:Dev w G p s n):Fits s n:=h.1
theorem Dev.mine{p:Nat}{s:St}{n:Nat}(h:Dev w G p s n):G p:=by obtain⟨_,_,_,_,_,_,_,_,_,_,h6,_⟩:=h;exact h6
theorem Fits.mono{s:St}{n n':Nat}(h:Fits s n)(hn:n≤n')(h6:n'≤1000000):Fits s n':=⟨h.size,h.blocks,h.fn,h.tn,⟨h.acts.1,by have:=h.acts.2;omega⟩,h6,h.later,h.fl⟩
theorem Dev.mono{p:Nat}{s:St}{n n':Nat}(h:Dev w G p s n)(hn:n≤n')(h6:n'≤1000000):Dev w G p s n':=by
 obtain⟨h0,bl,bf,v,nl,h1,h2,h3,h4,h5,h6',h7,h8,h9,h10⟩:=h
 exact⟨h0.mono hn h6,bl,bf,v,nl,h1,h2,h3,h4,h5,h6',h7,h8,h9,by omega⟩
theorem DevM.up{p:Nat}{s:St}{n m:Nat}(h:DevM w G p s n m)(hm:m≤n):Dev w G p s n:=by
 obtain⟨h0,bl,bf,v,nl,h1,h2,h3,h4,h5,h6',h7,h8,h9,h10⟩:=h
 exact⟨h0,bl,bf,v,nl,h1,h2,h3,h4,h5,h6',h7,h8,h9,by omega⟩
theorem Dev.begin{p:Nat}{s:St}{n:Nat}(h:Dev w G p s n){b:Bool}{bl bf:Nat}{v:Value}(h1:Row w p 90 (cellsOf s bl bf v))(h2:Row w' p 90 (cellsOf (begin s b).2 bl bf v))(hf:Far (fun k=>k=p) w w')(hft:Fits (begin s b).2 (n+1)):DevM w' G p (begin s b).2 (n+1) n:=by
 obtain⟨h0,bl',bf',v',nl,k1,k2,k3,k4,k5,k6,k7,k8,k9,k10⟩:=h
 obtain⟨e1,e2,e3,e4⟩:=begin_same s b
 have e0:cellsOf s bl bf v=cellsOf s bl' bf' v':=by
  unfold Row at h1 k1;rw[h1]at k1;injection k1 with k1;injection k1 with k1;simpa using k1
 obtain⟨rfl,rfl,rfl⟩:bl=bl'∧bf=bf'∧v=v':=by simpa [cellsOf]using e0
 have hne:∀k cs,Row w k 133 cs→k≠p:=by
  intro k cs hk e;subst e
  unfold Row at h1 hk;rw[h1]at hk;injection hk with hk;injection hk with _ hk;exact absurd hk (by decide)
 have hb1:bl≠p:=fun e=>k2.not_row h1 e.symm
 have hb2:bf≠p:=fun e=>k3.not_row h1 e.symm
 have hkeep:∀k cs,Row w k 133 cs→G k→w'.heap[k]?=w.heap[k]?:=fun k cs hk hg=>hf.block k hk.lt (hne k cs hk)
 refine⟨hft,bl,bf,v,nl,h2,?_,?_,?_,k5,k6,k7,k8,fun k hk=>Nat.lt_of_lt_of_le (k9 k hk) hf.size,by rw[e4];omega⟩
 ·rw[e3];exact k2.keep (hf.block bl k2.lt hb1) hkeep (fun k _ _ hk=>hk)
 ·rw[e4];exact k3.keep (hf.block bf k3.lt hb2) hkeep (fun k _ _ hk=>hk)
 ·rw[e4];exact k4.keep (fun k hk hg=>⟨hf.block k (k9 k hg) fun e=>k4.not_row h1 (by decide) (by rw[←e];exact hk),hg⟩) hkeep (fun k _ _ hk=>hk)
end
theorem begin_fits{s:St}{n:Nat}(h:Fits s n)(hn:n<1000000)(b:Bool):Fits (begin s b).2 (n+1):=by
 obtain⟨e1,e2,e3,e4⟩:=begin_same s b
 have ha:=begin_acts s b
 have hf:(0≤(begin s b).2.fn∧(begin s b).2.fn≤1000000)∧(0≤(begin s b).2.tn∧(begin s b).2.tn≤1000000):=by
  have h1:=h.fn
  have h2:=h.tn
  unfold begin
  by_cases hd:s.down=true
  ·rw[if_pos hd];exact⟨h1,h2⟩
  rw[if_neg hd]
  by_cases hb:b=false
  ·rw[if_pos hb];exact⟨h1,h2⟩
  rw[if_neg hb]
  by_cases hA:s.fb=true∧s.fn=0
  ·rw[if_pos hA];exact⟨h1,h2⟩
  rw[if_neg hA]
  have hfn:0≤(if s.fb=true then s.fn-1 else s.fn)∧(if s.fb=true then s.fn-1 else s.fn)≤1000000:=by
   split
   ·rename_i hB;have:s.fn≠0:=fun e=>hA ⟨hB,e⟩;omega
   ·exact h1
  by_cases hC:s.tb=true∧s.tn=0
  ·dsimp only;rw[if_pos hC];exact⟨hfn,by dsimp only;omega⟩
  ·dsimp only;rw[if_neg hC]
   refine⟨hfn,?_⟩
   show 0≤(if s.tb=true then s.tn-1 else s.tn)∧(if s.tb=true then s.tn-1 else s.tn)≤1000000
   split
   ·rename_i hB;have:s.tn≠0:=fun e=>hC ⟨hB,e⟩;omega
   ·exact h2
 refine⟨by rw[e1];exact h.size,by rw[e2];exact h.blocks,hf.1,hf.2,?_,by omega,by rw[e4,e1];exact h.later,by rw[e3,e1];exact h.fl⟩
 have:=h.acts
 rcases ha with ha|ha<;>rw[ha]<;>omega
section
variable (p : Nat) (s : St) (bl bf : Nat) (v : Value) (w : World)
theorem down_any(hr:Row w p 90 (cellsOf s bl bf v)):Calls Tryz.prog 105 #[.pointer (some ⟨p,0,none⟩)] w fun e w'=>e=.returned (.bool s.down)∧w'=w:=by
 have c9:w.cell? ⟨p,9,none⟩=some (.bool s.down):=hr.cell 9
 go_enter Tryz.func105,Tryz.ntmps105
 go_wp2
 go_ret
 exact⟨rfl,rfl⟩
theorem size_any(hr:Row w p 90 (cellsOf s bl bf v)):Calls Tryz.prog 62 #[.pointer (some ⟨p,0,none⟩)] w fun e w'=>e=.returned (.int .i64 (s.size:Int))∧w'=w:=by
 have c0:w.cell? ⟨p,0,none⟩=some (.int .i64 (s.size:Int)):=hr.cell 0
 go_enter Tryz.func62,Tryz.ntmps62
 go_wp2
 go_ret
 exact⟨rfl,rfl⟩
theorem blocks_any(hr:Row w p 90 (cellsOf s bl bf v)):Calls Tryz.prog 108 #[.pointer (some ⟨p,0,none⟩)] w fun e w'=>e=.returned (.int .i64 s.blocks)∧w'=w:=by
 have c1:w.cell? ⟨p,1,none⟩=some (.int .i64 s.blocks):=hr.cell 1
 go_enter Tryz.func108,Tryz.ntmps108
 go_wp2
 go_ret
 exact⟨rfl,rfl⟩
theorem has_any(i:Int)(hr:Row w p 90 (cellsOf s bl bf v)):Calls Tryz.prog 92 #[.pointer (some ⟨p,0,none⟩),.int .i64 i] w fun e w'=>e=.returned (.bool (right s i))∧w'=w:=by
 have hb:=blocks_any p s bl bf v w hr
 have HX:Hid (right s i=(decide (0≤i)&&decide (i<s.blocks))):=rfl
 by_cases h0:0≤i
 ·have h0':decide (i≥0)=true:=by simpa using h0
  have h0'':decide (0≤i)=true:=by simpa using h0
  go_enter Tryz.func92,Tryz.ntmps92
  go_wp2_with fail
  refine hb.mono ?_
  rintro e w1 ⟨rfl,rfl⟩
  go_wp2
  go_ret
  exact⟨ret_bool (by rw[HX.out,h0''];simp),rfl⟩
 ·have h0':decide (i≥0)=false:=by simpa using h0
  have h0'':decide (0≤i)=false:=by simpa using h0
  go_enter Tryz.func92,Tryz.ntmps92
  go_wp2
  go_ret
  exact⟨ret_bool (by rw[HX.out,h0''];simp),rfl⟩
theorem isOut_any(b o:Nat)(isSet:Bool)(left:Int)(c0:w.cell? ⟨b,o,none⟩=some (.bool isSet))(c1:w.cell? ⟨b,o+1,none⟩=some (.int .i64 left)):
  Calls Tryz.prog 106 #[.pointer (some ⟨b,o,none⟩)] w fun e w'=>e=.returned (.bool (isSet&&left==0))∧w'=w:=by
 cases isSet
 ·go_enter Tryz.func106,Tryz.ntmps106
  go_wp2
  go_ret
  exact⟨rfl,rfl⟩
 ·go_enter Tryz.func106,Tryz.ntmps106
  go_wp2
  go_ret
  exact⟨rfl,rfl⟩
theorem letOne_any(b o:Nat)(isSet:Bool)(left:Int)(c0:w.cell? ⟨b,o,none⟩=some (.bool isSet))(c1:w.cell? ⟨b,o+1,none⟩=some (.int .i64 left))(f1:w.frozen? ⟨b,o+1,none⟩=false)(hl:0≤left∧left≤1000000):
  Calls Tryz.prog 107 #[.pointer (some ⟨b,o,none⟩)] w fun e w'=>e=.returned (.tuple #[])∧w'=if isSet then w.setCell ⟨b,o+1,none⟩ (.int .i64 (left-1))else w:=by
 cases isSet
 ·go_enter Tryz.func107,Tryz.ntmps107
  go_wp2
  go_end0
  exact⟨rfl,rfl⟩
 ·go_enter Tryz.func107,Tryz.ntmps107
  go_wp2
  go_end0
  exact⟨rfl,rfl⟩
end
theorem Row.cellsSet{w:World}{p:Nat}{s s':St}{bl bf:Nat}{v:Value}(hr:Row w p 90 (cellsOf s bl bf v))(i:Nat)(u:Value)(he:(cellsOf s bl bf v).set i u=cellsOf s' bl bf v):Row (w.setCell ⟨p,i,none⟩ u) p 90 (cellsOf s' bl bf v):=by
 have:=hr.set i u
 rw[he]at this;exact this
theorem far_p{w w1:World}{p:Nat}(h:Far (fun k=>k=p) w w1)(i:Nat)(u:Value):Far (fun k=>k=p) w (w1.setCell ⟨p,i,none⟩ u):=h.set (.inl rfl) u
theorem St.fn_same(s:St)(h:s.fb=false):({s with fn:=if s.fb then s.fn-1 else s.fn}:St)=s:=by cases s;simp_all
theorem St.tn_same(s:St)(h:s.tb=false):({s with tn:=if s.tb then s.tn-1 else s.tn}:St)=s:=by cases s;simp_all
theorem St.fn_less(s:St)(h:s.fb=true):({s with fn:=if s.fb then s.fn-1 else s.fn}:St)={s with fn:=s.fn-1}:=by cases s;simp_all
theorem St.tn_less(s:St)(h:s.tb=true):({s with tn:=if s.tb then s.tn-1 else s.tn}:St)={s with tn:=s.tn-1}:=by cases s;simp_all
theorem begin_any(p:Nat)(s:St)(n:Nat)(bl bf:Nat)(v:Value)(b:Bool)(w:World)(hf:Fits s n)(hr:Row w p 90 (cellsOf s bl bf v)):
  Calls Tryz.prog 91 #[.pointer (some ⟨p,0,none⟩),.bool b] w fun e w'=>e=.returned (.int .i64 (begin s b).1)∧Row w' p 90 (cellsOf (begin s b).2 bl bf v)∧Far (fun k=>k=p) w w':=by
 have hd:=down_any p s bl bf v w hr
 by_cases hdown:s.down=true
 ·have HX:=Lib.hid (begin_down s b hdown)
  rw[hdown]at hd
  go_enter Tryz.func91,Tryz.ntmps91
  go_wp2_with fail
  refine hd.mono ?_
  rintro e w1 ⟨rfl,rfl⟩
  go_wp2
  go_ret
  rw[HX.out]
  exact⟨rfl,hr,Far.refl _ _⟩
 have hdown':s.down=false:=by simpa using hdown
 rw[hdown']at hd
 cases b
 ·have HX:Hid (begin s false=(1,s)):=by unfold Hid begin;simp[hdown']
  go_enter Tryz.func91,Tryz.ntmps91
  go_wp2_with fail
  refine hd.mono ?_
  rintro e w1 ⟨rfl,rfl⟩
  go_wp2
  go_ret
  rw[HX.out]
  exact⟨rfl,hr,Far.refl _ _⟩
 have hi:=isOut_any w p 5 s.fb s.fn (hr.cell 5) (hr.cell 6)
 by_cases hA:s.fb=true∧s.fn=0
 ·have HX:Hid (begin s true=(8,{s with down:=true})):=by unfold Hid begin;simp[hdown',hA]
  rw[show (s.fb&&s.fn==0)=true by simp[hA]]at hi
  have f9:=hr.free 9
  have c9:w.cell? ⟨p,9,none⟩=some (.bool s.down):=hr.cell 9
  go_enter Tryz.func91,Tryz.ntmps91
  go_wp2_with fail
  refine hd.mono ?_
  rintro e w1 ⟨rfl,rfl⟩
  go_wp2_with fail
  refine hi.mono ?_
  rintro e w1 ⟨rfl,rfl⟩
  go_wp2
  go_ret
  rw[HX.out]
  exact⟨rfl,hr.cellsSet 9 _ rfl,far_p (Far.refl _ _) _ _⟩
 rw[show (s.fb&&s.fn==0)=false by rw[Bool.eq_false_iff];simpa using hA]at hi
 have hl:=letOne_any w p 5 s.fb s.fn (hr.cell 5) (hr.cell 6) (hr.free 6) hf.fn
 obtain⟨s1,hs1⟩:∃s1:St,s1={s with fn:=if s.fb then s.fn-1 else s.fn}:=⟨_,rfl⟩
 have hr1:∀w',w'=(if s.fb=true then w.setCell ⟨p,5+1,none⟩ (.int .i64 (s.fn-1))else w)→Row w' p 90 (cellsOf s1 bl bf v)∧Far (fun k=>k=p) w w':=by
  intro w' hw'
  subst hs1
  by_cases hfb:s.fb=false
  ·rw[St.fn_same s hfb]
   rw[hfb]at hw'
   simp at hw';subst hw'
   exact⟨hr,Far.refl _ _⟩
  ·have hfb:s.fb=true:=by simpa using hfb
   rw[St.fn_less s hfb]
   rw[hfb]at hw'
   simp at hw';subst hw'
   exact⟨hr.cellsSet 6 _ rfl,far_p (Far.refl _ _) _ _⟩
 have hr1':=Lib.hid hr1
 have htb:s1.tb=s.tb:=by rw[hs1]
 have htn:s1.tn=s.tn:=by rw[hs1]
 by_cases hC:s.tb=true∧s.tn=0
 ·have HX:Hid (begin s true=(6,{s1 with tb:=false,tn:=0})):=by
   subst hs1;unfold Hid begin;rw[if_neg hdown,if_neg (by decide),if_neg hA];dsimp only;rw[if_pos hC]
  clear hr1 hs1
  go_enter Tryz.func91,Tryz.ntmps91
  go_wp2_with fail
  refine hd.mono ?_
  rintro e w1 ⟨rfl,rfl⟩
  go_wp2_with fail
  refine hi.mono ?_
  rintro e w1 ⟨rfl,rfl⟩
  go_wp2_with fail
  refine hl.mono ?_
  rintro e w2 ⟨rfl,hw2⟩
  obtain⟨hr2,hf2⟩:=hr1'.out w2 hw2
  have HR2:=Lib.hid hr2
  have HF2:=Lib.hid hf2
  clear hw2 hf2 hl hi hd
  have hi2:=isOut_any w2 p 7 s1.tb s1.tn (hr2.cell 7) (hr2.cell 8)
  rw[show (s1.tb&&s1.tn==0)=true by simp[htb,htn,hC]]at hi2
  have f7:=hr2.free 7
  have f8:=hr2.free 8
  have c7:w2.cell? ⟨p,7,none⟩=some (.bool s1.tb):=hr2.cell 7
  have c8:w2.cell? ⟨p,8,none⟩=some (.int .i64 s1.tn):=hr2.cell 8
  clear hr2 hC htb htn
  go_wp2_with fail
  refine hi2.mono ?_
  rintro e w3 ⟨rfl,rfl⟩
  go_wp2
  go_ret
  rw[HX.out]
  exact⟨rfl,(HR2.out.cellsSet (s':={s1 with tb:=false}) 7 _ rfl).cellsSet 8 _ rfl,far_p (far_p HF2.out _ _) _ _⟩
 ·have HX:Hid (begin s true=(0,{s1 with tn:=if s1.tb then s1.tn-1 else s1.tn,acts:=s1.acts+1})):=by
   subst hs1;unfold Hid begin;rw[if_neg hdown,if_neg (by decide),if_neg hA];dsimp only;rw[if_neg hC]
  have hts:0≤s1.tn∧s1.tn≤1000000:=by rw[htn];exact hf.tn
  have has:0≤s1.acts∧s1.acts≤n:=by rw[hs1];exact hf.acts
  have h6:=hf.small
  clear hr1 hs1
  go_enter Tryz.func91,Tryz.ntmps91
  go_wp2_with fail
  refine hd.mono ?_
  rintro e w1 ⟨rfl,rfl⟩
  go_wp2_with fail
  refine hi.mono ?_
  rintro e w1 ⟨rfl,rfl⟩
  go_wp2_with fail
  refine hl.mono ?_
  rintro e w2 ⟨rfl,hw2⟩
  obtain⟨hr2,hf2⟩:=hr1'.out w2 hw2
  have HR2:=Lib.hid hr2
  have HF2:=Lib.hid hf2
  clear hw2 hf2 hl hi hd
  have hi2:=isOut_any w2 p 7 s1.tb s1.tn (hr2.cell 7) (hr2.cell 8)
  rw[show (s1.tb&&s1.tn==0)=false by rw[Bool.eq_false_iff,htb,htn];simpa using hC]at hi2
  have hl2:=letOne_any w2 p 7 s1.tb s1.tn (hr2.cell 7) (hr2.cell 8) (hr2.free 8) hts
  have hr3:∀w',w'=(if s1.tb=true then w2.setCell ⟨p,7+1,none⟩ (.int .i64 (s1.tn-1))else w2)→Row w' p 90 (cellsOf {s1 with tn:=if s1.tb then s1.tn-1 else s1.tn} bl bf v)∧Far (fun k=>k=p) w1 w':=by
   intro w' hw'
   by_cases hfb:s1.tb=false
   ·rw[St.tn_same s1 hfb]
    rw[hfb]at hw'
    simp at hw';subst hw'
    exact⟨hr2,HF2.out⟩
   ·have hfb:s1.tb=true:=by simpa using hfb
    rw[St.tn_less s1 hfb]
    rw[hfb]at hw'
    simp at hw';subst hw'
    exact⟨hr2.cellsSet 8 _ rfl,far_p HF2.out _ _⟩
  have HR3:=Lib.hid hr3
  clear hr2 hr3 hC htb htn hts
  go_wp2_with fail
  refine hi2.mono ?_
  rintro e w3 ⟨rfl,rfl⟩
  go_wp2_with fail
  refine hl2.mono ?_
  rintro e w4 ⟨rfl,hw4⟩
  obtain⟨hr4,hf4⟩:=HR3.out w4 hw4
  have HR4:=Lib.hid hr4
  have HF4:=Lib.hid hf4
  have f10:=hr4.free 10
  have c10:w4.cell? ⟨p,10,none⟩=some (.int .i64 s1.acts):=hr4.cell 10
  clear hw4 hr4 hf4 hi2 hl2
  go_wp2
  go_ret
  rw[HX.out]
  exact⟨rfl,HR4.out.cellsSet 10 _ rfl,far_p HF4.out _ _⟩
theorem act_any(p:Nat)(s:St)(n:Nat)(G:Nat→Prop)(b:Bool)(w:World)(h:Dev w G p s n)(hn:n<1000000):
  Calls Tryz.prog 91 #[.pointer (some ⟨p,0,none⟩),.bool b] w fun e w'=>e=.returned (.int .i64 (begin s b).1)∧DevM w' G p (begin s b).2 (n+1) n∧Far (fun k=>k=p) w w':=by
 obtain⟨bl,bf,v,nl,hr,_⟩:=id h.2
 refine(begin_any p s n bl bf v b w h.1 hr).mono ?_
 rintro e w' ⟨he,h2,h3⟩
 exact⟨he,h.begin hr h2 h3 (begin_fits h.1 hn b),h3⟩
theorem infoU:(Tryz.prog.info? 133).map (fun i=>(i.zero,i.size,i.bytes))=some (some (.int .u64 0),1,8):=by kernel_rfl
theorem ownsRow_made(w:World)(e:TypeId):(w.alloc (.cells #[] e)).ownsRow w.heap.size e 1 (.slice (some ⟨w.heap.size,0,none⟩) 0 0) 0 []:=
 ⟨rfl,.inr ⟨w.heap.size,0,#[],rfl,Nat.le_refl _,heap_alloc_new _ _,Nat.le_refl _,Nat.zero_le _,rfl,rfl⟩⟩
theorem own_words{w:World}{base:Nat}{v:Value}{n:Nat}{l:List Nat}(h:w.ownsRow base 133 1 v n (l.map fun x:Nat=>Value.int .u64 x))(hl:l.length=n)(hp:0<n)(hw:∀x∈l,(Lit.int .u64 (x:Nat)).wf=true):Words w (fun k=>base≤k) v l:=by
 subst hl
 obtain⟨g,cap,cs,rfl,hg,hr,hc,hm,_,ht⟩:=own_row h hp
 exact⟨g,cap,cs,rfl,hr,hg,hc,hm,hp,hw,ht⟩
theorem sclone_any(A:Option Addr)(n c:Nat)(l:List Nat)(w:World){B:Nat}(hl:Reads .u64 w B A n l)(hn:0<n)(hn2:n≤1000000)(hB:B≤w.heap.size):
  Calls Tryz.prog 93 #[.slice A n c] w fun e w'=>∃v,e=.returned v∧Words w' (fun k=>w.heap.size≤k) v l∧Below w.heap.size w w':=by
 obtain⟨i0,hi,hz0,hz1,hz2⟩:=info_parts infoU
 obtain⟨hl0,hl1,hl2⟩:=id hl
 obtain⟨b,off,rfl,hbB,_⟩:=hl2 hn
 have HL:=Lib.hid hl
 have HL0:=Lib.hid hl0
 have HL1:=Lib.hid hl1
 clear hl hl0 hl1 hl2
 have hq:=fun w=>Go.Lib.run_eql_slice_nil (P:=Tryz.prog) w 129 133 (some ⟨b,off,none⟩) n c 0 0 Tryz.underlying129
 go_enter Tryz.func93,Tryz.ntmps93
 go_wp2_with (with_reducible refine stopAt 7 ?_)
 unfold Hid
 refine wpList_append_list _ rfl _ _ 129 rfl w.heap.size 133 i0 (.int .u64 0) 8 Tryz.underlying129 hi hz0 hz1 hz2 rfl _ 0 [] rfl (ownsRow_made w 133) (some ⟨b,off,none⟩) n c (l.map fun x:Nat=>Value.int .u64 x) rfl (by rw[List.length_map];exact HL0.out) (HL.out.keep ((Below.refl _ w).alloc (by omega) _:Below B w _)).source cells_int (by omega) (by omega) (by simp) ?_
 intro v' w' hown hb
 rw[Nat.zero_add,List.nil_append]at hown
 have HO:=Lib.hid hown
 have HB:=Lib.hid (((Below.refl w.heap.size w).alloc (Nat.le_refl _) _).trans hb)
 clear hown hb
 go_wp2
 go_ret
 exact⟨v',rfl,own_words HO.out HL0.out hn HL1.out,HB.out⟩
theorem zeroWs(w:World):(zeroValue 129).run Tryz.prog w=.ok (.slice none 0 0) w:=by kernel_rfl
theorem wpList_lookupF(w:World){ops:Array Oper}{rest:List Oper}{o:Oper}{a:Act}{Q:Exit→Act→World→Prop}
  (hg:o.guard=none) (m x:Operand) (hop:o.op=Op.lookup 87 m x true) (b n:Nat) (f:Int→Option Value) (hm:a.eval m=.map (some b)) (h:MapF w b n f) (i:Int) (hi:I64 i) (hx:a.eval x=.int .i64 i)
  (u:Value) (k:Bool) (hu:(u=.slice none 0 0∧k=false∧f i=none)∨(f i=some u∧k=true)) (hK:wpList Tryz.prog ops Q rest (a.put o.dst (.tuple #[u,.bool k])) w):
  wpList Tryz.prog ops Q (o::rest) a w:=by
 obtain⟨D,hown,h0,h1,h2⟩:=h
 refine wpList_lookup_own_ok w hg m x 87 hop 3 129 law Tryz.underlying87 keepV (zeroWs w) (.held (.slice none 0 0)) [] rfl b n D hm hown _ (.int .i64 i) hx (keyI hi) ?_
 intro v ps hv
 have hv':DataW.held v=D.atKey (.int .i64 i) (.held (.slice none 0 0)):=by unfold keepV at hv;injection hv with hv;injection hv
 rcases hu with⟨rfl,rfl,hn⟩|⟨hs,rfl⟩
 ·have hh:=h1 i hi hn
  rw[Maps.atKey_of_not_has hh]at hv'
  injection hv' with hv'
  rw[hh,hv'];exact hK
 ·obtain⟨hh,ha⟩:=h2 i u hi hs
  rw[ha]at hv'
  injection hv' with hv'
  rw[hh,hv'];exact hK
theorem holding_any(size:Nat)(blocks:Int)(b:Nat)(w:World):
  Calls Tryz.prog 51 #[.int .i64 (size:Int),.int .i64 blocks,.map (some b)] w fun e w'=>e=.returned (.pointer (some ⟨w.heap.size+1,0,none⟩))∧MapF w' w.heap.size 0 nothing∧
   Row w' (w.heap.size+1) 90 (cellsOf (fresh size blocks) b w.heap.size (.slice none 0 0))∧Below w.heap.size w w'∧w'.heap.size=w.heap.size+2:=by
 have hmm:=@run_makeMap Tryz.prog
 have H1:=Lib.hid ((MapF.made w).same (w':=(w.alloc (.map #[] 0)).alloc (.cells (cellsOf (fresh size blocks) b w.heap.size (.slice none 0 0)).toArray 90)) (Below.heap_alloc _ _ _ (by simp)))
 have H2:Hid (Row ((w.alloc (.map #[] 0)).alloc (.cells (cellsOf (fresh size blocks) b w.heap.size (.slice none 0 0)).toArray 90)) (w.heap.size+1) 90 (cellsOf (fresh size blocks) b w.heap.size (.slice none 0 0))):=by
  unfold Hid
  have:=heap_alloc_new (w.alloc (.map #[] 0)) (.cells (cellsOf (fresh size blocks) b w.heap.size (.slice none 0 0)).toArray 90)
  simp only[World.alloc,Array.size_push]at this⊢
  exact this
 go_enter Tryz.func51,Tryz.ntmps51
 go_wp2
 go_ret
 exact⟨rfl,H1.out,H2.out,((Below.refl _ w).alloc (Nat.le_refl _) _).alloc (by simp) _,by simp⟩
theorem fresh_fits{size:Nat}{blocks:Int}(h1:8≤size∧size≤256)(h2:0≤blocks∧blocks≤1000000):Fits (fresh size blocks) 0:=
 ⟨h1,h2,⟨Int.le_refl 0,(by decide:(0:Int)≤1000000)⟩,⟨Int.le_refl 0,(by decide:(0:Int)≤1000000)⟩,⟨Int.le_refl 0,Int.le_refl 0⟩,by decide,fun e he=>(by cases he),fun x l h=>(by cases h)⟩
theorem new_any(size:Nat)(blocks:Int)(w:World)(h1:8≤size∧size≤256)(h2:0≤blocks∧blocks≤1000000):
  Calls Tryz.prog 22 #[.int .i64 (size:Int),.int .i64 blocks] w fun e w'=>∃p G,e=.returned (.tuple #[.pointer (some ⟨p,0,none⟩),.int .i64 0])∧Dev w' G p (fresh size blocks) 0∧(∀k,G k→w.heap.size≤k)∧Below w.heap.size w w':=by
 have hmm:=@run_makeMap Tryz.prog
 have g1:decide ((size:Int)<8)=false:=by simp;omega
 have g2:decide ((size:Int)>256)=false:=by simp;omega
 have g3:decide (blocks<0)=false:=by simp;omega
 have g4:decide (blocks>1000000)=false:=by simp;omega
 have hh:=holding_any size blocks w.heap.size (w.alloc (.map #[] 0))
 have HM:=Lib.hid (MapF.made w)
 have HF:=Lib.hid (fresh_fits h1 h2)
 clear h1 h2
 go_enter Tryz.func22,Tryz.ntmps22
 go_wp2_with fail
 refine hh.mono ?_
 rintro e w1 ⟨rfl,hm1,hr1,hb1,hz1⟩
 have hz:(w.alloc (.map #[] 0)).heap.size=w.heap.size+1:=by simp
 rw[hz]at hm1 hr1 hb1 hz1
 have hm0:=HM.out.same (hb1.block w.heap.size (by omega))
 have HD:Hid (Dev w1 (fun k=>w.heap.size≤k∧k<w1.heap.size) (w.heap.size+1+1) (fresh size blocks) 0):=
  ⟨HF.out,w.heap.size,w.heap.size+1,.slice none 0 0,0,hr1,⟨nothing,hm0,fun x=>trivial⟩,⟨nothing,hm1,fun x=>trivial⟩,Later.nil _ _,by omega,⟨by omega,by omega⟩,⟨by omega,by omega⟩,⟨by omega,by omega⟩,fun k hk=>hk.2,Nat.le_refl _⟩
 have HB:=Lib.hid (((Below.refl w.heap.size w).alloc (Nat.le_refl _) (.map #[] 0)).trans (hb1.mono (by omega)))
 clear hm1 hr1 hb1 hm0 hz hh
 go_wp2
 go_ret2
 exact⟨w.heap.size+1+1,_,rfl,HD.out,fun k hk=>hk.1,HB.out⟩
theorem replicate_words{w:World}{g:Nat}{n:Nat}(h:Row w g 133 (List.replicate n (.int .u64 0)))(hn:0<n)(hm:n≤maxLen){G:Nat→Prop}(hg:G g):Words w G (.slice (some ⟨g,0,none⟩) n n) (List.replicate n 0):=by
 refine⟨g,n,_,by rw[List.length_replicate],h,hg,by simp,hm,by simpa using hn,fun x hx=>by rw[List.eq_of_mem_replicate hx];decide,?_⟩
 simp
theorem read_any(p:Nat)(s:St)(n:Nat)(G:Nat→Prop)(i:Int)(w:World)(h:Dev w G p s n)(hn:n<1000000)(hi:I64 i):
  Calls Tryz.prog 80 #[.pointer (some ⟨p,0,none⟩),.int .i64 i] w fun e w'=>∃v,e=.returned (.tuple #[v,.int .i64 (read s i).1])∧((read s i).1≠0→v=.slice none 0 0)∧((read s i).1=0→Words w' (fun k=>w.heap.size≤k) v (s.now i))∧
   Dev w' G p (read s i).2 (n+1)∧Far (fun k=>k=p) w w':=by
 obtain⟨_,bl0,bf0,v0,nl0,hr,_⟩:=id h
 have hh:=has_any p s bl0 bf0 v0 w i hr
 have ha:=act_any p s n G (right s i) w h hn
 have HR:Hid (read s i=begin s (right s i)):=rfl
 rw[HR.out]
 obtain⟨e1,e2,e3,e4⟩:=begin_same s (right s i)
 have HE:=Lib.hid e1
 have HE3:=Lib.hid e3
 have HE4:=Lib.hid e4
 clear e1 e2 e3 e4 hr h HR
 generalize begin s (right s i)=r at*
 obtain⟨er,s'⟩:=r
 simp only at ha HE HE3 HE4⊢
 by_cases he:er=0
 ·subst he
  go_enter Tryz.func80,Tryz.ntmps80
  go_wp2_with fail
  refine hh.mono ?_
  rintro e w1 ⟨rfl,rfl⟩
  go_wp2_with fail
  refine ha.mono ?_
  rintro e w1' ⟨rfl,hd1,hf1⟩
  obtain⟨hfit,bl,bf,v,nl,k1,k2,k3,k4,k5,k6,k7,k8,k9,k10⟩:=id hd1
  have c0:w1'.cell? ⟨p,0,none⟩=some (.int .i64 (s'.size:Int)):=k1.cell 0
  have c2:w1'.cell? ⟨p,2,none⟩=some (.map (some bl)):=k1.cell 2
  have c3:w1'.cell? ⟨p,3,none⟩=some (.map (some bf)):=k1.cell 3
  obtain⟨ff,hmf,hrf⟩:=k3
  obtain⟨fl,hml,hrl⟩:=k2
  have HMF:=Lib.hid hmf
  have HML:=Lib.hid hml
  have hrf:=hrf i
  have hrl:=hrl i
  have HD1:=Lib.hid (hd1.up (Nat.le_succ n))
  have HF1:=Lib.hid hf1
  have hsz:=hfit.size
  have hnow:s.now i=blk s'.size (over (lay nothing s'.later) s'.fl i):=by unfold St.now;rw[HE.out,HE3.out,HE4.out,lay_eq]
  have HNOW:=Lib.hid hnow
  have hlen1:∀l,lay nothing s'.later i=some l→l.length=s'.size:=fun l hl=>lay_all (fun l=>l.length=s'.size) s'.later nothing (fun _ _ h=>by cases h) (fun e he=>(hfit.later e he).2) i l hl
  have hlen2:∀l,s'.fl i=some l→l.length=s'.size:=fun l hl=>hfit.fl i l hl
  clear k1 k4 k5 k6 k7 k8 k9 k10 hmf hml hd1 hf1 hh ha hnow hfit HE HE3 HE4
  have hend:∀(v':Value) (w2:World) (l:List Nat),Below w1'.heap.size w1' w2→Words w2 (fun k=>w1'.heap.size≤k) v' l→s.now i=l→
    ((0:Int)=0→Words w2 (fun k=>w1.heap.size≤k) v' (s.now i))∧Dev w2 G p s' (n+1)∧Far (fun k=>k=p) w1 w2:=by
   intro v' w2 l hb hw hl
   refine⟨fun _=>?_,HD1.out.below hb,HF1.out.trans (Far.of_below hb fun _=>False) fun _ hf=>hf.elim⟩
   rw[hl]
   exact hw.keep (fun _ _ _ _=>rfl) fun k _ _ hk=>Nat.le_trans HF1.out.size hk
  have HEND:=Lib.hid hend
  clear hend
  rcases hff:ff i with _|vf
  ·
   rcases hlf:lay nothing s'.later i with _|l
   ·rcases hfl:fl i with _|vl
    ·
     rcases hll:s'.fl i with _|l
     ·have HL:Hid (s.now i=List.replicate s'.size 0):=by unfold Hid;rw[HNOW.out];simp[over,hlf,hll,blk]
      have HFF:=Lib.hid hff
      have HFL:=Lib.hid hfl
      obtain⟨i0,hi0,hz0,hz1,hz2⟩:=info_parts infoU
      clear hff hfl hrf hrl hlf hll hlen1 hlen2
      go_wp2_with (with_reducible refine stopAt 25 ?_)
      unfold Hid
      refine wpList_lookupF _ rfl _ _ rfl bf _ ff rfl HMF.out i hi rfl (.slice none 0 0) false (.inl ⟨rfl,rfl,HFF.out⟩) ?_
      go_wp2_with (with_reducible refine stopAt 37 ?_)
      unfold Hid
      refine wpList_lookupF _ rfl _ _ rfl bl _ fl rfl HML.out i hi rfl (.slice none 0 0) false (.inl ⟨rfl,rfl,HFL.out⟩) ?_
      go_wp2_with (with_reducible refine stopAt 47 ?_)
      unfold Hid
      refine wpList_make_row _ rfl _ _ 129 rfl 133 i0 (.int .u64 0) Tryz.underlying129 hi0 hz0 hz1 rfl .i64 .i64 _ _ s'.size rfl rfl rfl rfl (by rw[hz2];omega) (by omega) ?_
      intro w2 hr2 hb2 hs2
      obtain⟨x1,x2,x3⟩:=HEND.out _ w2 _ hb2 (replicate_words hr2 (by omega) (by unfold maxLen;omega) (Nat.le_refl _)) HL.out
      have X1:=Lib.hid x1
      have X2:=Lib.hid x2
      have X3:=Lib.hid x3
      clear x1 x2 x3 hr2 hb2 hs2
      go_wp2
      go_ret2
      exact⟨_,rfl,fun h=>absurd rfl h,X1.out,X2.out,X3.out⟩
     ·rw[hfl,hll]at hrl;exact hrl.elim
    ·
     rcases hll:s'.fl i with _|l
     ·rw[hfl,hll]at hrl;exact hrl.elim
     ·rw[hfl,hll]at hrl
      have HL:Hid (s.now i=l):=by unfold Hid;rw[HNOW.out];simp[over,hlf,hll,blk]
      have hll':=hlen2 l hll
      obtain⟨A,c,rfl,hA,hreads⟩:=Words.reads hrl
      have HFF:=Lib.hid hff
      have HFL:=Lib.hid hfl
      have hsc:=sclone_any A l.length c l w1' hreads (by omega) (by omega) (Nat.le_refl _)
      clear hff hfl hrf hrl hlf hll hlen1 hlen2 hreads hll'
      go_wp2_with (with_reducible refine stopAt 25 ?_)
      unfold Hid
      refine wpList_lookupF _ rfl _ _ rfl bf _ ff rfl HMF.out i hi rfl (.slice none 0 0) false (.inl ⟨rfl,rfl,HFF.out⟩) ?_
      go_wp2_with (with_reducible refine stopAt 37 ?_)
      unfold Hid
      refine wpList_lookupF _ rfl _ _ rfl bl _ fl rfl HML.out i hi rfl _ true (.inr ⟨HFL.out,rfl⟩) ?_
      go_wp2_with fail
      refine hsc.mono ?_
      rintro e w2 ⟨v',rfl,hw2,hb2⟩
      obtain⟨x1,x2,x3⟩:=HEND.out _ w2 _ hb2 hw2 HL.out
      have X1:=Lib.hid x1
      have X2:=Lib.hid x2
      have X3:=Lib.hid x3
      clear x1 x2 x3 hw2 hb2
      go_wp2
      go_ret2
      exact⟨_,rfl,fun h=>absurd rfl h,X1.out,X2.out,X3.out⟩
   ·rw[hff,hlf]at hrf;exact hrf.elim
  ·
   rcases hlf:lay nothing s'.later i with _|l
   ·rw[hff,hlf]at hrf;exact hrf.elim
   ·rw[hff,hlf]at hrf
    have HL:Hid (s.now i=l):=by unfold Hid;rw[HNOW.out];simp[over,hlf,blk]
    have hll':=hlen1 l hlf
    obtain⟨A,c,rfl,hA,hreads⟩:=Words.reads hrf
    have HFF:=Lib.hid hff
    have hsc:=sclone_any A l.length c l w1' hreads (by omega) (by omega) (Nat.le_refl _)
    clear hff hrf hrl hlf hlen1 hlen2 hreads hll'
    go_wp2_with (with_reducible refine stopAt 25 ?_)
    unfold Hid
    refine wpList_lookupF _ rfl _ _ rfl bf _ ff rfl HMF.out i hi rfl _ true (.inr ⟨HFF.out,rfl⟩) ?_
    go_wp2_with fail
    refine hsc.mono ?_
    rintro e w2 ⟨v',rfl,hw2,hb2⟩
    obtain⟨x1,x2,x3⟩:=HEND.out _ w2 _ hb2 hw2 HL.out
    have X1:=Lib.hid x1
    have X2:=Lib.hid x2
    have X3:=Lib.hid x3
    clear x1 x2 x3 hw2 hb2
    go_wp2
    go_ret2
    exact⟨_,rfl,fun h=>absurd rfl h,X1.out,X2.out,X3.out⟩
 ·have g:(er !=0)=true:=by simpa using he
  have HE:=Lib.hid he
  clear he
  go_enter Tryz.func80,Tryz.ntmps80
  go_wp2_with fail
  refine hh.mono ?_
  rintro e w1 ⟨rfl,rfl⟩
  go_wp2_with fail
  refine ha.mono ?_
  rintro e w1' ⟨rfl,hd1,hf1⟩
  have HD1:=Lib.hid (hd1.up (Nat.le_succ n))
  have HF1:=Lib.hid hf1
  clear hd1 hf1 hh ha
  go_wp2
  go_ret2
  exact⟨_,rfl,fun _=>rfl,fun h=>absurd h HE.out,HD1.out,HF1.out⟩
theorem infoWr:(Tryz.prog.info? 172).map (fun i=>(i.zero,i.size,i.bytes))=some (some (.agg #[.int .i64 0,.slice none 0 0]),2,32):=by kernel_rfl
theorem write_end{G:Nat→Prop}{p n bl bf nl:Nat}{s:St}{v v' u:Value}{i:Int}{l:List Nat}{w1 w2 w3 w5:World}{o:Obj}{ff:Int→Option Value}{rs:List (Int×Value)}
  (hfit:Fits s n) (hi:I64 i) (hl:l.length=s.size)
  (k1:Row w1 p 90 (cellsOf s bl bf v)) (k2:Store w1 G bl nl s.fl) (k4:Later w1 G v s.later) (k3':MapF w1 bf s.later.length ff) (k5:bl≠bf) (k6:G p) (k7:G bl) (k8:G bf) (k9:∀k,G k→k<w1.heap.size) (k10:nl+s.later.length+1≤n)
  (hrel:∀x,Rel w1 G (ff x) (lay nothing s.later x)) (hb2:Below w1.heap.size w1 w2) (hu:Words w2 (fun k=>w1.heap.size≤k) u l)
  (hm3:MapF w3 bf (s.later.length+1) (upd ff i u)) (hg3:w2.grownBy w3 (some bf))
  (hrs1:rs.length=s.later.length) (hrs2:∀(j:Nat) (r:Int×Value) (e:Int×List Nat),rs[j]?=some r→s.later[j]?=some e→r.1=e.1∧Words w1 G r.2 e.2) (hown:∀k,v.ownBlock=some k→G k)
  (hown5:w5.ownsRow 0 172 2 v' (s.later.length+1) (flatW (rs++[(i,u)]))) (hg5:(w3.alloc o).grownBy w5 v.ownBlock) (hat:v'.ownBlock=v.ownBlock∨v'.ownBlock=some (w3.alloc o).heap.size):
  ∃G',Dev (w5.setCell ⟨p,4,none⟩ v') G' p {s with later:=s.later++[(i,l)]} n∧Far G w1 (w5.setCell ⟨p,4,none⟩ v')∧∀k,G' k→G k∨w1.heap.size≤k:=by
 have hpv:v.ownBlock≠some p:=k4.not_row k1 (by decide)
 have hbv:v.ownBlock≠some bl:=k4.not_map k2
 have hst:Store w1 G bf s.later.length (lay nothing s.later):=⟨ff,k3',hrel⟩
 have hfv:v.ownBlock≠some bf:=k4.not_map hst
 have hpb:p≠bl:=k2.not_row k1
 have hpf:p≠bf:=hst.not_row k1
 have hrows:∀k cs,Row w1 k 133 cs→k≠p∧k≠bf∧v.ownBlock≠some k:=fun k cs hk=>by
  refine⟨fun e=>?_,hst.not_row hk,k4.not_row hk (by decide)⟩
  subst e;unfold Row at k1 hk;rw[k1]at hk;injection hk with hk;injection hk with _ hk;exact absurd hk (by decide)
 have F2:Far (fun k=>k=p∨k=bf∨v.ownBlock=some k) w1 w2:=Far.of_below hb2 _
 have F3:Far (fun k=>k=p∨k=bf∨v.ownBlock=some k) w1 w3:=F2.grown hg3 fun k hk=>by injection hk with hk;exact .inl (.inr (.inl hk.symm))
 have F5:Far (fun k=>k=p∨k=bf∨v.ownBlock=some k) w1 w5:=(F3.alloc o).grown hg5 fun k hk=>.inl (.inr (.inr hk))
 have F6:Far (fun k=>k=p∨k=bf∨v.ownBlock=some k) w1 (w5.setCell ⟨p,4,none⟩ v'):=F5.set (.inl (.inl rfl)) _
 have E3:Far (fun k=>v.ownBlock=some k) w3 w5:=((Far.refl _ w3).alloc o).grown hg5 fun k hk=>.inl hk
 have E2:Far (fun k=>k=bf∨v.ownBlock=some k) w2 w5:=(((Far.refl _ w2).grown hg3 fun k hk=>by injection hk with hk;exact .inl (.inl hk.symm)).alloc o).grown hg5 fun k hk=>.inl (.inr hk)
 have hz12:=hb2.size
 have hz13:=F3.size
 have hz15:=F5.size
 have h5p:Row w5 p 90 (cellsOf s bl bf v):=F2.row k1|>fun _=>by
  have h1:Row w3 p 90 (cellsOf s bl bf v):=(hg3.block p (Nat.lt_of_lt_of_le k1.lt hz12) (by intro e;injection e with e;exact hpf e)).trans (k1.below hb2 k1.lt)
  exact E3.row h1 (fun e=>hpv e)
 have h6p:Row (w5.setCell ⟨p,4,none⟩ v') p 90 (cellsOf {s with later:=s.later++[(i,l)]} bl bf v'):=by
  have:=h5p.set 4 v'
  exact this
 have z6:(w5.setCell ⟨p,4,none⟩ v').heap.size=w5.heap.size:=by simp
 have hkeep:∀k cs,Row w1 k 133 cs→G k→(w5.setCell ⟨p,4,none⟩ v').heap[k]?=w1.heap[k]?:=fun k cs hk _=>F6.block k hk.lt fun hf=>by
  obtain⟨a1,a2,a3⟩:=hrows k cs hk
  rcases hf with hf|hf|hf
  ·exact a1 hf
  ·exact a2 hf
  ·exact a3 hf
 have hu6:Words (w5.setCell ⟨p,4,none⟩ v') (fun k=>G k∨(w1.heap.size≤k∧k<w5.heap.size)) u l:=by
  refine hu.keep (fun k cs hk hg=>?_) (fun k cs hk hg=>.inr ⟨hg,Nat.lt_of_lt_of_le hk.lt (by have:=E2.size;omega)⟩)
  have hkp:k≠p:=by have:=k9 p k6;omega
  have h1:w5.heap[k]?=w2.heap[k]?:=E2.block k hk.lt fun hf=>by
   rcases hf with hf|hf
   ·have:=k9 bf k8;omega
   ·have:=k9 k (hown k hf);omega
  rw[heap_setCell_other w5 ⟨p,4,none⟩ k v' (by simpa using hkp)];exact h1
 have hfar:Far G w1 (w5.setCell ⟨p,4,none⟩ v'):=F6.mono fun b hb=>by
  rcases hb with hb|hb|hb
  ·subst hb;exact k6
  ·subst hb;exact k8
  ·exact hown b hb
 refine⟨fun k=>G k∨(w1.heap.size≤k∧k<w5.heap.size),⟨?_,bl,bf,v',nl,h6p,?_,?_,?_,k5,.inl k6,.inl k7,.inl k8,fun k hk=>?_,by simp only[List.length_append,List.length_singleton];omega⟩,hfar,fun k hk=>hk.imp_right (·.1)⟩
 ·refine⟨hfit.size,hfit.blocks,hfit.fn,hfit.tn,hfit.acts,hfit.small,fun e he=>?_,hfit.fl⟩
  rcases List.mem_append.1 he with he|he
  ·exact hfit.later e he
  ·rw[List.mem_singleton.1 he];exact⟨hi,hl⟩
 ·refine k2.keep (F6.block bl (k9 bl k7) fun hf=>?_) hkeep (fun k _ _ hk=>.inl hk)
  rcases hf with hf|hf|hf
  ·exact hpb hf.symm
  ·exact k5 hf
  ·exact hbv hf
 ·refine⟨upd ff i u,?_,fun x=>?_⟩
  ·rw[List.length_append,List.length_singleton]
   refine hm3.same ?_
   rw[heap_setCell_other w5 ⟨p,4,none⟩ bf v' (by simpa using hpf.symm)]
   exact E3.block bf hm3.lt fun e=>hfv e
  ·show Rel _ _ _ (lay nothing (s.later++[(i,l)]) x)
   rw[lay_snoc]
   by_cases e:x=i
   ·subst e;rw[upd_same,upd_same];exact hu6
   ·rw[upd_other _ _ e,upd_other _ _ e]
    exact(hrel x).keep hkeep (fun k _ _ hk=>.inl hk)
 ·have hv'p:v'.ownBlock≠some p:=by
   rcases hat with h|h
   ·rw[h];exact hpv
   ·rw[h];intro e;injection e with e
    have:=k9 p k6
    simp only[World.alloc,Array.size_push]at e;omega
  refine⟨rs++[(i,u)],?_,by simp[hrs1],fun j r e hr he=>?_,fun k hk=>?_⟩
  ·rw[List.length_append,List.length_singleton]
   exact ownsRow_same hown5 fun k hk=>heap_setCell_other w5 ⟨p,4,none⟩ k v' (by intro e;simp only at e;subst e;exact hv'p hk)
  ·by_cases hj:j<rs.length
   ·rw[List.getElem?_append_left hj]at hr
    rw[List.getElem?_append_left (by omega)]at he
    obtain⟨a1,a2⟩:=hrs2 j r e hr he
    exact⟨a1,a2.keep hkeep (fun k _ _ hk=>.inl hk)⟩
   ·rw[List.getElem?_append_right (by omega)]at hr
    rw[List.getElem?_append_right (by omega)]at he
    have hj0:j=rs.length:=by
     rcases Nat.lt_or_ge (j-rs.length) 1 with h1|h1
     ·omega
     ·rw[List.getElem?_eq_none (by simpa using h1)]at hr;cases hr
    subst hj0
    rw[Nat.sub_self]at hr
    rw[hrs1,Nat.sub_self]at he
    simp at hr he
    subst hr;subst he
    exact⟨rfl,hu6⟩
  ·rcases hat with h|h
   ·exact .inl (hown k (by rw[←h];exact hk))
   ·refine .inr ⟨?_,?_⟩
    ·rw[h]at hk;injection hk with hk;subst hk
     simp only[World.alloc,Array.size_push];omega
    ·exact(hown5.lt k hk).2
 ·rcases hk with hk|hk
  ·have:=k9 k hk;rw[z6];omega
  ·rw[z6];exact hk.2
theorem Row.no_words{w:World}{p:Nat}{s:St}{bl bf:Nat}{A:Option Addr}{n c:Nat}(hr:Row w p 90 (cellsOf s bl bf (.slice A n c)))(i:Nat)(x:Int):w.cell? ⟨p,i,none⟩≠some (.int .u64 x):=by
 intro h
 rw[hr.cell i]at h
 have:=List.mem_of_getElem? h
 simp[cellsOf]at this
theorem Reads.far{k:IntKind}{w w1:World}{B:Nat}{A:Option Addr}{n:Nat}{l:List Nat}{F:Nat→Prop}(h:Reads k w B A n l)(hB:B≤w.heap.size)(hf:Far F w w1)(hF:0<n→∀b off,A=some ⟨b,off,none⟩→¬F b):Reads k w1 B A n l:=by
 obtain⟨h1,h2,h3⟩:=h
 refine⟨h1,h2,fun hn=>?_⟩
 obtain⟨b,off,hA,hb,hc⟩:=h3 hn
 refine⟨b,off,hA,hb,fun i hi=>?_⟩
 rw[World.cell?_of_block (w:=w) (w':=w1) (hf.block b (by omega) (hF hn b off hA))]
 exact hc i hi
theorem begin_false(s:St):(begin s false).1≠0:=by
 unfold begin
 by_cases h:s.down=true
 ·rw[if_pos h];exact fun h=>absurd h (by decide:¬((8:Int)=0))
 ·rw[if_neg h,if_pos rfl];exact fun h=>absurd h (by decide:¬((1:Int)=0))
theorem write_any(p:Nat)(s:St)(n:Nat)(G:Nat→Prop)(i:Int)(A:Option Addr)(m c:Nat)(l:List Nat)(w:World){B:Nat}(h:Dev w G p s n)(hn:n<1000000)(hi:I64 i)(hl:Reads .u64 w B A m l)(hB:B≤w.heap.size):
  Calls Tryz.prog 90 #[.pointer (some ⟨p,0,none⟩),.int .i64 i,.slice A m c] w fun e w'=>e=.returned (.int .i64 (write s i l).1)∧∃G',Dev w' G' p (write s i l).2 (n+1)∧Far G w w'∧∀k,G' k→G k∨w.heap.size≤k:=by
 obtain⟨_,bl0,bf0,v0,nl0,hr,_,_,hla,_⟩:=id h
 obtain⟨A0,q0,rfl⟩:=hla.form
 have hh:=has_any p s bl0 bf0 _ w i hr
 have c0:w.cell? ⟨p,0,none⟩=some (.int .i64 (s.size:Int)):=hr.cell 0
 have hlen:=hl.1
 have ha:=act_any p s n G (right s i&&decide (l.length=s.size)) w h hn
 have HMINE:=Lib.hid h.mine
 have HSZ:=Lib.hid h.fits.size
 have HR:Hid (write s i l=if (begin s (right s i&&decide (l.length=s.size))).1=0 then (0,{(begin s (right s i&&decide (l.length=s.size))).2 with later:=s.later++[(i,l)]})else begin s (right s i&&decide (l.length=s.size))):=rfl
 rw[HR.out]
 obtain⟨e1,e2,e3,e4⟩:=begin_same s (right s i&&decide (l.length=s.size))
 have HE:=Lib.hid e1
 have HE3:=Lib.hid e3
 have HE4:=Lib.hid e4
 have H0:Hid ((begin s (right s i&&decide (l.length=s.size))).1=0→right s i=true∧l.length=s.size):=by
  intro h0
  rcases hb:(right s i&&decide (l.length=s.size))with _| _
  ·rw[hb]at h0;exact absurd h0 (begin_false s)
  ·simpa using hb
 have HRD:Hid (∀w1,Far (fun k=>k=p) w w1→Reads .u64 w1 B A m l):=fun w1 hf=>hl.far hB hf fun hm b off hA hb=>by
  obtain⟨_,_,h3⟩:=hl
  obtain⟨b',off',hA',_,hc⟩:=h3 hm
  rw[hA]at hA';injection hA' with hA';injection hA' with hA1 hA2;subst hA1;subst hA2
  subst hb
  exact hr.no_words _ _ (hc 0 hm)
 clear e1 e2 e3 e4 hr h HR hla
 generalize hbb:(right s i&&decide (l.length=s.size))=b at*
 generalize begin s b=r at*
 obtain⟨er,s'⟩:=r
 simp only at ha HE HE3 HE4 H0⊢
 have HLEN:=Lib.hid hlen
 have HBB:=Lib.hid hbb
 clear hl hlen hbb
 by_cases hri:right s i=true
 ·rw[hri]at hh
  have gb:((m:Int)==(s.size:Int))=b:=by
   rw[←HBB.out,hri,HLEN.out]
   by_cases e:m=s.size
   ·subst e;simp
   ·have:¬((m:Int)=(s.size:Int)):=by omega
    simp[e,this]
  clear hri HBB
  by_cases he:er=0
  ·subst he
   rw[if_pos rfl]
   go_enter Tryz.func90,Tryz.ntmps90
   go_wp2_with fail
   refine hh.mono ?_
   rintro e w1 ⟨rfl,rfl⟩
   go_wp2_with fail
   refine ha.mono ?_
   rintro e w1' ⟨rfl,hd1,hf1⟩
   obtain⟨hfit,bl,bf,v,nl,k1,k2,k3,k4,k5,k6,k7,k8,k9,k10⟩:=id hd1
   have hsz:=HSZ.out
   have hlen2:=(H0.out (by trivial)).2
   have hm:=HLEN.out
   have hsc:=sclone_any A m c l w1' (HRD.out _ hf1) (by omega) (by omega) (Nat.le_trans hB hf1.size)
   obtain⟨ff,k3',hrel⟩:=k3
   obtain⟨A1,q1,rfl⟩:=k4.form
   obtain⟨rs,o1,o2,o3,o4⟩:=id k4
   have c3:w1'.cell? ⟨p,3,none⟩=some (.map (some bf)):=k1.cell 3
   have HEND:=Lib.hid (fun(w2 w3 w5:World) (o:Obj) (v' u:Value) (hb2:Below w1'.heap.size w1' w2) (hu:Words w2 (fun k=>w1'.heap.size≤k) u l) (hm3:MapF w3 bf (s'.later.length+1) (upd ff i u)) (hg3:w2.grownBy w3 (some bf)) (hown5:w5.ownsRow 0 172 2 v' (s'.later.length+1) (flatW (rs++[(i,u)]))) (hg5:(w3.alloc o).grownBy w5 (Value.slice A1 s'.later.length q1).ownBlock) hat=>write_end hfit hi (by rw[HE.out];exact hlen2) k1 k2 k4 k3' k5 k6 k7 k8 k9 (by omega) hrel hb2 hu hm3 hg3 o2 o3 o4 hown5 hg5 hat)
   have HK1:=Lib.hid k1
   have HOW:=Lib.hid o1
   have HBV:Hid ((Value.slice A1 s'.later.length q1).ownBlock≠some bf∧bf≠p∧bf<w1'.heap.size):=⟨k4.not_map (⟨ff,k3',hrel⟩:Store w1' G bf _ _),fun e=>k3'.not_row k1 e.symm,k9 bf k8⟩
   have HMF:=Lib.hid k3'
   have HF1:=Lib.hid hf1
   have hk10:s'.later.length≤1000000:=by omega
   have HVP:Hid ((Value.slice A1 s'.later.length q1).ownBlock≠some p):=k4.not_row k1 (by decide)
   have HOWL:=Lib.hid o1.lt
   clear k1 k2 k3' k4 k5 k6 k7 k8 k9 k10 hrel o1 o2 o3 o4 hd1 hf1 hfit
   go_wp2_with fail
   refine hsc.mono ?_
   rintro e w2 ⟨u,rfl,hw2,hb2⟩
   have HK2:=Lib.hid (HK1.out.below hb2 HK1.out.lt)
   have c3:w2.cell? ⟨p,3,none⟩=some (.map (some bf)):=HK2.out.cell 3
   have hm2:=HMF.out.same (hb2.block bf HBV.out.2.2)
   have HO2:=Lib.hid (ownsRow_same HOW.out fun k hk=>hb2.block k (HOWL.out k hk).2)
   have HB2:=Lib.hid hb2
   have HW2:=Lib.hid hw2
   obtain⟨D,hD,hFn⟩:=hm2
   have HD:=Lib.hid hD
   have HFN:=Lib.hid hFn
   obtain⟨Au,mu,cu,hu⟩:∃Au mu cu,u=.slice Au mu cu:=by obtain⟨g,cc,cs,hv,_⟩:=hw2;exact⟨_,_,_,hv⟩
   subst hu
   clear hsc hb2 hw2 hD hFn
   go_wp2_with (with_reducible refine stopMap ?_)
   unfold Hid
   refine wpList_mapUpdate_own _ rfl _ _ _ 87 rfl 3 129 law Tryz.underlying87 keepV bf _ D rfl HD.out (by unfold maxLen;omega) _ _ _ rfl rfl (keyI hi) (.held _) [] rfl ?_
   intro w3 hD3 hg3
   have HM3:Hid (MapF w3 bf (s'.later.length+1) (upd ff i (.slice Au mu cu))):=⟨_,hD3,HFN.out.put hi _⟩
   have HG3:=Lib.hid hg3
   have hr3:Row w3 p 90 (cellsOf s' bl bf (.slice A1 s'.later.length q1)):=(hg3.block p HK2.out.lt (by intro e;injection e with e;exact HBV.out.2.1 e.symm)).trans HK2.out
   have c4:w3.cell? ⟨p,4,none⟩=some (.slice A1 s'.later.length q1):=hr3.cell 4
   have f4:=hr3.free 4
   have HR3:=Lib.hid hr3
   have HO3:=Lib.hid (ownsRow_same HO2.out fun k hk=>hg3.block k (Nat.lt_of_lt_of_le (HOWL.out k hk).2 HB2.out.size) (by intro e;injection e with e;subst e;exact HBV.out.1 hk))
   clear hD3 hg3 hr3 c3
   obtain⟨i0,hi0,hz0,hz1,hz2⟩:=info_parts infoWr
   go_wp2_with (with_reducible refine stopAt 43 ?_)
   unfold Hid
   refine wpList_append_own_at _ rfl _ _ 88 rfl 0 172 i0 (.agg #[.int .i64 0,.slice none 0 0]) 2 32 Tryz.underlying88 hi0 hz0 hz1 hz2 rfl (by omega) (.slice A1 s'.later.length q1) s'.later.length (flatW rs) rfl (HO3.out.alloc _) ⟨w3.heap.size,0,none⟩ 1 1 [.int .i64 i,.slice Au mu cu] rfl rfl ?_ (by simp[Value.oneCell']) (by unfold maxLen;omega) (by omega) (by omega) ?_
   ·intro j v hj
    match j,hj with
    |0,hj=>simp at hj;subst hj;simp[Addr.add]
    |1,hj=>simp at hj;subst hj;simp[Addr.add]
   intro v' w5 hown5 hg5 _ hat
   have hown5':w5.ownsRow 0 172 2 v' (s'.later.length+1) (flatW (rs++[(i,.slice Au mu cu)])):=by rw[flatW_append];exact hown5
   obtain⟨G',hd6,hf6,hg6⟩:=HEND.out w2 w3 w5 _ v' _ HB2.out HW2.out HM3.out HG3.out hown5' hg5 hat
   have hr5:Row w5 p 90 (cellsOf s' bl bf (.slice A1 s'.later.length q1)):=(hg5.block p (by have:=HR3.out.lt;simp only[World.alloc,Array.size_push];omega) (fun e=>HVP.out e.symm)).trans (HR3.out.alloc _)
   have c4:w5.cell? ⟨p,4,none⟩=some (.slice A1 s'.later.length q1):=hr5.cell 4
   have f4:=hr5.free 4
   obtain⟨A5,c5,rfl⟩:∃A5 c5,v'=.slice A5 (s'.later.length+1) c5:=by
    rcases hown5.2 with⟨rfl,h0⟩|⟨g,cap,cur,rfl,_⟩
    ·omega
    ·exact⟨_,_,rfl⟩
   have HD6:=Lib.hid hd6
   have HF6:=Lib.hid hf6
   have HG6:=Lib.hid hg6
   clear hd6 hf6 hg6 hr5 hown5 hown5' hg5 hat
   go_wp2
   go_ret
   refine⟨rfl,G',?_,?_,fun k hk=>?_⟩
   ·rw[←HE4.out];exact HD6.out
   ·exact(HF1.out.mono fun b hb=>by subst hb;exact HMINE.out).trans HF6.out fun b hb=>.inl hb
   ·rcases HG6.out k hk with h|h
    ·exact .inl h
    ·exact .inr (Nat.le_trans HF1.out.size h)
  ·have g:(er !=0)=true:=by simpa using he
   rw[if_neg he]
   clear he
   go_enter Tryz.func90,Tryz.ntmps90
   go_wp2_with fail
   refine hh.mono ?_
   rintro e w1 ⟨rfl,rfl⟩
   go_wp2_with fail
   refine ha.mono ?_
   rintro e w1' ⟨rfl,hd1,hf1⟩
   have HD1:=Lib.hid (hd1.up (Nat.le_succ n))
   have HF1:=Lib.hid hf1
   clear hd1 hf1 hh ha
   go_wp2
   go_ret
   exact⟨rfl,G,HD1.out,HF1.out.mono fun b hb=>by subst hb;exact HMINE.out,fun k hk=>.inl hk⟩
 ·have hri':right s i=false:=by simpa using hri
  have hb0:b=false:=by rw[←HBB.out,hri'];rfl
  have he:er≠0:=fun e=>by have:=(H0.out e).1;rw[hri']at this;cases this
  have g:(er !=0)=true:=by simpa using he
  rw[if_neg he]
  subst hb0
  rw[hri']at hh
  clear he hri hri' HBB
  go_enter Tryz.func90,Tryz.ntmps90
  go_wp2_with fail
  refine hh.mono ?_
  rintro e w1 ⟨rfl,rfl⟩
  go_wp2_with fail
  refine ha.mono ?_
  rintro e w1' ⟨rfl,hd1,hf1⟩
  have HD1:=Lib.hid (hd1.up (Nat.le_succ n))
  have HF1:=Lib.hid hf1
  clear hd1 hf1 hh ha
  go_wp2
  go_ret
  exact⟨rfl,G,HD1.out,HF1.out.mono fun b hb=>by subst hb;exact HMINE.out,fun k hk=>.inl hk⟩
def findAt:List (Nat×Nat)→Nat→Nat→Option (Nat×Nat)
 |[],_,_=>none
 |q::l,x,i=>if q.1=x then some (i,q.2)else findAt l x (i+1)
def wordsAt:List (Nat×Nat)→Nat→Option Nat
 |[],_=>none
 |q::l,x=>if q.1=x then some q.2 else wordsAt l x
def without:List (Nat×Nat)→Nat→List (Nat×Nat)
 |[],_=>[]
 |q::l,x=>if q.1=x then l else q::without l x
def total:List (Nat×Nat)→Nat
 |[]=>0
 |q::l=>q.2+total l
theorem findAt_none:∀(l:List (Nat×Nat)) (x i:Nat),wordsAt l x=none→findAt l x i=none
 |[],_,_,_=>rfl
 |q::l,x,i,h=>by
  unfold wordsAt at h;unfold findAt
  by_cases e:q.1=x
  ·rw[if_pos e]at h;cases h
  ·rw[if_neg e]at h⊢;exact findAt_none l x _ h
theorem findAt_some:∀(l:List (Nat×Nat)) (x i n:Nat),wordsAt l x=some n→∃j,findAt l x i=some (i+j,n)∧j<l.length∧l.eraseIdx j=without l x
 |[],_,_,_,h=>by cases h
 |q::l,x,i,n,h=>by
  unfold wordsAt at h;unfold findAt without
  by_cases e:q.1=x
  ·rw[if_pos e]at h⊢
   injection h with h;subst h
   exact⟨0,rfl,by simp,by simp[e]⟩
  ·rw[if_neg e]at h⊢
   obtain⟨j,h1,h2,h3⟩:=findAt_some l x (i+1) n h
   refine⟨j+1,by rw[h1];congr 2;omega,by simp;omega,?_⟩
   rw[if_neg e,List.eraseIdx_cons_succ,h3]
theorem wordsAt_le:∀(l:List (Nat×Nat)) (x n:Nat),wordsAt l x=some n→total (without l x)+n=total l
 |[],_,_,h=>by cases h
 |q::l,x,n,h=>by
  unfold wordsAt at h;unfold without
  by_cases e:q.1=x
  ·rw[if_pos e]at h⊢
   injection h with h;subst h
   show total l+q.2=q.2+total l;omega
  ·rw[if_neg e]at h⊢
   have:=wordsAt_le l x n h
   show q.2+total (without l x)+n=q.2+total l;omega
theorem total_snoc:∀(l:List (Nat×Nat)) (x n:Nat),total (l++[(x,n)])=total l+n
 |[],_,n=>by show n+0=0+n;omega
 |q::l,x,n=>by show q.2+total (l++[(x,n)])=q.2+total l+n;rw[total_snoc l x n];omega
theorem wordsAt_mem:∀(l:List (Nat×Nat)) (x n:Nat),wordsAt l x=some n→(x,n)∈l
 |[],_,_,h=>by cases h
 |q::l,x,n,h=>by
  unfold wordsAt at h
  by_cases e:q.1=x
  ·rw[if_pos e]at h;injection h with h;subst h;subst e;exact List.mem_cons_self
  ·rw[if_neg e]at h;exact List.mem_cons_of_mem _ (wordsAt_mem l x n h)
theorem wordsAt_fresh:∀(l:List (Nat×Nat)) (x:Nat),(∀q∈l,q.1≠x)→wordsAt l x=none
 |[],_,_=>rfl
 |q::l,x,h=>by
  unfold wordsAt
  rw[if_neg (h q List.mem_cons_self)]
  exact wordsAt_fresh l x fun r hr=>h r (List.mem_cons_of_mem _ hr)
theorem without_mem:∀(l:List (Nat×Nat)) (x:Nat) (q:Nat×Nat),q∈without l x→q∈l
 |[],_,_,h=>h
 |r::l,x,q,h=>by
  unfold without at h
  by_cases e:r.1=x
  ·rw[if_pos e]at h;exact List.mem_cons_of_mem _ h
  ·rw[if_neg e]at h
   rcases List.mem_cons.1 h with h|h
   ·rw[h];exact List.mem_cons_self
   ·exact List.mem_cons_of_mem _ (without_mem l x q h)
structure Ar where
 room:Nat
 used:Nat
 peak:Nat
 st:List (Nat×Nat)
def empty(room:Nat):Ar:=⟨room,0,0,[]⟩
def grant(s:Ar)(b n:Nat):Ar:={s with used:=s.used+n,peak:=if s.peak<s.used+n then s.used+n else s.peak,st:=s.st++[(b,n)]}
def release(s:Ar)(b n:Nat):Ar:={s with used:=s.used-n,st:=without s.st b}
structure Sound (s:Ar):Prop where
 used:s.used=total s.st
 peak:s.used≤s.peak∧s.peak≤s.room
 room:s.room≤9223372036854775807
theorem empty_sound{room:Nat}(h:room≤9223372036854775807):Sound (empty room):=⟨rfl,⟨Nat.le_refl _,Nat.zero_le _⟩,h⟩
theorem grant_sound{s:Ar}(h:Sound s)(b:Nat){n:Nat}(hn:n≤s.room-s.used):Sound (grant s b n):=by
 have h1:=h.peak
 refine⟨?_,⟨?_,?_⟩,h.room⟩
 ·show s.used+n=total (s.st++[(b,n)]);rw[total_snoc,h.used]
 ·show s.used+n≤if s.peak<s.used+n then s.used+n else s.peak
  split<;>omega
 ·show (if s.peak<s.used+n then s.used+n else s.peak)≤s.room
  split<;>omega
theorem release_sound{s:Ar}(h:Sound s){b n:Nat}(hb:wordsAt s.st b=some n):Sound (release s b n):=by
 have h1:=h.peak
 have h2:=wordsAt_le s.st b n hb
 have h3:=h.used
 refine⟨?_,⟨?_,h1.2⟩,h.room⟩
 ·show s.used-n=total (without s.st b);omega
 ·show s.used-n≤s.peak;omega
theorem release_le{s:Ar}(h:Sound s){b n:Nat}(hb:wordsAt s.st b=some n):n≤s.used:=by
 have h2:=wordsAt_le s.st b n hb
 have h3:=h.used
 omega
def ptr(b:Nat):Value:=.pointer (some ⟨b,0,none⟩)
def Buf(w:World)(b:Nat):Prop:=∃v,Row w b 132 [v]
def PMap(w:World)(b:Nat)(l:List (Nat×Nat)):Prop:=
 ∃(es:Array MapEntry) (clock:Nat),w.heap[b]?=some (.map es clock)∧es.toList.map (fun e=>(e.key,e.val))=l.map fun q=>(ptr q.1,Value.int .i64 (q.2:Int))
theorem infoBuf:(Tryz.prog.info? 132).map (fun i=>i.size)=some 1:=by kernel_rfl
theorem eql_ptr(w:World){x b:Nat}(hx:Buf w x)(hb:Buf w b):(Op.equal 122 (ptr x) (ptr b)).run Tryz.prog w=.ok (decide (b=x)) w:=by
 obtain⟨j,hj,hs⟩:∃j,Tryz.prog.info? 132=some j∧j.size=1:=by
  have h:=infoBuf
  rcases hi:Tryz.prog.info? 132 with _|i
  ·rw[hi]at h;cases h
  ·rw[hi]at h;simp at h;exact⟨i,rfl,h⟩
 obtain⟨v,hx⟩:=hx
 obtain⟨u,hb⟩:=hb
 by_cases e:b=x
 ·subst e
  have h:∀d:Nat,(Op.equalIn (d+1) 122 (ptr b) (ptr b)).run Tryz.prog w=.ok true w:=fun d=>by
   simp[ptr,Op.equalIn,run_underlying Tryz.underlying122,sizeOf,typeInfo,hj,run_sameAddr_same]
  simp[Op.equal,Op.maxDepth,h 9999]
 ·have hne:(⟨x,0,none⟩:Addr)≠⟨b,0,none⟩:=fun h=>e (by injection h with h;exact h.symm)
  have hx':w.heap[(⟨x,0,none⟩:Addr).block]?=some (.cells #[v] 132 (0,0)):=hx
  have hb':w.heap[(⟨b,0,none⟩:Addr).block]?=some (.cells #[u] 132 (0,0)):=hb
  have h:∀d:Nat,(Op.equalIn (d+1) 122 (ptr x) (ptr b)).run Tryz.prog w=.ok false w:=fun d=>by
   simp[ptr,Op.equalIn,run_underlying Tryz.underlying122,sizeOf,typeInfo,hj,hs,run_sameAddr_other w hne hx' hb']
  simp[Op.equal,Op.maxDepth,h 9999,e]
theorem run_findAsking(w:World){x:Nat}(hx:Buf w x):∀(es:List MapEntry) (l:List (Nat×Nat)) (i:Nat),es.map (fun e=>(e.key,e.val))=l.map (fun q=>(ptr q.1,Value.int .i64 (q.2:Int)))→(∀q∈l,Buf w q.1)→
  (Instr.findAsking 122 (ptr x) es i).run Tryz.prog w=.ok ((findAt l x i).map fun r=>(r.1,Value.int .i64 (r.2:Int))) w
 |[],[],i,_,_=>by simp[Instr.findAsking,findAt]
 |[],q::l,i,h,_=>by cases h
 |e::es,[],i,h,_=>by cases h
 |e::es,q::l,i,h,hl=>by
  have h0:(e.key,e.val)=(ptr q.1,Value.int .i64 (q.2:Int)):=by injection h
  have h1:es.map (fun e=>(e.key,e.val))=l.map (fun q=>(ptr q.1,Value.int .i64 (q.2:Int))):=by injection h
  have hk:e.key=ptr q.1:=by injection h0
  have hv:e.val=Value.int .i64 (q.2:Int):=by injection h0
  have hq:=eql_ptr w hx (hl q List.mem_cons_self)
  have ih:=run_findAsking w hx es l (i+1) h1 fun r hr=>hl r (List.mem_cons_of_mem _ hr)
  unfold Instr.findAsking findAt
  rw[hk]
  by_cases he:q.1=x
  ·rw[he]at hq⊢
   simp[hq,hv,Result.andThen]
  ·simp[hq,he,ih,Result.andThen]
theorem run_findKey(w:World){x:Nat}(hx:Buf w x)(es:List MapEntry)(l:List (Nat×Nat))(h:es.map (fun e=>(e.key,e.val))=l.map (fun q=>(ptr q.1,Value.int .i64 (q.2:Int))))(hl:∀q∈l,Buf w q.1):
  (Instr.findKey 122 (ptr x) es).run Tryz.prog w=.ok ((findAt l x 0).map fun r=>(r.1,Value.int .i64 (r.2:Int))) w:=by
 have hf:=run_findAsking w hx es l 0 h hl
 unfold Instr.findKey
 rcases es with _|⟨e,es⟩
 ·match l,h with
  |[],_=>simp[run_underlying Tryz.underlying122,Instr.findNow,findAt,Result.andThen]
 ·have hn:∀k i,Instr.findNow (.pointer k) (ptr x) (e::es) i=none:=fun k i=>by simp[Instr.findNow,Instr.sameNow]
  simp[run_underlying Tryz.underlying122,hn,hf,Result.andThen]
theorem run_checkPtr(w:World)(em:Bool)(b:Nat):(Instr.checkKey em 10000 122 (ptr b)).run Tryz.prog w=.ok () w:=by
 unfold Instr.checkKey
 simp[run_underlying Tryz.underlying122,Result.andThen]
theorem run_look(w:World){b x:Nat}{l:List (Nat×Nat)}(h:PMap w b l)(hx:Buf w x)(hl:∀q∈l,Buf w q.1):
  (Instr.lookup 102 (.map (some b)) (ptr x) true).run Tryz.prog w=.ok (.tuple #[.int .i64 ((wordsAt l x).getD 0:Nat),.bool (wordsAt l x).isSome]) w:=by
 obtain⟨es,clock,hb,he⟩:=h
 have hf:=run_findKey w hx es.toList l he hl
 unfold Instr.lookup
 rcases hw:wordsAt l x with _|n
 ·rw[findAt_none l x 0 hw]at hf
  simp[run_underlying Tryz.underlying102,MapKept.run_getObj_map hb,run_checkPtr,hf,Result.andThen]
 ·obtain⟨j,h1,_⟩:=findAt_some l x 0 n hw
  rw[h1]at hf
  simp[run_underlying Tryz.underlying102,MapKept.run_getObj_map hb,run_checkPtr,hf,Result.andThen]
theorem run_put(w:World){b x n:Nat}{l:List (Nat×Nat)}(h:PMap w b l)(hx:Buf w x)(hl:∀q∈l,Buf w q.1)(hn:wordsAt l x=none):
  ∃w',(Instr.mapUpdate 102 (.map (some b)) (ptr x) (.int .i64 (n:Nat))).run Tryz.prog w=.ok () w'∧PMap w' b (l++[(x,n)])∧w.grownBy w' (some b):=by
 obtain⟨es,clock,hb,he⟩:=h
 have hf:=run_findKey w hx es.toList l he hl
 rw[findAt_none l x 0 hn]at hf
 refine⟨setBlock w b (.map (es.push ⟨ptr x,.int .i64 (n:Nat),clock⟩) (clock+1)),?_,⟨_,_,heap_setBlock_same hb _,?_⟩,⟨rfl,rfl,rfl,by simp[setBlock],fun i _ hi=>heap_setBlock_other hb _ (fun e=>hi (by rw[e]))⟩⟩
 ·unfold Instr.mapUpdate
  simp[run_underlying Tryz.underlying102,MapKept.run_getObj_map hb,run_checkPtr,hf,MapKept.run_setObj_map _ hb,Result.andThen,setBlock]
 ·simp[he]
theorem run_del(w:World){b x n:Nat}{l:List (Nat×Nat)}(h:PMap w b l)(hx:Buf w x)(hl:∀q∈l,Buf w q.1)(hn:wordsAt l x=some n)(ty:TypeId):
  ∃w',(Builtin.delete_ #[102,122] ty #[.map (some b),ptr x]).run Tryz.prog w=.ok (.tuple #[]) w'∧PMap w' b (without l x)∧w.grownBy w' (some b):=by
 obtain⟨es,clock,hb,he⟩:=h
 have hf:=run_findKey w hx es.toList l he hl
 obtain⟨j,h1,h2,h3⟩:=findAt_some l x 0 n hn
 rw[h1]at hf
 refine⟨setBlock w b (.map (es.eraseIdxIfInBounds j) clock),?_,⟨_,_,heap_setBlock_same hb _,?_⟩,⟨rfl,rfl,rfl,by simp[setBlock],fun i _ hi=>heap_setBlock_other hb _ (fun e=>hi (by rw[e]))⟩⟩
 ·unfold Builtin.delete_
  simp[run_underlying Tryz.underlying102,MapKept.run_getObj_map hb,run_checkPtr,hf,MapKept.run_setObj_map _ hb,Result.andThen,setBlock]
 ·have hlen:es.toList.length=l.length:=by have:=congrArg List.length he;simpa using this
  have hj:j<es.size:=by simpa [←hlen]using h2
  have e1:(es.eraseIdxIfInBounds j).toList=es.toList.eraseIdx j:=by simp[Array.eraseIdxIfInBounds,hj]
  rw[e1,←h3,Go.ChangeMaps.map_eraseIdx,Go.ChangeMaps.map_eraseIdx,he]
theorem PMap.same{w w':World}{b:Nat}{l:List (Nat×Nat)}(h:PMap w b l)(hb:w'.heap[b]?=w.heap[b]?):PMap w' b l:=by
 obtain⟨es,clock,h1,h2⟩:=h
 exact⟨es,clock,hb.trans h1,h2⟩
theorem PMap.lt{w:World}{b:Nat}{l:List (Nat×Nat)}(h:PMap w b l):b<w.heap.size:=by
 obtain⟨es,clock,h1,h2⟩:=h
 exact(Array.getElem?_eq_some_iff.1 h1).1
theorem PMap.not_row{w:World}{b g:Nat}{l:List (Nat×Nat)}{t:TypeId}{cs:List Value}(h:PMap w b l)(hr:Row w g t cs):g≠b:=by
 obtain⟨es,clock,h1,h2⟩:=h
 intro e;subst e;unfold Row at hr;rw[h1]at hr;cases hr
theorem PMap.made(w:World):PMap (w.alloc (.map #[] 0)) w.heap.size []:=⟨#[],0,(MapKept.heap_alloc w _).1,rfl⟩
def arCells(s:Ar)(m:Option Nat):List Value:=[.int .i64 (s.room:Int),.int .i64 (s.used:Int),.int .i64 (s.peak:Int),.map m]
def Stood(w:World)(G:Nat→Prop)(m:Option Nat)(l:List (Nat×Nat)):Prop:=(m=none∧l=[])∨∃b,m=some b∧PMap w b l∧G b
def Arn(w:World)(G:Nat→Prop)(p:Nat)(s:Ar):Prop:=
 Sound s∧(∃m,Row w p 104 (arCells s m)∧Stood w G m s.st∧∀k,G k→k=p∨m=some k)∧G p∧(∀k,G k→k<w.heap.size)∧∀q∈s.st,Buf w q.1
section
variable {w w' : World} {G G' : Nat → Prop} {p : Nat} {s : Ar}
theorem Buf.lt{b:Nat}(h:Buf w b):b<w.heap.size:=by obtain⟨v,h⟩:=h;exact h.lt
theorem Buf.far{F:Nat→Prop}{b:Nat}(h:Buf w b)(hf:Far F w w')(hF:¬F b):Buf w' b:=by obtain⟨v,h⟩:=h;exact⟨v,hf.row h hF⟩
theorem Stood.keep{m:Option Nat}{l:List (Nat×Nat)}(h:Stood w G m l)(hG:∀k,G k→w'.heap[k]?=w.heap[k]?):Stood w' G m l:=by
 rcases h with h|⟨b,rfl,hb,hg⟩
 ·exact .inl h
 ·exact .inr ⟨b,rfl,hb.same (hG b hg),hg⟩
theorem Arn.lt(h:Arn w G p s){k:Nat}(hk:G k):k<w.heap.size:=h.2.2.2.1 k hk
theorem Arn.mine(h:Arn w G p s):G p:=h.2.2.1
theorem Arn.sound(h:Arn w G p s):Sound s:=h.1
theorem Arn.buf(h:Arn w G p s){q:Nat×Nat}(hq:q∈s.st):Buf w q.1:=h.2.2.2.2 q hq
theorem Row.typed{g:Nat}{t u:TypeId}{cs ds:List Value}(h:Row w g t cs)(k:Row w g u ds):t=u:=by
 unfold Row at h k;rw[h]at k;injection k with k;injection k
theorem Arn.types(h:Arn w G p s){k:Nat}{t:TypeId}{cs:List Value}(hr:Row w k t cs)(ht:t≠104):¬G k:=by
 obtain⟨h0,⟨m,h1,h2,h3⟩,_⟩:=h
 intro hk
 rcases h3 k hk with rfl|rfl
 ·exact ht (hr.typed h1)
 ·rcases h2 with⟨e,_⟩|⟨b,e,hb,_⟩
  ·cases e
  ·injection e with e;subst e;exact hb.not_row hr rfl
theorem Arn.notBuf(h:Arn w G p s){b:Nat}(hb:Buf w b):¬G b:=by obtain⟨v,hb⟩:=hb;exact h.types hb (by decide)
theorem Arn.row{F:Nat→Prop}(h:Arn w G p s)(hf:Far F w w')(hF:∀k,F k→G k){k:Nat}{t:TypeId}{cs:List Value}(hr:Row w k t cs)(ht:t≠104):Row w' k t cs:=hf.row hr fun hk=>h.types hr ht (hF k hk)
theorem Arn.keep(h:Arn w G p s)(hG:∀k,G k→w'.heap[k]?=w.heap[k]?)(hB:∀q∈s.st,Buf w q.1→Buf w' q.1)(hs:w.heap.size≤w'.heap.size):Arn w' G p s:=by
 obtain⟨h0,⟨m,h1,h2,h3⟩,h4,h5,h6⟩:=h
 exact⟨h0,⟨m,(hG p h4).trans h1,h2.keep hG,h3⟩,h4,fun k hk=>Nat.lt_of_lt_of_le (h5 k hk) hs,fun q hq=>hB q hq (h6 q hq)⟩
theorem Arn.far{F:Nat→Prop}(h:Arn w G p s)(hf:Far F w w')(hG:∀k,G k→¬F k)(hB:∀q∈s.st,¬F q.1):Arn w' G p s:=
 h.keep (fun k hk=>hf.block k (h.lt hk) (hG k hk)) (fun q hq hb=>hb.far hf (hB q hq)) hf.size
theorem Arn.below(h:Arn w G p s)(hb:Below w.heap.size w w'):Arn w' G p s:=h.far (Far.of_below hb fun _=>False) (fun _ _ hf=>hf) fun _ _ hf=>hf
theorem Arn.words{b n:Nat}(h:Arn w G p s)(hb:wordsAt s.st b=some n):n≤s.used∧s.used≤s.peak∧s.peak≤s.room∧s.room≤9223372036854775807:=⟨release_le h.1 hb,h.1.peak.1,h.1.peak.2,h.1.room⟩
end
theorem wpList_put(w:World){ops:Array Oper}{rest:List Oper}{o:Oper}{a:Act}{Q:Exit→Act→World→Prop}
  (hg:o.guard=none) (m x v:Operand) (hop:o.op=Op.mapUpdate 102 m x v) (b k n:Nat) (l:List (Nat×Nat)) (hm:a.eval m=.map (some b)) (hx:a.eval x=ptr k) (hv:a.eval v=.int .i64 (n:Nat))
  (h:PMap w b l) (hk:Buf w k) (hl:∀q∈l,Buf w q.1) (hn:wordsAt l k=none)
  (hK:∀w',PMap w' b (l++[(k,n)])→w.grownBy w' (some b)→wpList Tryz.prog ops Q rest (a.put o.dst undef) w'):
  wpList Tryz.prog ops Q (o::rest) a w:=by
 refine wpList_plain hg fun K' hK'=>?_
 obtain⟨w',hrun,r1,r2⟩:=run_put w (n:=n) h hk hl hn
 unfold Oper.wp
 simp[execOp,hop,hm,hx,hv,hrun,Result.andThen]
 exact hK' _ _ (hK w' r1 r2)
theorem wpList_del(w:World){ops:Array Oper}{rest:List Oper}{o:Oper}{a:Act}{Q:Exit→Act→World→Prop}
  (hg:o.guard=none) (m x:Operand) (hop:o.op=Op.call {callee:=Callee.builtin Builtin.delete,args:=#[m,x],argTypes:=#[102,122]}) (b k n:Nat) (l:List (Nat×Nat)) (hm:a.eval m=.map (some b)) (hx:a.eval x=ptr k)
  (h:PMap w b l) (hk:Buf w k) (hl:∀q∈l,Buf w q.1) (hn:wordsAt l k=some n)
  (hK:∀w',PMap w' b (without l k)→w.grownBy w' (some b)→wpList Tryz.prog ops Q rest (a.put o.dst (.tuple #[])) w'):
  wpList Tryz.prog ops Q (o::rest) a w:=by
 refine wpList_plain hg fun K' hK'=>?_
 obtain⟨w',hrun,r1,r2⟩:=run_del w h hk hl hn o.type
 unfold Oper.wp
 simp[execOp,hop,resolve,invoke,builtin,hm,hx,hrun,Result.andThen]
 exact hK' _ _ (hK w' r1 r2)
theorem stopDel{P:Program}{ops:Array Oper}{Q:Exit→Act→World→Prop}{rest:List Oper}{a:Act}{w:World}{m x:Operand}{ts:Array TypeId}{ty:TypeId}{pos:String}{after:Array Edge}{guard:Option (Nat×Bool)}
  (h:Hid (wpList P ops Q (⟨none,.call {callee:=.builtin .delete,args:=#[m,x],argTypes:=ts},ty,pos,after,guard⟩::rest) a w)):wpList P ops Q (⟨none,.call {callee:=.builtin .delete,args:=#[m,x],argTypes:=ts},ty,pos,after,guard⟩::rest) a w:=h
section
variable (p : Nat) (s : Ar) (m : Option Nat) (w : World)
theorem arroom_any(hr:Row w p 104 (arCells s m)):Calls Tryz.prog 88 #[.pointer (some ⟨p,0,none⟩)] w fun e w'=>e=.returned (.int .i64 (s.room:Int))∧w'=w:=by
 have c0:w.cell? ⟨p,0,none⟩=some (.int .i64 (s.room:Int)):=hr.cell 0
 go_enter Tryz.func88,Tryz.ntmps88
 go_wp2
 go_ret
 exact⟨rfl,rfl⟩
theorem arused_any(hr:Row w p 104 (arCells s m)):Calls Tryz.prog 36 #[.pointer (some ⟨p,0,none⟩)] w fun e w'=>e=.returned (.int .i64 (s.used:Int))∧w'=w:=by
 have c0:w.cell? ⟨p,1,none⟩=some (.int .i64 (s.used:Int)):=hr.cell 1
 go_enter Tryz.func36,Tryz.ntmps36
 go_wp2
 go_ret
 exact⟨rfl,rfl⟩
theorem arleft_any(hr:Row w p 104 (arCells s m))(hs:Sound s):Calls Tryz.prog 71 #[.pointer (some ⟨p,0,none⟩)] w fun e w'=>e=.returned (.int .i64 ((s.room-s.used:Nat):Int))∧w'=w:=by
 have hro:=arroom_any p s m w hr
 have hus:=arused_any p s m w hr
 have h1:=hs.peak
 have h2:=hs.room
 have hsub:(s.room:Int)-(s.used:Int)=((s.room-s.used:Nat):Int):=by omega
 have g1:(-9223372036854775808:Int)≤(s.room:Int)-(s.used:Int):=by omega
 have g2:(s.room:Int)-(s.used:Int)≤9223372036854775807:=by omega
 clear h1 h2 hs hr
 go_enter Tryz.func71,Tryz.ntmps71
 go_wp2_with fail
 refine hro.mono ?_
 rintro e w1 ⟨rfl,rfl⟩
 go_wp2_with fail
 refine hus.mono ?_
 rintro e w1 ⟨rfl,rfl⟩
 go_wp2
 go_ret
 exact⟨rfl,rfl⟩
end
theorem new_arn(w:World)(room:Nat)(h:room≤9223372036854775807):Arn (w.alloc (.cells #[.int .i64 (room:Int),.int .i64 0,.int .i64 0,.map none] 104)) (fun k=>k=w.heap.size) w.heap.size (empty room):=by
 have hr:Row (w.alloc (.cells #[.int .i64 (room:Int),.int .i64 0,.int .i64 0,.map none] 104)) w.heap.size 104 (arCells (empty room) none):=heap_alloc_new _ _
 exact⟨empty_sound h,⟨none,hr,.inl ⟨rfl,rfl⟩,fun k hk=>.inl hk⟩,rfl,fun k hk=>by subst hk;simp,fun q hq=>by cases hq⟩
theorem arnew_any(room:Int)(w:World)(h1:-9223372036854775808≤room)(h2:room≤9223372036854775807):
  Calls Tryz.prog 24 #[.int .i64 room] w fun e w'=>e=.returned (ptr w.heap.size)∧Arn w' (fun k=>k=w.heap.size) w.heap.size (empty room.toNat)∧Below w.heap.size w w':=by
 have H:=Lib.hid (new_arn w)
 have HB:=fun o=>Lib.hid ((Below.refl _ w).alloc (Nat.le_refl _) o)
 go_enter Tryz.func24,Tryz.ntmps24
 go_wp2
 ·go_ret
  have e:room.toNat=0:=by omega
  rw[e]
  exact⟨rfl,H.out 0 (by omega),(HB _).out⟩
 ·go_ret
  have e:room=(room.toNat:Int):=by omega
  have hh:=H.out room.toNat (by omega)
  rw[←e]at hh
  exact⟨rfl,hh,(HB _).out⟩
theorem arn_put{w2 w3:World}{G:Nat→Prop}{p b n bm:Nat}{s:Ar}(h0:Sound s)(hn:n≤s.room-s.used)(hb:Buf w2 b)(hbG:¬G b)(hbf:∀q∈s.st,Buf w2 q.1∧¬G q.1)(hp:G p)(hG:∀k,G k→k<w2.heap.size)(hGo:∀k,G k→k=p∨some bm=some k)
  (hm:PMap w2 bm (s.st++[(b,n)])) (hbm:G bm) (hne:bm≠p) (hr:Row w3 p 104 (arCells (grant s b n) (some bm))) (hf:Far (fun k=>k=p) w2 w3):Arn w3 G p (grant s b n):=by
 have hB:∀x,Buf w2 x→¬G x→Buf w3 x:=fun x hx hg=>hx.far hf fun e=>hg (e▸hp)
 refine⟨grant_sound h0 b hn,⟨some bm,hr,.inr ⟨bm,rfl,hm.same (hf.block bm hm.lt hne),hbm⟩,hGo⟩,hp,fun k hk=>Nat.lt_of_lt_of_le (hG k hk) hf.size,fun q hq=>?_⟩
 rcases List.mem_append.1 hq with hq|hq
 ·exact hB _ (hbf q hq).1 (hbf q hq).2
 ·have:q=(b,n):=by simpa using hq
  subst this;exact hB _ hb hbG
theorem count_tail{w2:World}{p:Nat}{s:Ar}{bm:Nat}(b n:Nat){u:Nat}(hu:s.used+n=u)(hr:Row w2 p 104 (arCells s (some bm))):
  Row ((w2.setCell ⟨p,1,none⟩ (.int .i64 (u:Int))).setCell ⟨p,2,none⟩ (.int .i64 (if s.peak<u then (u:Int)else (s.peak:Int)))).drew p 104 (arCells (grant s b n) (some bm))∧
  Far (fun k=>k=p) w2 ((w2.setCell ⟨p,1,none⟩ (.int .i64 (u:Int))).setCell ⟨p,2,none⟩ (.int .i64 (if s.peak<u then (u:Int)else (s.peak:Int)))).drew:=by
 refine⟨?_,?_⟩
 ·have h:=(hr.set 1 (.int .i64 (u:Int))).set 2 (.int .i64 (if s.peak<u then (u:Int)else (s.peak:Int)))
  have e:arCells (grant s b n) (some bm)=((arCells s (some bm)).set 1 (.int .i64 (u:Int))).set 2 (.int .i64 (if s.peak<u then (u:Int)else (s.peak:Int))):=by
   subst hu
   by_cases h:s.peak<s.used+n<;>simp[arCells,grant,h]
  rw[e];exact h
 ·exact(((Far.refl (fun k=>k=p) w2).set (p:=⟨p,1,none⟩) (.inl rfl) (.int .i64 (u:Int))).set (p:=⟨p,2,none⟩) (.inl rfl) (.int .i64 (if s.peak<u then (u:Int)else (s.peak:Int)))).drew
theorem arcount_any(p:Nat)(s:Ar)(G:Nat→Prop)(b n:Nat)(w:World)(h:Arn w G p s)(hb:Buf w b)(hfr:∀q∈s.st,q.1≠b)(hn:n≤s.room-s.used):
  Calls Tryz.prog 78 #[.pointer (some ⟨p,0,none⟩),.pointer (some ⟨b,0,none⟩),.int .i64 (n:Int)] w fun e w'=>∃G',e=.returned (.tuple #[])∧Arn w' G' p (grant s b n)∧Far G w w'∧∀k,G' k→G k∨w.heap.size≤k:=by
 have hno:=wordsAt_fresh s.st b hfr
 have hbG:=h.notBuf hb
 have hbf:=fun q hq=>And.intro (h.buf (q:=q) hq) (h.notBuf (h.buf hq))
 obtain⟨h0,⟨m,hr,hst,hGo⟩,hp,hG,_⟩:=id h
 have hmm:=@run_makeMap Tryz.prog
 have hnil:=fun w r=>run_eql_map_nil (P:=Tryz.prog) w 102 122 3 r Tryz.underlying102
 have hs1:=h0.peak
 have hs2:=h0.room
 obtain⟨u,hu⟩:∃u,s.used+n=u:=⟨_,rfl⟩
 have hadd:(s.used:Int)+(n:Int)=(u:Int):=by omega
 have HU:=Lib.hid hu
 have g1:(-9223372036854775808:Int)≤(u:Int):=by omega
 have g2:(u:Int)≤9223372036854775807:=by omega
 clear hu
 have H0:=Lib.hid h0
 have HR:=Lib.hid hr
 have HN:=Lib.hid hn
 have c3:w.cell? ⟨p,3,none⟩=some (.map m):=hr.cell 3
 have f3:=hr.free 3
 clear hr h0 h hn hs1 hs2
 rcases hst with⟨rfl,hst⟩|⟨bm,rfl,hm,hbm⟩
 ·have hp':p<w.heap.size:=hG p hp
  have hr1:Row ((w.setCell ⟨p,3,none⟩ (.map (some w.heap.size))).alloc (.map #[] 0)) p 104 (arCells s (some w.heap.size)):=(HR.out.set 3 (.map (some w.heap.size))).alloc (.map #[] 0)
  have hm1:PMap ((w.setCell ⟨p,3,none⟩ (.map (some w.heap.size))).alloc (.map #[] 0)) w.heap.size s.st:=by
   rw[hst];have:=PMap.made (w.setCell ⟨p,3,none⟩ (.map (some w.heap.size)));rwa [show (w.setCell ⟨p,3,none⟩ (.map (some w.heap.size))).heap.size=w.heap.size by simp]at this
  have hf1:Far G w ((w.setCell ⟨p,3,none⟩ (.map (some w.heap.size))).alloc (.map #[] 0)):=((Far.refl G w).set (p:=⟨p,3,none⟩) (.inl hp) _).alloc _
  have hz1:((w.setCell ⟨p,3,none⟩ (.map (some w.heap.size))).alloc (.map #[] 0)).heap.size=w.heap.size+1:=by simp
  have c3':((w.setCell ⟨p,3,none⟩ (.map (some w.heap.size))).alloc (.map #[] 0)).cell? ⟨p,3,none⟩=some (.map (some w.heap.size)):=hr1.cell 3
  have HM1:=Lib.hid hm1
  have HR1:=Lib.hid hr1
  have HF1:=Lib.hid hf1
  have HZ1:=Lib.hid hz1
  clear hm1 hr1 hf1 hz1
  go_enter Tryz.func78,Tryz.ntmps78
  go_wp2_with (with_reducible refine stopMap ?_)
  unfold Hid
  generalize(w.setCell ⟨p,3,none⟩ (.map (some w.heap.size))).alloc (.map #[] 0)=w1 at*
  have hb1:∀x,Buf w x→¬G x→Buf w1 x:=fun x hx hg=>hx.far HF1.out hg
  refine wpList_put w1 rfl _ _ _ rfl w.heap.size b n s.st rfl rfl rfl HM1.out (hb1 b hb hbG) (fun q hq=>hb1 _ (hbf q hq).1 (hbf q hq).2) hno ?_
  intro w2 hm2 hg2
  have hf2:Far (fun k=>k=w.heap.size) w1 w2:=(Far.refl _ w1).grown hg2 fun k hk=>.inl (by injection hk with hk;exact hk.symm)
  have hr2:=hf2.row HR1.out (HM1.out.not_row HR1.out)
  have HF2:=Lib.hid (HF1.out.trans hf2 fun k hk=>.inr (by omega))
  have hb2:∀x,Buf w x→¬G x→Buf w2 x:=fun x hx hg=>hx.far HF2.out hg
  have HT:=Lib.hid (count_tail b n HU.out hr2)
  have k1:w2.cell? ⟨p,1,none⟩=some (.int .i64 (s.used:Int)):=hr2.cell 1
  have k2:w2.cell? ⟨p,2,none⟩=some (.int .i64 (s.peak:Int)):=hr2.cell 2
  have f1:=hr2.free 1
  have f2:=hr2.free 2
  have hend:∀w3,Row w3 p 104 (arCells (grant s b n) (some w.heap.size))→Far (fun k=>k=p) w2 w3→∃G',Ending.returned (.tuple #[])=Ending.returned (.tuple #[])∧Arn w3 G' p (grant s b n)∧Far G w w3∧∀k,G' k→G k∨w.heap.size≤k:=by
   intro w3 hr3 hf3
   refine⟨fun k=>G k∨k=w.heap.size,rfl,?_,HF2.out.trans hf3 fun k hk=>.inl (hk▸hp),fun k hk=>hk.imp id fun e=>by omega⟩
   have hlt:∀x,Buf w x→¬G x→¬(G x∨x=w.heap.size):=fun x hx hg hh=>hh.elim hg fun e=>by have:=hx.lt;omega
   refine arn_put (G:=fun k=>G k∨k=w.heap.size) H0.out HN.out (hb2 b hb hbG) (hlt b hb hbG) (fun q hq=>⟨hb2 _ (hbf q hq).1 (hbf q hq).2,hlt _ (hbf q hq).1 (hbf q hq).2⟩) (.inl hp) (fun k hk=>?_) (fun k hk=>?_) hm2 (.inr rfl) (by omega) hr3 hf3
   ·have:=HF2.out.size
    have:=hm2.lt
    rcases hk with hk|hk
    ·have:=hG k hk;omega
    ·omega
   ·rcases hk with hk|hk
    ·exact(hGo k hk).elim .inl fun e=>by cases e
    ·exact .inr (by rw[hk])
  have HEND:=Lib.hid hend
  clear hend hm2 hg2 hf2 hr2 hb2 c3 c3' f3 hb1 hst hno hfr hbf
  go_wp2_with fail
  go_region
  go_end0
  have ht:=HT.out
  by_cases hlt:s.peak<u
  ·simp only[if_pos hlt]at ht⊢;exact HEND.out _ ht.1 ht.2
  ·simp only[if_neg hlt]at ht⊢;exact HEND.out _ ht.1 ht.2
 ·have HM:=Lib.hid hm
  go_enter Tryz.func78,Tryz.ntmps78
  go_wp2_with (with_reducible refine stopMap ?_)
  unfold Hid
  refine wpList_put _ rfl _ _ _ rfl bm b n s.st rfl rfl rfl HM.out hb (fun q hq=>(hbf q hq).1) hno ?_
  intro w2 hm2 hg2
  have hf2:Far (fun k=>k=bm) w w2:=(Far.refl _ w).grown hg2 fun k hk=>.inl (by injection hk with hk;exact hk.symm)
  have hr2:=hf2.row HR.out (HM.out.not_row HR.out)
  have HF2:Hid (Far G w w2):=hf2.mono fun k hk=>hk▸hbm
  have hb2:∀x,Buf w x→¬G x→Buf w2 x:=fun x hx hg=>hx.far HF2.out hg
  have hne:bm≠p:=fun e=>HM.out.not_row HR.out e.symm
  have HT:=Lib.hid (count_tail b n HU.out hr2)
  have k1:w2.cell? ⟨p,1,none⟩=some (.int .i64 (s.used:Int)):=hr2.cell 1
  have k2:w2.cell? ⟨p,2,none⟩=some (.int .i64 (s.peak:Int)):=hr2.cell 2
  have f1:=hr2.free 1
  have f2:=hr2.free 2
  have hend:∀w3,Row w3 p 104 (arCells (grant s b n) (some bm))→Far (fun k=>k=p) w2 w3→∃G',Ending.returned (.tuple #[])=Ending.returned (.tuple #[])∧Arn w3 G' p (grant s b n)∧Far G w w3∧∀k,G' k→G k∨w.heap.size≤k:=by
   intro w3 hr3 hf3
   exact⟨G,rfl,arn_put H0.out HN.out (hb2 b hb hbG) hbG (fun q hq=>⟨hb2 _ (hbf q hq).1 (hbf q hq).2,(hbf q hq).2⟩) hp (fun k hk=>Nat.lt_of_lt_of_le (hG k hk) HF2.out.size) hGo hm2 hbm hne hr3 hf3,HF2.out.trans hf3 fun k hk=>.inl (hk▸hp),fun k hk=>.inl hk⟩
  have HEND:=Lib.hid hend
  clear hend hm2 hg2 hf2 hr2 hb2 c3 f3 hno hfr hbf
  go_wp2_with fail
  go_region
  go_end0
  have ht:=HT.out
  by_cases hlt:s.peak<u
  ·simp only[if_pos hlt]at ht⊢;exact HEND.out _ ht.1 ht.2
  ·simp only[if_neg hlt]at ht⊢;exact HEND.out _ ht.1 ht.2
theorem arInfoU:(Tryz.prog.info? 133).map (fun i=>(i.zero,i.size,i.bytes))=some (some (.int .u64 0),1,8):=by kernel_rfl
theorem grant_no(p:Nat)(s:Ar)(G:Nat→Prop)(n:Int)(w:World)(h:Arn w G p s)(hn:n<0∨(s.room-s.used:Nat)<n):
  Calls Tryz.prog 61 #[.pointer (some ⟨p,0,none⟩),.int .i64 n] w fun e w'=>e=.returned (.tuple #[.pointer none,.int .i64 (if n<0 then 1 else 7)])∧w'=w:=by
 obtain⟨h0,⟨m,hr,hst,hGo⟩,hp,hG,hbf⟩:=h
 have hl:=arleft_any p s m w hr h0
 by_cases h1:n<0
 ·rw[if_pos h1]
  have g1:decide (n<0)=true:=by simpa using h1
  clear hl hn
  go_enter Tryz.func61,Tryz.ntmps61
  go_wp2
  go_ret2
  exact⟨rfl,rfl⟩
 ·rw[if_neg h1]
  have hn2:(s.room-s.used:Nat)<n:=by omega
  have g1:decide (n<0)=false:=by simpa using h1
  obtain⟨left,hleft⟩:∃l:Nat,s.room-s.used=l:=⟨_,rfl⟩
  rw[hleft]at hl hn2
  have g2:decide (n>(left:Int))=true:=by simpa using hn2
  clear hn hleft h1 hn2 hr
  go_enter Tryz.func61,Tryz.ntmps61
  go_wp2_with fail
  refine hl.mono ?_
  rintro e w1 ⟨rfl,rfl⟩
  go_wp2
  go_ret2
  exact⟨rfl,rfl⟩
theorem grant_any(p:Nat)(s:Ar)(G:Nat→Prop)(n:Nat)(w:World)(h:Arn w G p s)(hn:n≤s.room-s.used)(hm:n≤268435455):
  Calls Tryz.prog 61 #[.pointer (some ⟨p,0,none⟩),.int .i64 (n:Int)] w fun e w'=>∃b g G',e=.returned (.tuple #[ptr b,.int .i64 0])∧Arn w' G' p (grant s b n)∧
   Row w' b 132 [.slice (some ⟨g,0,none⟩) n n]∧Row w' g 133 (List.replicate n (.int .u64 0))∧w.heap.size≤b∧w.heap.size≤g∧b≠g∧¬G' b∧¬G' g∧Far G w w'∧∀k,G' k→G k∨w.heap.size≤k:=by
 obtain⟨h0,⟨m,hr,hst,hGo⟩,hp,hG,hbf⟩:=id h
 have hl:=arleft_any p s m w hr h0
 have HA:=Lib.hid h
 have HN:=Lib.hid hn
 have g1:decide ((n:Int)<0)=false:=by simp
 have g2:decide (s.room-s.used<n)=false:=by simp;omega
 have g3:decide ((n:Int)>268435455)=false:=by simp;omega
 obtain⟨i0,hi0,hz0,hz1,hz2⟩:=info_parts arInfoU
 have hb8:i0.bytes*n≤281474976710656:=by rw[hz2];omega
 obtain⟨left,hleft⟩:∃l:Nat,s.room-s.used=l:=⟨_,rfl⟩
 rw[hleft]at hl g2
 clear h hn hr hst h0 hleft
 go_enter Tryz.func61,Tryz.ntmps61
 go_wp2_with fail
 refine hl.mono ?_
 rintro e w1 ⟨rfl,rfl⟩
 go_wp2_with (with_reducible refine stopAt 23 ?_)
 unfold Hid
 refine wpList_make_row _ rfl _ _ 129 rfl 133 i0 (.int .u64 0) Tryz.underlying129 hi0 hz0 hz1 rfl .i64 .i64 _ _ n rfl rfl rfl rfl hb8 (by omega) ?_
 intro w2 hr2 hb2 hs2
 have hr3:Row (w2.alloc (.cells #[.slice (some ⟨w1.heap.size,0,none⟩) n n] 132)) w2.heap.size 132 [.slice (some ⟨w1.heap.size,0,none⟩) n n]:=heap_alloc_new _ _
 have hb3:=hb2.trans (((Below.refl _ w2).alloc (Nat.le_refl _) (.cells #[.slice (some ⟨w1.heap.size,0,none⟩) n n] 132)).mono (by omega))
 have hz3:(w2.alloc (.cells #[.slice (some ⟨w1.heap.size,0,none⟩) n n] 132)).heap.size=w1.heap.size+2:=by simp[hs2]
 have hgr:Row (w2.alloc (.cells #[.slice (some ⟨w1.heap.size,0,none⟩) n n] 132)) w1.heap.size 133 (List.replicate n (.int .u64 0)):=hr2.alloc _
 have ha3:=HA.out.below hb3
 have hno:∀k,G k→k<w1.heap.size:=hG
 have hcnt:=arcount_any p s G w2.heap.size n _ ha3 ⟨_,hr3⟩ (fun q hq e=>by have:=(hbf q hq).lt;omega) HN.out
 have HR3:=Lib.hid hr3
 have HB3:=Lib.hid hb3
 have HGR:=Lib.hid hgr
 have HZ3:=Lib.hid hz3
 have HS2:=Lib.hid hs2
 clear hr3 hb3 hgr hz3 ha3 hr2 hb2 hs2 hbf hl hi0 hz0 hz1 hz2 hb8
 go_wp2_with fail
 refine hcnt.mono ?_
 rintro e w4 ⟨G',rfl,ha4,hf4,hG4⟩
 have hs2:=HS2.out
 have hz3:=HZ3.out
 have hb4:=hf4.row HR3.out (fun hg=>by have:=hG _ hg;omega)
 have hg4:=hf4.row HGR.out (fun hg=>by have:=hG _ hg;omega)
 have HEND:Hid (Arn w4 G' p (grant s w2.heap.size n)∧Row w4 w2.heap.size 132 [.slice (some ⟨w1.heap.size,0,none⟩) n n]∧Row w4 w1.heap.size 133 (List.replicate n (.int .u64 0))∧w1.heap.size≤w2.heap.size∧w1.heap.size≤w1.heap.size∧w2.heap.size≠w1.heap.size∧¬G' w2.heap.size∧¬G' w1.heap.size∧Far G w1 w4∧∀k,G' k→G k∨w1.heap.size≤k):=by
  have hnG:∀x,G' x→¬G x→w1.heap.size+2≤x:=fun x hx hg=>(hG4 x hx).elim (fun h=>absurd h hg) fun h=>by omega
  refine⟨ha4,hb4,hg4,by omega,Nat.le_refl _,by omega,fun h=>?_,fun h=>?_,(Far.of_below HB3.out G).trans hf4 fun k hk=>.inl hk,fun k hk=>(hG4 k hk).imp id fun h=>by omega⟩
  ·by_cases hg:G w2.heap.size
   ·have:=hG _ hg;omega
   ·have:=hnG _ h hg;omega
  ·by_cases hg:G w1.heap.size
   ·have:=hG _ hg;omega
   ·have:=hnG _ h hg;omega
 clear ha4 hf4 hG4 hb4 hg4 hcnt hs2 hz3 HR3 HB3 HGR HZ3 HS2
 go_wp2
 go_ret2
 exact⟨_,_,_,rfl,HEND.out⟩
theorem release_any(p:Nat)(s:Ar)(G:Nat→Prop)(b n:Nat)(w:World)(h:Arn w G p s)(hb:Buf w b)(hn:wordsAt s.st b=some n):
  Calls Tryz.prog 64 #[.pointer (some ⟨p,0,none⟩),.pointer (some ⟨b,0,none⟩)] w fun e w'=>e=.returned (.bool true)∧Arn w' G p (release s b n)∧Row w' b 132 [.slice none 0 0]∧Far (fun k=>G k∨k=b) w w':=by
 have hw:=h.words hn
 have hbG:=h.notBuf hb
 have hbf:=fun q hq=>And.intro (h.buf (q:=q) hq) (h.notBuf (h.buf hq))
 obtain⟨h0,⟨m,hr,hst,hGo⟩,hp,hG,_⟩:=id h
 rcases hst with⟨rfl,hst⟩|⟨bm,rfl,hm,hbm⟩
 ·rw[hst]at hn;cases hn
 have c3:w.cell? ⟨p,3,none⟩=some (.map (some bm)):=hr.cell 3
 have hlook:(Instr.lookup 102 (.map (some bm)) (.pointer (some ⟨b,0,none⟩)) true).run Tryz.prog w=.ok (.tuple #[.int .i64 (n:Int),.bool true]) w:=by
  have:=run_look w hm hb fun q hq=>(hbf q hq).1
  rw[hn]at this;exact this
 have hne:bm≠p:=fun e=>hm.not_row hr e.symm
 have HM:=Lib.hid hm
 have HR:=Lib.hid hr
 have H0:=Lib.hid h0
 have HNN:=Lib.hid hn
 obtain⟨u,hu⟩:∃u,s.used-n=u:=⟨_,rfl⟩
 have hsub:(s.used:Int)-(n:Int)=(u:Int):=by omega
 have g1:(-9223372036854775808:Int)≤(u:Int):=by omega
 have g2:(u:Int)≤9223372036854775807:=by omega
 have HU:=Lib.hid hu
 clear hu hr hm h h0 hn hw
 go_enter Tryz.func64,Tryz.ntmps64
 go_wp2_with (with_reducible refine stopDel ?_)
 unfold Hid
 refine wpList_del _ rfl _ _ rfl bm b n s.st rfl rfl HM.out hb (fun q hq=>(hbf q hq).1) HNN.out ?_
 intro w2 hm2 hg2
 have hf2:Far (fun k=>k=bm) w w2:=(Far.refl _ w).grown hg2 fun k hk=>.inl (by injection hk with hk;exact hk.symm)
 have hr2:=hf2.row HR.out (HM.out.not_row HR.out)
 obtain⟨v,hv⟩:=hb
 have hb2:=hf2.row hv (HM.out.not_row hv)
 have k1:w2.cell? ⟨p,1,none⟩=some (.int .i64 (s.used:Int)):=hr2.cell 1
 have f1:=hr2.free 1
 have fb:=hb2.free 0
 have kb:w2.cell? ⟨b,0,none⟩=some v:=hb2.cell 0
 have hbp:b≠p:=fun e=>hbG (e▸hp)
 have hpb:p≠b:=fun e=>hbp e.symm
 have hend:Arn ((w2.setCell ⟨p,1,none⟩ (.int .i64 (u:Int))).setCell ⟨b,0,none⟩ (.slice none 0 0)) G p (release s b n)∧Row ((w2.setCell ⟨p,1,none⟩ (.int .i64 (u:Int))).setCell ⟨b,0,none⟩ (.slice none 0 0)) b 132 [.slice none 0 0]∧
   Far (fun k=>G k∨k=b) w ((w2.setCell ⟨p,1,none⟩ (.int .i64 (u:Int))).setCell ⟨b,0,none⟩ (.slice none 0 0)):=by
  have hr3:Row ((w2.setCell ⟨p,1,none⟩ (.int .i64 (u:Int))).setCell ⟨b,0,none⟩ (.slice none 0 0)) p 104 (arCells (release s b n) (some bm)):=by
   have e:arCells (release s b n) (some bm)=(arCells s (some bm)).set 1 (.int .i64 (u:Int)):=by rw[←HU.out];rfl
   rw[e];exact(hr2.set 1 _).far (fun e=>hbp e.symm) _
  have hr4:Row ((w2.setCell ⟨p,1,none⟩ (.int .i64 (u:Int))).setCell ⟨b,0,none⟩ (.slice none 0 0)) b 132 [.slice none 0 0]:=(hb2.far (p:=⟨p,1,none⟩) hbp _).set 0 _
  have hf4:Far (fun k=>G k∨k=b) w ((w2.setCell ⟨p,1,none⟩ (.int .i64 (u:Int))).setCell ⟨b,0,none⟩ (.slice none 0 0)):=((hf2.mono fun k hk=>.inl (hk▸hbm)).set (p:=⟨p,1,none⟩) (.inl (.inl hp)) _).set (p:=⟨b,0,none⟩) (.inl (.inr rfl)) _
  refine⟨⟨release_sound H0.out HNN.out,⟨some bm,hr3,.inr ⟨bm,rfl,hm2.same ?_,hbm⟩,hGo⟩,hp,fun k hk=>Nat.lt_of_lt_of_le (hG k hk) hf4.size,fun q hq=>?_⟩,hr4,hf4⟩
  ·rw[heap_setCell_other _ ⟨b,0,none⟩ _ _ (show bm≠b from fun e=>hbG (e▸hbm)),heap_setCell_other _ ⟨p,1,none⟩ _ _ (show bm≠p from hne)]
  ·have hq':=hbf q (without_mem _ _ _ hq)
   by_cases e:q.1=b
   ·rw[e];exact⟨_,hr4⟩
   ·exact hq'.1.far hf4 fun h=>h.elim hq'.2 e
 have HEND:=Lib.hid hend
 clear hend hm2 hg2 hf2 hr2 hb2 hv c3 hlook hbf
 go_wp2
 go_ret
 exact⟨rfl,HEND.out⟩
theorem below_drew{B:Nat}{a w:World}(h:Below B a w):Below B a w.drew:=⟨h.os,h.tape,h.output,h.size,h.block⟩
structure Wp where
 w:Nat
 d:Nat
 a:Nat
 s:Nat
structure Fs where
 D:St
 A:Ar
 S:Sp
def Sys(w:World)(G:Nat→Prop)(p:Wp)(F:Fs)(n:Nat):Prop:=
 ∃Gd Ga Gs,Row w p.w 83 [ptr p.d,ptr p.a,ptr p.s]∧Dev w Gd p.d F.D n∧Arn w Ga p.a F.A∧Spc w Gs p.s F.S∧(∀k,G k↔k=p.w∨Gd k∨Ga k∨Gs k)∧
  (∀k,Gd k→¬Ga k∧¬Gs k∧k≠p.w)∧(∀k,Ga k→¬Gs k∧k≠p.w)∧(∀k,Gs k→k≠p.w)∧∀q∈F.A.st,¬G q.1
def SysTo(w:World)(G:Nat→Prop)(p:Wp)(F:Fs)(n:Nat)(w':World):Prop:=∃G',Sys w' G' p F n∧Far G w w'∧∀k,G' k→G k∨w.heap.size≤k
section
variable {w w' : World} {G : Nat → Prop} {p : Wp} {F : Fs} {n : Nat}
theorem Sys.lt(h:Sys w G p F n){k:Nat}(hk:G k):k<w.heap.size:=by
 obtain⟨Gd,Ga,Gs,hr,hd,ha,hs,hG,_⟩:=h
 rcases(hG k).1 hk with rfl|h|h|h
 ·exact hr.lt
 ·exact hd.lt h
 ·exact ha.lt h
 ·exact hs.lt h
theorem Sys.row(h:Sys w G p F n):Row w p.w 83 [ptr p.d,ptr p.a,ptr p.s]:=by obtain⟨Gd,Ga,Gs,hr,_⟩:=h;exact hr
theorem Sys.mine(h:Sys w G p F n):G p.w:=by obtain⟨Gd,Ga,Gs,hr,hd,ha,hs,hG,_⟩:=h;exact(hG _).2 (.inl rfl)
theorem Sys.size(h:Sys w G p F n):8≤F.D.size∧F.D.size≤256:=by obtain⟨Gd,Ga,Gs,hr,hd,_⟩:=h;exact hd.fits.size
theorem Sys.sound(h:Sys w G p F n):Sound F.A:=by obtain⟨Gd,Ga,Gs,hr,hd,ha,_⟩:=h;exact ha.sound
theorem Sys.sok(h:Sys w G p F n):F.S.ok:=by obtain⟨Gd,Ga,Gs,hr,hd,ha,hs,_⟩:=h;exact hs.1
theorem Sys.fits(h:Sys w G p F n):Fits F.D n:=by obtain⟨Gd,Ga,Gs,hr,hd,_⟩:=h;exact hd.fits
theorem Sys.buf(h:Sys w G p F n){q:Nat×Nat}(hq:q∈F.A.st):Buf w q.1∧¬G q.1:=by obtain⟨Gd,Ga,Gs,hr,hd,ha,hs,hG,_,_,_,hb⟩:=h;exact⟨ha.buf hq,hb q hq⟩
theorem Sys.far{R:Nat→Prop}(h:Sys w G p F n)(hf:Far R w w')(hG:∀k,G k→¬R k)(hB:∀q∈F.A.st,¬R q.1):Sys w' G p F n:=by
 obtain⟨Gd,Ga,Gs,hr,hd,ha,hs,hg,h1,h2,h3,h4⟩:=h
 exact⟨Gd,Ga,Gs,hf.row hr (hG _ ((hg _).2 (.inl rfl))),hd.far hf fun k hk=>hG k ((hg k).2 (.inr (.inl hk))),ha.far hf (fun k hk=>hG k ((hg k).2 (.inr (.inr (.inl hk))))) hB,hs.far hf fun k hk=>hG k ((hg k).2 (.inr (.inr (.inr hk)))),hg,h1,h2,h3,h4⟩
theorem Sys.below(h:Sys w G p F n)(hb:Below w.heap.size w w'):Sys w' G p F n:=h.far (Far.of_below hb fun _=>False) (fun _ _ hf=>hf) fun _ _ hf=>hf
theorem Sys.mono{n':Nat}(h:Sys w G p F n)(hn:n≤n')(h6:n'≤1000000):Sys w G p F n':=by
 obtain⟨Gd,Ga,Gs,hr,hd,r⟩:=h;exact⟨Gd,Ga,Gs,hr,hd.mono hn h6,r⟩
theorem SysTo.of_below(h:Sys w G p F n)(hb:Below w.heap.size w w'):SysTo w G p F n w':=⟨G,h.below hb,Far.of_below hb G,fun _ hk=>.inl hk⟩
theorem SysTo.refl(h:Sys w G p F n):SysTo w G p F n w:=SysTo.of_below h (Below.refl _ _)
theorem SysTo.behind{w1:World}(hb:Below w.heap.size w w1)(h:SysTo w1 G p F n w'):SysTo w G p F n w':=by
 obtain⟨G',h1,h2,h3⟩:=h
 exact⟨G',h1,(Far.of_below hb G).trans h2 fun b hb'=>.inl hb',fun k hk=>(h3 k hk).imp id fun h=>Nat.le_trans hb.size h⟩
theorem SysTo.ahead{w1:World}(h:SysTo w G p F n w1)(hb:Below w1.heap.size w1 w'):SysTo w G p F n w':=by
 obtain⟨G',h1,h2,h3⟩:=h
 exact⟨G',h1.below hb,h2.trans (Far.of_below hb fun _=>False) fun _ hf=>hf.elim,h3⟩
theorem SysTo.mono{n':Nat}(h:SysTo w G p F n w')(hn:n≤n')(h6:n'≤1000000):SysTo w G p F n' w':=by
 obtain⟨G',h1,h2⟩:=h;exact⟨G',h1.mono hn h6,h2⟩
theorem SysTo.apart(h:SysTo w G p F n w'):∃G',Sys w' G' p F n∧Far G w w'∧(∀k,G' k→G k∨w.heap.size≤k)∧∀k,k<w.heap.size→¬G k→¬G' k:=by
 obtain⟨G',h1,h2,h3⟩:=h
 exact⟨G',h1,h2,h3,fun k hk hn hg=>(h3 k hg).elim hn fun h=>by omega⟩
theorem Sys.dev(h:Sys w G p F n):∃Gd,Dev w Gd p.d F.D n∧∀w' D' n',(∃Gd',Dev w' Gd' p.d D' n'∧Far Gd w w'∧∀k,Gd' k→Gd k∨w.heap.size≤k)→SysTo w G p {F with D:=D'} n' w':=by
 have hlt:=fun k hk=>h.lt (k:=k) hk
 obtain⟨Gd,Ga,Gs,hr,hd,ha,hs,hg,h1,h2,h3,h4⟩:=h
 refine⟨Gd,hd,fun w' D' n' ⟨Gd',k1,k2,k3⟩=>⟨fun k=>k=p.w∨Gd' k∨Ga k∨Gs k,⟨Gd',Ga,Gs,?_,k1,?_,?_,fun k=>Iff.rfl,?_,h2,h3,?_⟩,k2.mono fun k hk=>(hg k).2 (.inr (.inl hk)),?_⟩⟩
 ·exact k2.row hr fun hk=>(h1 _ hk).2.2 rfl
 ·exact ha.far k2 (fun k hk hk2=>(h1 k hk2).1 hk) fun q hq hk=>h4 q hq ((hg _).2 (.inr (.inl hk)))
 ·exact hs.far k2 fun k hk hk2=>(h1 k hk2).2.1 hk
 ·intro k hk
  rcases k3 k hk with h5|h5
  ·exact h1 k h5
  ·refine⟨fun h6=>?_,fun h6=>?_,fun h6=>?_⟩
   ·have:=hlt k ((hg k).2 (.inr (.inr (.inl h6))));omega
   ·have:=hlt k ((hg k).2 (.inr (.inr (.inr h6))));omega
   ·have:=hr.lt;omega
 ·intro q hq hk
  rcases hk with h5|h5|h5|h5
  ·exact h4 q hq ((hg _).2 (.inl h5))
  ·rcases k3 _ h5 with h6|h6
   ·exact h4 q hq ((hg _).2 (.inr (.inl h6)))
   ·have:=(ha.buf hq).lt;omega
  ·exact h4 q hq ((hg _).2 (.inr (.inr (.inl h5))))
  ·exact h4 q hq ((hg _).2 (.inr (.inr (.inr h5))))
 ·rintro k (h5|h5|h5|h5)
  ·exact .inl ((hg k).2 (.inl h5))
  ·exact(k3 k h5).imp_left fun h6=>(hg k).2 (.inr (.inl h6))
  ·exact .inl ((hg k).2 (.inr (.inr (.inl h5))))
  ·exact .inl ((hg k).2 (.inr (.inr (.inr h5))))
theorem Sys.spc(h:Sys w G p F n):∃Gs,Spc w Gs p.s F.S∧∀w' S',Next w Gs p.s S' w'→SysTo w G p {F with S:=S'} n w':=by
 have hlt:=fun k hk=>h.lt (k:=k) hk
 obtain⟨Gd,Ga,Gs,hr,hd,ha,hs,hg,h1,h2,h3,h4⟩:=h
 refine⟨Gs,hs,fun w' S' ⟨Gs',k1,k2,k3⟩=>⟨fun k=>k=p.w∨Gd k∨Ga k∨Gs' k,⟨Gd,Ga,Gs',?_,?_,?_,k1,fun k=>Iff.rfl,?_,?_,?_,?_⟩,k2.mono fun k hk=>(hg k).2 (.inr (.inr (.inr hk))),?_⟩⟩
 ·exact k2.row hr fun hk=>h3 _ hk rfl
 ·exact hd.far k2 fun k hk hk2=>(h1 k hk).2.1 hk2
 ·exact ha.far k2 (fun k hk hk2=>(h2 k hk).1 hk2) fun q hq hk=>h4 q hq ((hg _).2 (.inr (.inr (.inr hk))))
 ·intro k hk
  refine⟨(h1 k hk).1,fun h6=>?_,(h1 k hk).2.2⟩
  rcases k3 k h6 with h7|h7
  ·exact(h1 k hk).2.1 h7
  ·have:=hd.lt hk;omega
 ·intro k hk
  refine⟨fun h6=>?_,(h2 k hk).2⟩
  rcases k3 k h6 with h7|h7
  ·exact(h2 k hk).1 h7
  ·have:=ha.lt hk;omega
 ·intro k hk e
  rcases k3 k hk with h7|h7
  ·exact h3 k h7 e
  ·have:=hr.lt;omega
 ·intro q hq hk
  rcases hk with h5|h5|h5|h5
  ·exact h4 q hq ((hg _).2 (.inl h5))
  ·exact h4 q hq ((hg _).2 (.inr (.inl h5)))
  ·exact h4 q hq ((hg _).2 (.inr (.inr (.inl h5))))
  ·rcases k3 _ h5 with h6|h6
   ·exact h4 q hq ((hg _).2 (.inr (.inr (.inr h6))))
   ·have:=(ha.buf hq).lt;omega
 ·rintro k (h5|h5|h5|h5)
  ·exact .inl ((hg k).2 (.inl h5))
  ·exact .inl ((hg k).2 (.inr (.inl h5)))
  ·exact .inl ((hg k).2 (.inr (.inr (.inl h5))))
  ·exact(k3 k h5).imp_left fun h6=>(hg k).2 (.inr (.inr (.inr h6)))
theorem Sys.arn(h:Sys w G p F n):∃Ga,Arn w Ga p.a F.A∧
  (∀w' b g m,(∃Ga',Arn w' Ga' p.a (grant F.A b m)∧Row w' b 132 [.slice (some ⟨g,0,none⟩) m m]∧Row w' g 133 (List.replicate m (.int .u64 0))∧w.heap.size≤b∧w.heap.size≤g∧b≠g∧¬Ga' b∧¬Ga' g∧Far Ga w w'∧∀k,Ga' k→Ga k∨w.heap.size≤k)→
   ∃G',Sys w' G' p {F with A:=grant F.A b m} n∧Far G w w'∧(∀k,G' k→G k∨w.heap.size≤k)∧¬G' b∧¬G' g)∧
  (∀w' b m,Arn w' Ga p.a (release F.A b m)→Far (fun k=>Ga k∨k=b) w w'→¬G b→Sys w' G p {F with A:=release F.A b m} n∧Far (fun k=>G k∨k=b) w w'):=by
 have hlt:=fun k hk=>h.lt (k:=k) hk
 obtain⟨Gd,Ga,Gs,hr,hd,ha,hs,hg,h1,h2,h3,h4⟩:=h
 refine⟨Ga,ha,fun w' b g m ⟨Ga',k1,kb,kg,lb,lg,hbg,nb,ng,k2,k3⟩=>?_,fun w' b m k1 k2 nb=>?_⟩
 ·have hnew:∀x,w.heap.size≤x→¬Ga' x→¬(x=p.w∨Gd x∨Ga' x∨Gs x):=by
   rintro x hx hn (h5|h5|h5|h5)
   ·have:=hr.lt;omega
   ·have:=hd.lt h5;omega
   ·exact hn h5
   ·have:=hs.lt h5;omega
  refine⟨fun k=>k=p.w∨Gd k∨Ga' k∨Gs k,⟨Gd,Ga',Gs,?_,?_,k1,?_,fun k=>Iff.rfl,?_,?_,h3,?_⟩,k2.mono fun k hk=>(hg k).2 (.inr (.inr (.inl hk))),?_,hnew b lb nb,hnew g lg ng⟩
  ·exact k2.row hr fun hk=>(h2 _ hk).2 rfl
  ·exact hd.far k2 fun k hk hk2=>(h1 k hk).1 hk2
  ·exact hs.far k2 fun k hk hk2=>(h2 k hk2).1 hk
  ·intro k hk
   refine⟨fun h6=>?_,(h1 k hk).2⟩
   rcases k3 k h6 with h7|h7
   ·exact(h1 k hk).1 h7
   ·have:=hd.lt hk;omega
  ·intro k hk
   rcases k3 k hk with h7|h7
   ·exact h2 k h7
   ·refine⟨fun h6=>?_,fun h6=>?_⟩
    ·have:=hs.lt h6;omega
    ·have:=hr.lt;omega
  ·intro q hq hk
   have hq1:q∈F.A.st++[(b,m)]:=hq
   rcases List.mem_append.1 hq1 with h5|h5
   ·rcases hk with h6|h6|h6|h6
    ·exact h4 q h5 ((hg _).2 (.inl h6))
    ·exact h4 q h5 ((hg _).2 (.inr (.inl h6)))
    ·rcases k3 _ h6 with h7|h7
     ·exact h4 q h5 ((hg _).2 (.inr (.inr (.inl h7))))
     ·have:=(ha.buf h5).lt;omega
    ·exact h4 q h5 ((hg _).2 (.inr (.inr (.inr h6))))
   ·simp only[List.mem_singleton]at h5
    subst h5
    exact hnew b lb nb hk
  ·rintro k (h5|h5|h5|h5)
   ·exact .inl ((hg k).2 (.inl h5))
   ·exact .inl ((hg k).2 (.inr (.inl h5)))
   ·exact(k3 k h5).imp_left fun h6=>(hg k).2 (.inr (.inr (.inl h6)))
   ·exact .inl ((hg k).2 (.inr (.inr (.inr h5))))
 ·refine⟨⟨Gd,Ga,Gs,?_,?_,k1,?_,hg,h1,h2,h3,fun q hq=>h4 q (without_mem _ _ _ hq)⟩,k2.mono fun k hk=>hk.imp_left fun h5=>(hg k).2 (.inr (.inr (.inl h5)))⟩
  ·refine k2.row hr ?_
   rintro(hk|hk)
   ·exact(h2 _ hk).2 rfl
   ·exact nb ((hg _).2 (.inl hk.symm))
  ·refine hd.far k2 ?_
   rintro k hk (hk2|hk2)
   ·exact(h1 k hk).1 hk2
   ·subst hk2;exact nb ((hg _).2 (.inr (.inl hk)))
  ·refine hs.far k2 ?_
   rintro k hk (hk2|hk2)
   ·exact(h2 k hk2).1 hk
   ·subst hk2;exact nb ((hg _).2 (.inr (.inr (.inr hk))))
theorem Sys.dsize_any(h:Sys w G p F n):Calls Tryz.prog 62 #[ptr p.d] w fun e w'=>e=.returned (.int .i64 (F.D.size:Int))∧w'=w:=by
 obtain⟨Gd,Ga,Gs,hr,hd,_⟩:=h
 obtain⟨bl,bf,v,nl,hr,_⟩:=hd.2
 exact size_any p.d F.D bl bf v w hr
theorem Sys.left_any(h:Sys w G p F n):Calls Tryz.prog 71 #[ptr p.a] w fun e w'=>e=.returned (.int .i64 ((F.A.room-F.A.used:Nat):Int))∧w'=w:=by
 obtain⟨Gd,Ga,Gs,hr,hd,ha,_⟩:=h
 obtain⟨h0,⟨m,hr,_⟩,_⟩:=id ha
 exact arleft_any p.a F.A m w hr h0
end
section
variable {w : World} {p : Wp}
theorem wdev_any(h:Row w p.w 83 [ptr p.d,ptr p.a,ptr p.s]):Calls Tryz.prog 17 #[.pointer (some ⟨p.w,0,none⟩)] w fun e w'=>e=.returned (.pointer (some ⟨p.d,0,none⟩))∧w'=w:=by
 have c0:w.cell? ⟨p.w,0,none⟩=some (.pointer (some ⟨p.d,0,none⟩)):=h.cell 0
 go_enter Tryz.func17,Tryz.ntmps17
 go_wp2
 go_ret
 exact⟨rfl,rfl⟩
theorem wspc_any(h:Row w p.w 83 [ptr p.d,ptr p.a,ptr p.s]):Calls Tryz.prog 37 #[.pointer (some ⟨p.w,0,none⟩)] w fun e w'=>e=.returned (.pointer (some ⟨p.s,0,none⟩))∧w'=w:=by
 have c0:w.cell? ⟨p.w,2,none⟩=some (.pointer (some ⟨p.s,0,none⟩)):=h.cell 2
 go_enter Tryz.func37,Tryz.ntmps37
 go_wp2
 go_ret
 exact⟨rfl,rfl⟩
end
theorem wdev_nil(w:World):Calls Tryz.prog 17 #[.pointer none] w fun e w'=>e=.returned (.pointer none)∧w'=w:=by
 go_enter Tryz.func17,Tryz.ntmps17
 go_wp2
 go_ret
 exact⟨rfl,rfl⟩
theorem wspc_nil(w:World):Calls Tryz.prog 37 #[.pointer none] w fun e w'=>e=.returned (.pointer none)∧w'=w:=by
 go_enter Tryz.func37,Tryz.ntmps37
 go_wp2
 go_ret
 exact⟨rfl,rfl⟩
theorem fnew_any(d a s:Nat)(w:World):Calls Tryz.prog 23 #[.pointer (some ⟨d,0,none⟩),.pointer (some ⟨a,0,none⟩),.pointer (some ⟨s,0,none⟩)] w fun e w'=>e=.returned (.pointer (some ⟨w.heap.size,0,none⟩))∧w'=w.alloc (.cells #[ptr d,ptr a,ptr s] 83):=by
 go_enter Tryz.func23,Tryz.ntmps23
 go_wp2
 go_ret
 exact⟨rfl,rfl⟩
theorem fnew_nil(a s:Option Addr)(w:World):Calls Tryz.prog 23 #[.pointer none,.pointer a,.pointer s] w fun e w'=>e=.returned (.pointer none)∧w'=w:=by
 go_enter Tryz.func23,Tryz.ntmps23
 go_wp2
 go_ret
 exact⟨rfl,rfl⟩
theorem hol_nil(width:Int)(w:World):Calls Tryz.prog 77 #[.pointer none,.int .i64 width] w fun e w'=>e=.returned (.int .i64 0)∧w'=w:=by
 go_enter Tryz.func77,Tryz.ntmps77
 go_wp2
 go_ret
 exact⟨rfl,rfl⟩
theorem holds_le(size:Nat)(width:Int):holdsI size width≤size-2:=by
 unfold holdsI;split
 ·exact Nat.zero_le _
 ·exact Nat.div_le_self _ _
theorem hol_any{w:World}{G:Nat→Prop}{p:Wp}{F:Fs}{n:Nat}(h:Sys w G p F n)(width:Int):Calls Tryz.prog 77 #[.pointer (some ⟨p.w,0,none⟩),.int .i64 width] w fun e w'=>e=.returned (.int .i64 (holdsI F.D.size width:Nat))∧w'=w:=by
 by_cases h1:width<1
 ·have g1:decide (width<1)=true:=by simpa using h1
  have e0:holdsI F.D.size width=0:=by unfold holdsI;rw[if_pos (.inl h1)]
  rw[e0]
  go_enter Tryz.func77,Tryz.ntmps77
  go_wp2
  go_ret
  exact⟨rfl,rfl⟩
 have g1:decide (width<1)=false:=by simpa using h1
 by_cases h2:width>5
 ·have g2:decide (width>5)=true:=by simpa using h2
  have e0:holdsI F.D.size width=0:=by unfold holdsI;rw[if_pos (.inr h2)]
  rw[e0]
  clear h1
  go_enter Tryz.func77,Tryz.ntmps77
  go_wp2
  go_ret
  exact⟨rfl,rfl⟩
 have g2:decide (width>5)=false:=by simpa using h2
 have e0:holdsI F.D.size width=(F.D.size-2)/width.toNat:=by unfold holdsI;rw[if_neg (by omega)]
 obtain⟨k,rfl⟩:∃k:Nat,width=(k:Int):=⟨width.toNat,by omega⟩
 rw[Int.toNat_natCast]at e0
 have hsz:=h.size
 have c0:w.cell? ⟨p.w,0,none⟩=some (.pointer (some ⟨p.d,0,none⟩)):=h.row.cell 0
 have hs:=h.dsize_any
 rw[e0]
 obtain⟨m,hm⟩:∃m,m=F.D.size-2:=⟨_,rfl⟩
 have hsub:(F.D.size:Int)-2=(m:Int):=by omega
 have hmb:6≤m∧m≤254:=by omega
 have hq:Int.tdiv (m:Int) (k:Int)=((m/k:Nat):Int):=rfl
 have hk0:¬((k:Int)=0):=by omega
 have hql:m/k≤m:=Nat.div_le_self _ _
 rw[←hm]
 have HS:=Lib.hid hs
 have hmax:(if m<0 then (0:Int)else (m:Int))=(m:Int):=by simp
 clear hs hm e0 h h1 h2
 generalize m/k=q at*
 go_enter Tryz.func77,Tryz.ntmps77
 go_wp2_with fail
 refine HS.out.mono ?_;rintro e w1 ⟨rfl,rfl⟩
 go_wp2
 go_ret
 exact⟨rfl,rfl⟩
theorem shape_any{w:World}{G:Nat→Prop}{p:Wp}{F:Fs}{n:Nat}(h:Sys w G p F n)(width:Int):Calls Tryz.prog 59 #[.pointer (some ⟨p.w,0,none⟩),.int .i64 width] w fun e w'=>e=.returned (.agg #[.int .i64 width,.int .i64 (holdsI F.D.size width:Nat)])∧Below w.heap.size w w':=by
 have HH:Hid (Calls Tryz.prog 77 #[.pointer (some ⟨p.w,0,none⟩),.int .i64 width] (w.alloc (.cells #[.int .i64 0,.int .i64 0] 120)) fun e w'=>e=.returned (.int .i64 (holdsI F.D.size width:Nat))∧w'=w.alloc (.cells #[.int .i64 0,.int .i64 0] 120)):=hol_any (h.below ((Below.refl _ w).alloc (Nat.le_refl _) _)) width
 have HB:Hid (Below w.heap.size w (w.alloc (.cells #[.int .i64 0,.int .i64 0] 120))):=(Below.refl _ w).alloc (Nat.le_refl _) _
 generalize holdsI F.D.size width=q at*
 clear h
 go_enter Tryz.func59,Tryz.ntmps59
 go_wp2_with fail
 refine HH.out.mono ?_;rintro e w1 ⟨rfl,rfl⟩
 go_wp2
 have HB2:Below w.heap.size w (w.alloc (.cells #[.int .i64 width,.int .i64 (q:Int)] 120)):=(Below.refl _ w).alloc (Nat.le_refl _) _
 refine bodyPost_ret (v:=.agg #[.int .i64 width,.int .i64 (q:Int)]) ?_ rfl ⟨rfl,HB2⟩
 have hr:Row (w.alloc (.cells #[.int .i64 width,.int .i64 (q:Int)] 120)) w.heap.size 120 [.int .i64 width,.int .i64 (q:Int)]:=heap_alloc_new _ _
 have r0:=hr.cell 0
 have r1:=hr.cell 1
 simp[results,Tryz.results59,go_sem,r0,r1]
theorem shape_nil(width:Int)(w:World):Calls Tryz.prog 59 #[.pointer none,.int .i64 width] w fun e w'=>e=.returned (.agg #[.int .i64 width,.int .i64 0])∧Below w.heap.size w w':=by
 have HH:=Lib.hid (hol_nil width (w.alloc (.cells #[.int .i64 0,.int .i64 0] 120)))
 go_enter Tryz.func59,Tryz.ntmps59
 go_wp2_with fail
 refine HH.out.mono ?_;rintro e w1 ⟨rfl,rfl⟩
 go_wp2
 have HB2:Below w.heap.size w (w.alloc (.cells #[.int .i64 width,.int .i64 0] 120)):=(Below.refl _ w).alloc (Nat.le_refl _) _
 refine bodyPost_ret (v:=.agg #[.int .i64 width,.int .i64 0]) ?_ rfl ⟨rfl,HB2⟩
 have hr:Row (w.alloc (.cells #[.int .i64 width,.int .i64 0] 120)) w.heap.size 120 [.int .i64 width,.int .i64 0]:=heap_alloc_new _ _
 have r0:=hr.cell 0
 have r1:=hr.cell 1
 simp[results,Tryz.results59,go_sem,r0,r1]
theorem blks_any(k h c:Nat)(w:World)(hh:0<h)(hh2:h≤254)(hc:c≤100000000):Calls Tryz.prog 60 #[.agg #[.int .i64 k,.int .i64 h],.int .i64 c] w fun e w'=>e=.returned (.int .i64 (blocksN h c:Nat))∧Below w.heap.size w w':=by
 have HB:=Lib.hid ((Below.refl w.heap.size w).alloc (Nat.le_refl _) (.cells #[.int .i64 k,.int .i64 h] 120))
 have hq:Int.tdiv (c:Int) (h:Int)=((c/h:Nat):Int):=rfl
 have ht:Int.tmod (c:Int) (h:Int)=((c%h:Nat):Int):=rfl
 have hh0:¬((h:Int)=0):=by omega
 have hql:c/h≤c:=Nat.div_le_self _ _
 have hml:c%h<h:=Nat.mod_lt _ hh
 by_cases hm:0<c%h
 ·have HE:Hid (blocksN h c=c/h+1):=by unfold Hid blocksN;rw[if_pos hm]
  rw[HE.out]
  have g1:decide (((c%h:Nat):Int)>0)=true:=by simp;omega
  clear HE hh
  generalize c/h=q at*
  generalize c%h=m at*
  go_enter Tryz.func60,Tryz.ntmps60
  go_wp2
  go_ret
  exact⟨by rfl,HB.out⟩
 ·have HE:Hid (blocksN h c=c/h):=by unfold Hid blocksN;rw[if_neg hm]
  rw[HE.out]
  have g1:decide (((c%h:Nat):Int)>0)=false:=by simp;omega
  clear HE hh
  generalize c/h=q at*
  generalize c%h=m at*
  go_enter Tryz.func60,Tryz.ntmps60
  go_wp2
  go_ret
  exact⟨rfl,HB.out⟩
theorem wrds_any(k h j c:Nat)(w:World)(hk:k≤5)(hh2:h≤254)(hc:c≤100000000)(hj:j*h≤c):Calls Tryz.prog 82 #[.agg #[.int .i64 k,.int .i64 h],.int .i64 j,.int .i64 c] w fun e w'=>e=.returned (.int .i64 (min h (c-j*h)*k:Nat))∧Below w.heap.size w w':=by
 have HB:=Lib.hid ((Below.refl w.heap.size w).alloc (Nat.le_refl _) (.cells #[.int .i64 k,.int .i64 h] 120))
 obtain⟨jh,hjh⟩:∃jh,jh=j*h:=⟨_,rfl⟩
 have hmul:(j:Int)*(h:Int)=(jh:Int):=by rw[hjh];exact(Int.natCast_mul j h).symm
 rw[←hjh]at hj⊢
 obtain⟨d,hd⟩:∃d,d=c-jh:=⟨_,rfl⟩
 have hsub:(c:Int)-(jh:Int)=(d:Int):=by omega
 rw[←hd]
 obtain⟨lo,hlo⟩:∃lo,lo=min h d:=⟨_,rfl⟩
 have hmin:(if d<h then (d:Int)else (h:Int))=(lo:Int):=by rw[hlo];split<;>omega
 have hmin2:(if h<d then (h:Int)else (d:Int))=(lo:Int):=by rw[hlo];split<;>omega
 have hlo2:lo≤254:=by omega
 rw[←hlo]
 obtain⟨m,hm⟩:∃m,m=lo*k:=⟨_,rfl⟩
 have hmul2:(lo:Int)*(k:Int)=(m:Int):=by rw[hm];exact(Int.natCast_mul lo k).symm
 have hm2:m≤1270:=by rw[hm];exact Nat.mul_le_mul hlo2 hk
 rw[←hm]
 have hjb:jh≤100000000:=by omega
 have hdb:d≤100000000:=by omega
 clear hm hlo hd hjh hj
 go_enter Tryz.func82,Tryz.ntmps82
 go_wp2
 go_ret
 exact⟨rfl,HB.out⟩
theorem plc_any(k h i g n:Nat)(w:World)(hk0:0<k)(hk:k≤5)(hh:0<h)(hh2:h≤254)(_hi:i≤100000000)(hn:i%h*k+k≤n)(hn2:n≤256):Calls Tryz.prog 66 #[.agg #[.int .i64 k,.int .i64 h],.slice (some ⟨g,0,none⟩) n n,.int .i64 i] w fun e w'=>e=.returned (.slice (some ⟨g,i%h*k,none⟩) k (n-i%h*k))∧Below w.heap.size w w':=by
 have hb1:=(Below.refl w.heap.size w).alloc (Nat.le_refl _) (.cells #[.int .i64 k,.int .i64 h] 120)
 have HB:=Lib.hid hb1
 have hr:Row (w.alloc (.cells #[.int .i64 k,.int .i64 h] 120)) w.heap.size 120 [.int .i64 k,.int .i64 h]:=heap_alloc_new _ _
 have c0:(w.alloc (.cells #[.int .i64 k,.int .i64 h] 120)).cell? ⟨w.heap.size,0,none⟩=some (.int .i64 k):=hr.cell 0
 have c1:(w.alloc (.cells #[.int .i64 k,.int .i64 h] 120)).cell? ⟨w.heap.size,1,none⟩=some (.int .i64 h):=hr.cell 1
 have ht:Int.tmod (i:Int) (h:Int)=((i%h:Nat):Int):=rfl
 have hh0:¬((h:Int)=0):=by omega
 have hml:i%h<h:=Nat.mod_lt _ hh
 obtain⟨m,hm⟩:∃m,m=i%h:=⟨_,rfl⟩
 rw[←hm]at ht hml hn⊢
 obtain⟨a,ha⟩:∃a,a=m*k:=⟨_,rfl⟩
 have hmul:(m:Int)*(k:Int)=(a:Int):=by rw[ha];exact(Int.natCast_mul m k).symm
 rw[←ha]at hn⊢
 obtain⟨u,hu⟩:∃u,u=a+k:=⟨_,rfl⟩
 have hadd:(a:Int)+(k:Int)=(u:Int):=by omega
 have hua:u-a=k:=by omega
 have hcut:=fun W=>run_mid (P:=Tryz.prog) W 129 133 _ Tryz.underlying129 (info_parts infoW).choose_spec.1 (info_parts infoW).choose_spec.2.2.1 (some ⟨g,0,none⟩) n n a u (by omega) (by omega) .i64 .i64 (a:Int) (u:Int) rfl rfl
 rw[hua,tailA_lt (by omega),Nat.zero_add,Nat.mul_one]at hcut
 have ha2:a≤256:=by omega
 have hu2:u≤256:=by omega
 clear hr hm ha hu hua hb1 hh hn
 go_enter Tryz.func66,Tryz.ntmps66
 go_wp2
 generalize w.alloc (.cells #[.int .i64 k,.int .i64 h] 120)=w1 at*
 go_region
 go_wp2
 go_ret
 exact⟨rfl,below_drew HB.out⟩
theorem stnd_any{b:Nat}{A:Option Addr}{n c:Nat}{w:World}(h:Row w b 132 [.slice A n c]):Calls Tryz.prog 79 #[.pointer (some ⟨b,0,none⟩)] w fun e w'=>e=.returned (.bool (decide (0<n)))∧w'=w:=by
 have c0:w.cell? ⟨b,0,none⟩=some (.slice A n c):=h.cell 0
 go_enter Tryz.func79,Tryz.ntmps79
 go_wp2
 go_ret
 exact⟨ret_bool (by simp),rfl⟩
theorem run_clear_cells{P:Program}{w:World}(t e ty:TypeId)(z:Value)(ht:P.underlying t=some (.slice e))(hv:∀w,(zeroValue e).run P w=.ok z w)(hz:z.cells=#[z])(h1:z.oneCell'=true)
  (n c g:Nat) (cur:List Value) (tt:TypeId) (hg:Row w g tt cur) (hfit:n≤cur.length) (hn:0<n):
  ∃w',(Builtin.clear_ #[t] ty #[.slice (some ⟨g,0,none⟩) n c]).run P w=.ok (.tuple #[]) w'∧Row w' g tt (List.replicate n z++cur.drop n)∧Far (fun k=>k=g) w w':=by
 obtain⟨m,rfl⟩:∃m,n=m+1:=⟨n-1,by omega⟩
 have hzl:(Builtin.zeroCells z.cells (m+1)).toList=List.replicate (m+1) z:=by
  rw[hz]
  apply List.ext_getElem?
  intro i
  simp[Builtin.zeroCells,List.getElem?_replicate]
  by_cases hi:i<m+1<;>simp[hi,Nat.mod_one]
 have hst:=run_storeCells_at P g 0 tt (Builtin.zeroCells z.cells (m+1)).toList 0 cur.toArray w hg (by rw[hzl];simpa using hfit) (by rw[hzl];intro v hv;rw[List.mem_replicate]at hv;rw[hv.2];exact h1)
 simp only[Nat.add_zero]at hst
 rw[hzl]at hst
 refine⟨_,?_,setRow_heap w g cur.toArray _ tt (0,0) hg,Far.setRow w g _⟩
 simp[Builtin.clear_,run_underlying ht,hv,hzl,hst]
theorem zeroI64(w:World):(zeroValue 2).run Tryz.prog w=.ok (.int .i64 0) w:=by kernel_rfl
theorem eq_tup(w:World)(a b c d e a' b' c' d' e':Int):(binOp .eql 56 (.agg #[.int .i64 a,.int .i64 b,.int .i64 c,.int .i64 d,.int .i64 e]) (.agg #[.int .i64 a',.int .i64 b',.int .i64 c',.int .i64 d',.int .i64 e'])).run Tryz.prog w=.ok (.bool (a==a'&&(b==b'&&(c==c'&&(d==d'&&e==e'))))) w:=by
 obtain⟨i0,hi⟩:∃i,Tryz.prog.info? 2=some i:=by
  rcases h:Tryz.prog.info? 2 with _|i
  ·have:(Tryz.prog.info? 2).isSome=true:=by kernel_rfl
   rw[h]at this;cases this
  ·exact⟨i,rfl⟩
 have hc1:Tryz.prog.cellsOf 2=1:=by kernel_rfl
 have p0:∀(a b c d e:Int) w,(part 2 #[.int .i64 a,.int .i64 b,.int .i64 c,.int .i64 d,.int .i64 e] 0).run Tryz.prog w=.ok (.int .i64 a) w:=fun a b c d e w=>run_part_plain (P:=Tryz.prog) w (by kernel_rfl) rfl
 have p1:∀(a b c d e:Int) w,(part 2 #[.int .i64 a,.int .i64 b,.int .i64 c,.int .i64 d,.int .i64 e] 1).run Tryz.prog w=.ok (.int .i64 b) w:=fun a b c d e w=>run_part_plain (P:=Tryz.prog) w (by kernel_rfl) rfl
 have p2:∀(a b c d e:Int) w,(part 2 #[.int .i64 a,.int .i64 b,.int .i64 c,.int .i64 d,.int .i64 e] 2).run Tryz.prog w=.ok (.int .i64 c) w:=fun a b c d e w=>run_part_plain (P:=Tryz.prog) w (by kernel_rfl) rfl
 have p3:∀(a b c d e:Int) w,(part 2 #[.int .i64 a,.int .i64 b,.int .i64 c,.int .i64 d,.int .i64 e] 3).run Tryz.prog w=.ok (.int .i64 d) w:=fun a b c d e w=>run_part_plain (P:=Tryz.prog) w (by kernel_rfl) rfl
 have p4:∀(a b c d e:Int) w,(part 2 #[.int .i64 a,.int .i64 b,.int .i64 c,.int .i64 d,.int .i64 e] 4).run Tryz.prog w=.ok (.int .i64 e) w:=fun a b c d e w=>run_part_plain (P:=Tryz.prog) w (by kernel_rfl) rfl
 rw[run_eql_struct,show (10000:Nat)=9998+1+1 from rfl,run_equalIn_array w (9998+1) _ _ Tryz.underlying56 hi,hc1]
 have q:=fun(a b:Int) (w:World)=>run_equalIn_int (P:=Tryz.prog) w 9998 2 .i64 .i64 a b Tryz.underlying2
 have q':∀(a b:Int) (w:World),(Op.equalIn 9999 2 (.int .i64 a) (.int .i64 b)).run Tryz.prog w=.ok (a==b) w:=q
 simp only[Op.eqItems,List.range,List.range.loop,Sem.run_bind,Nat.mul_one,p0,Result.andThen_ok,q]
 by_cases h1:a=a'<;>by_cases h2:b=b'<;>by_cases h3:c=c'<;>by_cases h4:d=d'<;>by_cases h5:e=e'<;>simp[h1,h2,h3,h4,h5,p1,p2,p3,p4,q']
theorem guard_tup(w:World)(op:BinOp)(x y:Operand)(xs ys:Array Value):(eqGuard op 56 x y (.agg xs) (.agg ys)).run Tryz.prog w=.ok () w:=
 run_eqGuard_agg w op 56 x y _ _ (by kernel_rfl)
def tupV(t:Tup):Value:=.agg #[.int .i64 t.a,.int .i64 t.b,.int .i64 t.c,.int .i64 t.d,.int .i64 t.e]
theorem within_any(t:Tup)(k:Nat)(w:World)(hk0:0<k)(hk:k≤5):Calls Tryz.prog 75 #[.agg #[.int .i64 t.a,.int .i64 t.b,.int .i64 t.c,.int .i64 t.d,.int .i64 t.e],.int .i64 k] w fun e w'=>e=.returned (.bool (fitsT k t))∧Below w.heap.size w w':=by
 obtain⟨a,b,c,d,e⟩:=t
 have hr:Row (w.alloc (.cells #[.int .i64 a,.int .i64 b,.int .i64 c,.int .i64 d,.int .i64 e] 56)) w.heap.size 56 [.int .i64 a,.int .i64 b,.int .i64 c,.int .i64 d,.int .i64 e]:=heap_alloc_new _ _
 obtain⟨w2,hcl,hr2,hf2⟩:=run_clear_cells (P:=Tryz.prog) 156 2 0 (.int .i64 0) Tryz.underlying156 zeroI64 rfl rfl k 5 w.heap.size _ 56 hr (by simpa using hk) hk0
 have HR2:=Lib.hid hr2
 have HB2:=Lib.hid (((Below.refl w.heap.size w).alloc (Nat.le_refl _) (.cells #[.int .i64 a,.int .i64 b,.int .i64 c,.int .i64 d,.int .i64 e] 56)).trans (hf2.below (B:=w.heap.size) (by simp) (fun b hb=>by rw[hb];exact Nat.le_refl _)))
 have hsl:∀W,(Instr.sliceAt 56 (.pointer (some ⟨w.heap.size,0,none⟩)) none (some (.int .i64 (k:Int))) none).run Tryz.prog W=.ok (.slice (some ⟨w.heap.size,0,none⟩) k 5) W:=fun W=>by
  have hal:Tryz.prog.arrayLen 56=5:=by kernel_rfl
  have hel:Tryz.prog.elem 56=2:=by kernel_rfl
  obtain⟨i0,hi⟩:∃i,Tryz.prog.info? 2=some i:=by
   rcases h:Tryz.prog.info? 2 with _|i
   ·have:(Tryz.prog.info? 2).isSome=true:=by kernel_rfl
    rw[h]at this;cases this
   ·exact⟨i,rfl⟩
  rw[run_sliceAt_array_h W 56 ⟨w.heap.size,0,none⟩ (by rw[hal,hel];exact Tryz.underlying56) .i64 (k:Int) (by omega) (by rw[hal];omega),hal,hel]
  simp[sizeOf,typeInfo,hi,slicedAt,Addr.add]
 have hq:=fun W a b c d e=>eq_tup W a b c d e 0 0 0 0 0
 have hg:=guard_tup
 have hw1:∀(i:Nat) (x:Int),i<5→[a,b,c,d,e][i]?=some x→w2.cell? ⟨w.heap.size,i,none⟩=some (.int .i64 (if i<k then 0 else x)):=fun i x hi hx=>by
  rw[HR2.out.cell i]
  by_cases hik:i<k
  ·rw[List.getElem?_append_left (by simpa using hik),if_pos hik];simp[hik]
  ·rw[List.getElem?_append_right (by simpa using hik),if_neg hik,List.length_replicate,List.getElem?_drop,show k+(i-k)=i by omega]
   match i,hi,hx with
   |0,_,hx=>simp at hx;simp[hx]
   |1,_,hx=>simp at hx;simp[hx]
   |2,_,hx=>simp at hx;simp[hx]
   |3,_,hx=>simp at hx;simp[hx]
   |4,_,hx=>simp at hx;simp[hx]
 obtain⟨z0,hz0⟩:∃z,z=if 0<k then 0 else a:=⟨_,rfl⟩
 obtain⟨z1,hz1⟩:∃z,z=if 1<k then 0 else b:=⟨_,rfl⟩
 obtain⟨z2,hz2⟩:∃z,z=if 2<k then 0 else c:=⟨_,rfl⟩
 obtain⟨z3,hz3⟩:∃z,z=if 3<k then 0 else d:=⟨_,rfl⟩
 obtain⟨z4,hz4⟩:∃z,z=if 4<k then 0 else e:=⟨_,rfl⟩
 have c0:=hw1 0 a (by omega) rfl
 have c1:=hw1 1 b (by omega) rfl
 have c2:=hw1 2 c (by omega) rfl
 have c3:=hw1 3 d (by omega) rfl
 have c4:=hw1 4 e (by omega) rfl
 rw[←hz0]at c0;rw[←hz1]at c1;rw[←hz2]at c2;rw[←hz3]at c3;rw[←hz4]at c4
 have HE:Hid ((z0==0&&(z1==0&&(z2==0&&(z3==0&&z4==0))))=fitsT k ⟨a,b,c,d,e⟩):=by
  unfold Hid
  rw[hz0,hz1,hz2,hz3,hz4]
  match k,hk0,hk with
  |1,_,_=>simp[fitsT,Tup.cols]
  |2,_,_=>simp[fitsT,Tup.cols]
  |3,_,_=>simp[fitsT,Tup.cols]
  |4,_,_=>simp[fitsT,Tup.cols]
  |5,_,_=>simp[fitsT,Tup.cols]
 rw[←HE.out]
 clear hr2 hf2 hr hw1 HR2 hz0 hz1 hz2 hz3 hz4 HE
 go_enter Tryz.func75,Tryz.ntmps75
 go_wp2
 go_ret
 exact⟨ret_bool (by simp),HB2.out⟩
def takeN(S:Sp)(m:Nat):Sp×Nat×Nat×Nat:=
 if m=0 then (S,0,0,0)else if (takeS S m).2.2=0 then ((takeS S m).1,(takeS S m).2.1,m,0)else ((takeS S m).1,0,0,(takeS S m).2.2)
def giveN(S:Sp)(f m:Nat):Sp:=if m=0 then S else (giveS S f m).1
theorem SysTo.own{w w1 w2 w3:World}{G:Nat→Prop}{p:Wp}{F:Fs}{n g:Nat}(h:SysTo w1 G p F n w2)(hb:Below w.heap.size w w1)(hg1:w.heap.size≤g)(hg2:g<w1.heap.size)(hG:∀k,G k→k<w.heap.size)(hst:∀q∈F.A.st,q.1≠g)(hf:Far (fun k=>k=g) w2 w3):SysTo w G p F n w3:=by
 obtain⟨G',h1,h2,h3⟩:=h
 refine⟨G',h1.far hf (fun k hk e=>?_) hst,((Far.of_below hb G).trans h2 fun b hb'=>.inl hb').trans hf fun b e=>.inr (by rw[e];exact hg1),fun k hk=>(h3 k hk).imp id fun h=>Nat.le_trans hb.size h⟩
 subst e
 rcases h3 k hk with h4|h4
 ·have:=hG k h4;omega
 ·omega
theorem Far.one{w:World}(g i:Nat)(v:Value):Far (fun k=>k=g) w (w.setCell ⟨g,i,none⟩ v):=(Far.refl (fun k=>k=g) w).set (p:=⟨g,i,none⟩) (.inl rfl) v
theorem Far.two(w:World)(g i j:Nat)(u v:Value):Far (fun k=>k=g) w ((w.setCell ⟨g,i,none⟩ u).setCell ⟨g,j,none⟩ v):=(Far.one g i u).set (p:=⟨g,j,none⟩) (.inl rfl) v
theorem ftake_any{w:World}{G:Nat→Prop}{p:Wp}{F:Fs}{n:Nat}(h:Sys w G p F n)(m:Nat)(hm:m≤100000000):
  Calls Tryz.prog 70 #[.pointer (some ⟨p.w,0,none⟩),.int .i64 m] w fun e w'=>e=.returned (.tuple #[.agg #[.int .i64 (takeN F.S m).2.1,.int .i64 (takeN F.S m).2.2.1],.int .i64 (takeN F.S m).2.2.2])∧SysTo w G p {F with S:=(takeN F.S m).1} n w':=by
 have hb1:=(Below.refl w.heap.size w).alloc (Nat.le_refl _) (.cells #[.int .i64 0,.int .i64 0] 106)
 have hrow:Row (w.alloc (.cells #[.int .i64 0,.int .i64 0] 106)) w.heap.size 106 [.int .i64 0,.int .i64 0]:=heap_alloc_new _ _
 have h1:=h.below hb1
 by_cases hm0:m=0
 ·subst hm0
  have e0:takeN F.S 0=(F.S,0,0,0):=rfl
  rw[e0]
  have HX:Hid (SysTo w G p F n (w.alloc (.cells #[.int .i64 0,.int .i64 0] 106))):=SysTo.of_below h hb1
  have r0:=hrow.cell 0
  have r1:=hrow.cell 1
  clear h h1 hb1 hrow e0
  go_enter Tryz.func70,Tryz.ntmps70
  go_wp2
  refine bodyPost_ret (v:=.tuple #[.agg #[.int .i64 0,.int .i64 0],.int .i64 0]) (by simp[results,Tryz.results70,go_sem,r0,r1]) rfl ⟨rfl,HX.out⟩
 ·have g0:((m:Int)==0)=false:=by simpa using hm0
  have c2:(w.alloc (.cells #[.int .i64 0,.int .i64 0] 106)).cell? ⟨p.w,2,none⟩=some (.pointer (some ⟨p.s,0,none⟩)):=h1.row.cell 2
  have hlt:=fun k hk=>h.lt (k:=k) hk
  have hbuf:∀q∈F.A.st,q.1≠w.heap.size:=fun q hq e=>by have:=(h.buf hq).1.lt;omega
  obtain⟨Gs,hs,hback⟩:=h1.spc
  have ht:=take_any p.s F.S Gs m _ hs (I64.of (by omega) (by omega))
  have hz:(w.alloc (.cells #[.int .i64 0,.int .i64 0] 106)).heap.size=w.heap.size+1:=by simp
  have HE:Hid (takeN F.S m=if (takeS F.S m).2.2=0 then ((takeS F.S m).1,(takeS F.S m).2.1,m,0)else ((takeS F.S m).1,0,0,(takeS F.S m).2.2)):=by unfold Hid takeN;rw[if_neg hm0]
  have HT:=Lib.hid ht
  have HBK:=Lib.hid hback
  have HROW:=Lib.hid hrow
  have HB:=Lib.hid hb1
  have HLT:=Lib.hid hlt
  have HBUF:=Lib.hid hbuf
  have HZ:=Lib.hid hz
  rw[HE.out]
  clear ht hback hrow hb1 hlt hbuf h h1 hs HE hz
  generalize takeS F.S m=q at*
  obtain⟨S',a,er⟩:=q
  simp only at HT⊢
  by_cases he:er=0
  ·subst he
   rw[if_pos rfl]
   go_enter Tryz.func70,Tryz.ntmps70
   go_wp2_with fail
   refine HT.out.mono ?_;rintro e w2 ⟨rfl,hn⟩
   have ht2:=HBK.out _ _ hn
   have hg2:Row w2 w.heap.size 106 [.int .i64 0,.int .i64 0]:=by
    obtain⟨G',k1,k2,k3⟩:=ht2
    exact k2.row HROW.out fun hg=>by have:=HLT.out _ hg;omega
   have HS2:Hid (∀w3,Far (fun k=>k=w.heap.size) w2 w3→SysTo w G p {F with S:=S'} n w3):=fun w3 hf=>ht2.own HB.out (Nat.le_refl _) (by rw[HZ.out];omega) HLT.out HBUF.out hf
   have b0:w2.cell? ⟨w.heap.size,0,none⟩=some (.int .i64 0):=hg2.cell 0
   have b1:w2.cell? ⟨w.heap.size,1,none⟩=some (.int .i64 0):=hg2.cell 1
   have f0:=hg2.free 0
   have f1:=hg2.free 1
   have HG2:=Lib.hid hg2
   clear ht2 hn hg2 HBK HT
   go_wp2
   have hg3:Row ((w2.setCell ⟨w.heap.size,0,none⟩ (.int .i64 (a:Int))).setCell ⟨w.heap.size,1,none⟩ (.int .i64 (m:Int))) w.heap.size 106 [.int .i64 (a:Int),.int .i64 (m:Int)]:=(HG2.out.set 0 _).set 1 _
   have r0:=hg3.cell 0
   have r1:=hg3.cell 1
   refine bodyPost_ret (v:=.tuple #[.agg #[.int .i64 (a:Int),.int .i64 (m:Int)],.int .i64 0]) (by simp[results,Tryz.results70,go_sem,r0,r1]) rfl ⟨rfl,HS2.out _ (Far.two _ _ _ _ _ _)⟩
  ·rw[if_neg he]
   have g1:((er:Int) !=0)=true:=by simpa using he
   go_enter Tryz.func70,Tryz.ntmps70
   go_wp2_with fail
   refine HT.out.mono ?_;rintro e w2 ⟨rfl,hn⟩
   have ht2:=HBK.out _ _ hn
   have hg2:Row w2 w.heap.size 106 [.int .i64 0,.int .i64 0]:=by
    obtain⟨G',k1,k2,k3⟩:=ht2
    exact k2.row HROW.out fun hg=>by have:=HLT.out _ hg;omega
   have HS2:Hid (∀w3,Far (fun k=>k=w.heap.size) w2 w3→SysTo w G p {F with S:=S'} n w3):=fun w3 hf=>ht2.own HB.out (Nat.le_refl _) (by rw[HZ.out];omega) HLT.out HBUF.out hf
   have b0:w2.cell? ⟨w.heap.size,0,none⟩=some (.int .i64 0):=hg2.cell 0
   have b1:w2.cell? ⟨w.heap.size,1,none⟩=some (.int .i64 0):=hg2.cell 1
   have f0:=hg2.free 0
   have f1:=hg2.free 1
   have HG2:=Lib.hid hg2
   clear ht2 hn hg2 HBK HT
   go_wp2
   have hg3:Row ((w2.setCell ⟨w.heap.size,0,none⟩ (.int .i64 0)).setCell ⟨w.heap.size,1,none⟩ (.int .i64 0)) w.heap.size 106 [.int .i64 0,.int .i64 0]:=(HG2.out.set 0 _).set 1 _
   have r0:=hg3.cell 0
   have r1:=hg3.cell 1
   refine bodyPost_ret (v:=.tuple #[.agg #[.int .i64 0,.int .i64 0],.int .i64 (er:Int)]) (by simp[results,Tryz.results70,go_sem,r0,r1]) rfl ⟨rfl,HS2.out _ (Far.two _ _ _ _ _ _)⟩
theorem SysTo.cell{w w1:World}{G:Nat→Prop}{p:Wp}{F:Fs}{n:Nat}(h:SysTo w G p F n w1):w1.cell? ⟨p.w,0,none⟩=some (.pointer (some ⟨p.d,0,none⟩))∧w1.cell? ⟨p.w,1,none⟩=some (.pointer (some ⟨p.a,0,none⟩))∧w1.cell? ⟨p.w,2,none⟩=some (.pointer (some ⟨p.s,0,none⟩)):=by
 obtain⟨G',h1,_⟩:=h
 exact⟨h1.row.cell 0,h1.row.cell 1,h1.row.cell 2⟩
theorem SysTo.row{w w1:World}{G:Nat→Prop}{p:Wp}{F:Fs}{n g:Nat}{t:TypeId}{cs:List Value}(h:SysTo w G p F n w1)(hr:Row w g t cs)(hg:¬G g):Row w1 g t cs:=by
 obtain⟨G',h1,h2,_⟩:=h
 exact h2.row hr hg
theorem SysTo.trans{w w1 w':World}{G:Nat→Prop}{p:Wp}{F F':Fs}{n n':Nat}(h:SysTo w G p F n w1)(h2:∀G',Sys w1 G' p F n→(∀k,G' k→G k∨w.heap.size≤k)→SysTo w1 G' p F' n' w'):SysTo w G p F' n' w':=by
 obtain⟨G',h1,h3,h4⟩:=h
 obtain⟨G'',k1,k2,k3⟩:=h2 G' h1 h4
 exact⟨G'',k1,h3.trans k2 h4,fun k hk=>(k3 k hk).elim (fun h=>h4 k h) fun h=>.inr (Nat.le_trans h3.size h)⟩
theorem fgive_any{w:World}{G:Nat→Prop}{p:Wp}{F:Fs}{n:Nat}(h:Sys w G p F n)(f m:Nat)(hf:f≤100000000)(hm:m≤100000000):
  Calls Tryz.prog 72 #[.pointer (some ⟨p.w,0,none⟩),.agg #[.int .i64 f,.int .i64 m]] w fun e w'=>e=.returned (.tuple #[])∧SysTo w G p {F with S:=giveN F.S f m} n w':=by
 have hb1:=(Below.refl w.heap.size w).alloc (Nat.le_refl _) (.cells #[.int .i64 f,.int .i64 m] 106)
 have hrow:Row (w.alloc (.cells #[.int .i64 f,.int .i64 m] 106)) w.heap.size 106 [.int .i64 f,.int .i64 m]:=heap_alloc_new _ _
 have hnG:¬G w.heap.size:=fun hg=>by have:=h.lt hg;omega
 by_cases hm0:m=0
 ·subst hm0
  have e0:giveN F.S f 0=F.S:=rfl
  rw[e0]
  have HX:Hid (SysTo w G p F n (w.alloc (.cells #[.int .i64 f,.int .i64 0] 106))):=SysTo.of_below h hb1
  clear h hb1 hrow e0
  go_enter Tryz.func72,Tryz.ntmps72
  go_wp2
  go_end0
  exact⟨rfl,HX.out⟩
 ·have g0:decide ((m:Int)>0)=true:=by simp;omega
  have e0:giveN F.S f m=(giveS F.S f m).1:=by unfold giveN;rw[if_neg hm0]
  have h1:=h.below hb1
  have HGV:Hid (∀q,Calls Tryz.prog 86 #[.pointer (some ⟨p.s,0,none⟩),.int .i64 f,.int .i64 m] ((w.alloc (.cells #[.int .i64 f,.int .i64 m] 106)).drewN q) fun e w'=>e=.returned (.int .i64 ((giveS F.S f m).2:Nat))∧SysTo ((w.alloc (.cells #[.int .i64 f,.int .i64 m] 106)).drewN q) G p {F with S:=(giveS F.S f m).1} n w'):=fun q=>by
   obtain⟨Gs,hs,hback⟩:=(h1.below (below_drewN (Below.refl _ _) q)).spc
   exact(give_any p.s F.S Gs f m _ hs (I64.of (by omega) (by omega)) (I64.of (by omega) (by omega))).mono fun e w' ⟨he,hn⟩=>⟨he,hback _ _ hn⟩
  have c2:(w.alloc (.cells #[.int .i64 f,.int .i64 m] 106)).cell? ⟨p.w,2,none⟩=some (.pointer (some ⟨p.s,0,none⟩)):=h1.row.cell 2
  have b0:(w.alloc (.cells #[.int .i64 f,.int .i64 m] 106)).cell? ⟨w.heap.size,0,none⟩=some (.int .i64 f):=hrow.cell 0
  have b1:(w.alloc (.cells #[.int .i64 f,.int .i64 m] 106)).cell? ⟨w.heap.size,1,none⟩=some (.int .i64 m):=hrow.cell 1
  have HB:=Lib.hid hb1
  have HROW:=Lib.hid hrow
  rw[e0]
  clear h1 h hb1 hrow e0
  generalize giveS F.S f m=q at*
  go_enter Tryz.func72,Tryz.ntmps72
  go_wp2
  generalize w.alloc (.cells #[.int .i64 f,.int .i64 m] 106)=w1 at*
  have e0:w1.drew.cell? ⟨p.w,2,none⟩=some (.pointer (some ⟨p.s,0,none⟩)):=c2
  have e1:w1.drew.cell? ⟨w.heap.size,0,none⟩=some (.int .i64 (f:Int)):=b0
  have e2:w1.drew.cell? ⟨w.heap.size,1,none⟩=some (.int .i64 (m:Int)):=b1
  go_region_held3 (fun w'=>w'.cell? ⟨p.w,2,none⟩=some (.pointer (some ⟨p.s,0,none⟩))∧w'.cell? ⟨w.heap.size,0,none⟩=some (.int .i64 (f:Int))∧w'.cell? ⟨w.heap.size,1,none⟩=some (.int .i64 (m:Int))) (first|with_reducible exact⟨e0,e1,e2⟩|with_reducible exact⟨d0,d1,d2⟩)
   (first
    |(go_at_call 86;refine(HGV.out 1).mono ?_;rintro e w5 ⟨rfl,h5⟩;have d0:=h5.cell.2.2;have d1:w5.cell? ⟨w.heap.size,0,none⟩=some (.int .i64 (f:Int)):=(h5.row (HROW.out.drewN 1) hnG).cell 0;have d2:w5.cell? ⟨w.heap.size,1,none⟩=some (.int .i64 (m:Int)):=(h5.row (HROW.out.drewN 1) hnG).cell 1))
  go_wp2
  go_end0
  exact⟨rfl,h5.behind (below_drewN HB.out 1)⟩
structure Wt where
 k:Nat
 h:Nat
 bound:Nat
 first:Nat
 blocks:Nat
 b:Nat
 g:Nat
 l:List Tup
def wrC(p:Wp)(t:Wt):List Value:=[.int .i64 t.k,.int .i64 t.h,.pointer (some ⟨p.w,0,none⟩),.int .i64 t.bound,.int .i64 (t.l.length:Nat),.int .i64 t.first,.int .i64 t.blocks,.pointer (some ⟨t.b,0,none⟩)]
structure WtOk (t:Wt) (sz:Nat):Prop where
 k:0<t.k∧t.k≤5
 h:0<t.h∧t.h*t.k≤sz-2∧t.h≤254
 sz:8≤sz∧sz≤256
 bound:t.bound≤100000000∧t.l.length≤t.bound
 blocks:t.blocks=blocksN t.h t.bound∧t.blocks≤2000000
 first:t.first≤2000000
def EndTo(w:World)(G:Nat→Prop)(b:Nat)(p:Wp)(F:Fs)(n:Nat)(w':World):Prop:=
 ∃G',Sys w' G' p F n∧Far (fun k=>G k∨k=b) w w'∧(∀k,G' k→G k∨w.heap.size≤k)∧Row w' b 132 [.slice none 0 0]
theorem EndTo.behind{w w1 w':World}{G:Nat→Prop}{b n:Nat}{p:Wp}{F:Fs}(hb:Below w.heap.size w w1)(h:EndTo w1 G b p F n w'):EndTo w G b p F n w':=by
 obtain⟨G',h1,h2,h3,h4⟩:=h
 exact⟨G',h1,(Far.of_below hb (fun k=>G k∨k=b)).trans h2 fun b hb'=>.inl hb',fun k hk=>(h3 k hk).imp id fun h=>Nat.le_trans hb.size h,h4⟩
theorem EndTo.cell{w w1:World}{G:Nat→Prop}{b n:Nat}{p:Wp}{F:Fs}(h:EndTo w G b p F n w1):w1.cell? ⟨p.w,0,none⟩=some (.pointer (some ⟨p.d,0,none⟩))∧w1.cell? ⟨p.w,1,none⟩=some (.pointer (some ⟨p.a,0,none⟩))∧w1.cell? ⟨p.w,2,none⟩=some (.pointer (some ⟨p.s,0,none⟩)):=by
 obtain⟨G',h1,_⟩:=h
 exact⟨h1.row.cell 0,h1.row.cell 1,h1.row.cell 2⟩
theorem EndTo.row{w w1:World}{G:Nat→Prop}{b n g:Nat}{p:Wp}{F:Fs}{t:TypeId}{cs:List Value}(h:EndTo w G b p F n w1)(hr:Row w g t cs)(hg:¬G g)(hb:g≠b):Row w1 g t cs:=by
 obtain⟨G',h1,h2,_⟩:=h
 exact h2.row hr fun h=>h.elim hg hb
theorem EndTo.ahead{w w1 w':World}{G:Nat→Prop}{b n:Nat}{p:Wp}{F F':Fs}{n':Nat}(h:SysTo w G p F n w1)(hb:b<w.heap.size)(hG:¬G b)(h2:∀G',Sys w1 G' p F n→(∀k,G' k→G k∨w.heap.size≤k)→¬G' b→EndTo w1 G' b p F' n' w'):EndTo w G b p F' n' w':=by
 obtain⟨G',h1,h3,h4,h5⟩:=h.apart
 obtain⟨G'',k1,k2,k3,k4⟩:=h2 G' h1 h4 (h5 b hb hG)
 refine⟨G'',k1,(h3.mono fun k hk=>.inl hk).trans k2 fun k hk=>hk.elim (fun h=>(h4 k h).imp_left .inl) fun h=>.inl (.inr h),fun k hk=>(k3 k hk).elim (fun h=>h4 k h) fun h=>.inr (Nat.le_trans h3.size h),k4⟩
theorem EndTo.from{w w1 w':World}{G G':Nat→Prop}{b n:Nat}{p:Wp}{F:Fs}(h1:Far G w w1)(h2:∀k,G' k→G k∨w.heap.size≤k)(h:EndTo w1 G' b p F n w'):EndTo w G b p F n w':=by
 obtain⟨G'',k1,k2,k3,k4⟩:=h
 exact⟨G'',k1,(h1.mono fun k hk=>.inl hk).trans k2 fun k hk=>hk.elim (fun h=>(h2 k h).imp_left .inl) fun h=>.inl (.inr h),fun k hk=>(k3 k hk).elim (fun h=>h2 k h) fun h=>.inr (Nat.le_trans h1.size h),k4⟩
theorem sys_release{w:World}{G:Nat→Prop}{p:Wp}{F:Fs}{n:Nat}(h:Sys w G p F n){b m:Nat}(hb:wordsAt F.A.st b=some m):
  Calls Tryz.prog 64 #[.pointer (some ⟨p.a,0,none⟩),.pointer (some ⟨b,0,none⟩)] w fun e w'=>e=.returned (.bool true)∧EndTo w G b p {F with A:=release F.A b m} n w':=by
 obtain⟨hbuf,hbG⟩:=h.buf (wordsAt_mem _ _ _ hb)
 obtain⟨Ga,ha,_,hrel⟩:=h.arn
 refine(release_any p.a F.A Ga b m w ha hbuf hb).mono ?_
 rintro e w' ⟨he,h1,h2,h3⟩
 obtain⟨k1,k2⟩:=hrel w' b m h1 h3 hbG
 exact⟨he,G,k1,k2,fun k hk=>.inl hk,h2⟩
section
variable {w : World} {x : Nat} {p : Wp} {t : Wt}
theorem wclosed_any{A:Option Addr}{m c:Nat}(hr:Row w x 142 (wrC p t))(hb:Row w t.b 132 [.slice A m c]):Calls Tryz.prog 73 #[.pointer (some ⟨x,0,none⟩)] w fun e w'=>e=.returned (.bool (!decide (0<m)))∧w'=w:=by
 have c7:w.cell? ⟨x,7,none⟩=some (.pointer (some ⟨t.b,0,none⟩)):=hr.cell 7
 have HS:=Lib.hid (stnd_any hb)
 clear hb hr
 go_enter Tryz.func73,Tryz.ntmps73
 go_wp2_with fail
 refine HS.out.mono ?_;rintro e w1 ⟨rfl,rfl⟩
 go_wp2
 go_ret
 exact⟨ret_bool (by simp),rfl⟩
end
def endF(F:Fs)(t:Wt)(kept:Nat):Fs:={F with S:=giveN F.S (t.first+kept) (t.blocks-kept),A:=release F.A t.b F.D.size}
theorem wend_any{w:World}{G:Nat→Prop}{p:Wp}{F:Fs}{n x:Nat}{t:Wt}(h:Sys w G p F n)(hr:Row w x 142 (wrC p t))(hx:¬G x)(hst:wordsAt F.A.st t.b=some F.D.size)(hxb:x≠t.b)(hf:t.first≤2000000)(hbl:t.blocks≤2000000)(kept:Nat)(hk:kept≤t.blocks):
  Calls Tryz.prog 74 #[.pointer (some ⟨x,0,none⟩),.int .i64 kept] w fun e w'=>e=.returned (.tuple #[])∧EndTo w G t.b p (endF F t kept) n w':=by
 obtain⟨_,hbG⟩:=h.buf (wordsAt_mem _ _ _ hst)
 have hbl2:t.b<w.heap.size:=(h.buf (wordsAt_mem _ _ _ hst)).1.lt
 have hnx:=Row.lt hr
 have HGV:Hid (Calls Tryz.prog 72 #[.pointer (some ⟨p.w,0,none⟩),.agg #[.int .i64 (t.first+kept:Nat),.int .i64 (t.blocks-kept:Nat)]] w.drew fun e w'=>e=.returned (.tuple #[])∧SysTo w G p {F with S:=giveN F.S (t.first+kept) (t.blocks-kept)} n w'):=
  (fgive_any (h.below (below_drew (Below.refl _ w))) _ _ (by omega) (by omega)).mono fun e w' ⟨he,h1⟩=>⟨he,h1.behind (below_drew (Below.refl _ w))⟩
 have HRL:Hid (∀w1,SysTo w G p {F with S:=giveN F.S (t.first+kept) (t.blocks-kept)} n w1→Calls Tryz.prog 64 #[.pointer (some ⟨p.a,0,none⟩),.pointer (some ⟨t.b,0,none⟩)] w1.drew fun e w'=>e=.returned (.bool true)∧EndTo w G t.b p (endF F t kept) n w'∧Row w' x 142 (wrC p t)):=fun w1 h1=>by
  have hr1:=h1.row hr hx
  obtain⟨G',k1,k2,k3,k4⟩:=h1.apart
  refine(sys_release (k1.below (below_drew (Below.refl _ w1))) (show wordsAt F.A.st t.b=some F.D.size from hst)).mono fun e w' ⟨he,h2⟩=>⟨he,?_⟩
  obtain⟨G'',m1,m2,m3,m4⟩:=h2
  have m2':Far (fun k=>G' k∨k=t.b) w1 w':=⟨m2.os,m2.tape,m2.output,m2.size,m2.block⟩
  refine⟨⟨G'',m1,(k2.mono fun k hk=>.inl hk).trans m2' fun k hk=>hk.elim (fun h=>(k3 k h).imp_left .inl) fun h=>.inl (.inr h),fun k hk=>(m3 k hk).elim (fun h=>k3 k h) fun h=>.inr (Nat.le_trans k2.size h),m4⟩,m2'.row hr1 ?_⟩
  rintro(h5|h5)
  ·exact k4 x hnx hx h5
  ·exact hxb h5
 have HROW:Hid (∀w1,SysTo w G p {F with S:=giveN F.S (t.first+kept) (t.blocks-kept)} n w1→Row w1 x 142 (wrC p t)):=fun w1 h1=>h1.row hr hx
 generalize endF F t kept=F2 at*
 obtain⟨tk,th,bound,first,blocks,b,g,l⟩:=t
 simp only[wrC]at*
 generalize l.length=cnt at*
 generalize({F with S:=giveN F.S (first+kept) (blocks-kept)}:Fs)=F1 at*
 obtain⟨u,hu⟩:∃u,first+kept=u:=⟨_,rfl⟩
 obtain⟨v,hv⟩:∃v,blocks-kept=v:=⟨_,rfl⟩
 rw[hu,hv]at HGV
 have hadd:(first:Int)+(kept:Int)=(u:Int):=by omega
 have hsub:(blocks:Int)-(kept:Int)=(v:Int):=by omega
 have hu2:u≤4000000:=by omega
 have hv2:v≤2000000:=by omega
 have c2:w.drew.cell? ⟨x,2,none⟩=some (.pointer (some ⟨p.w,0,none⟩)):=hr.cell 2
 have c5:w.drew.cell? ⟨x,5,none⟩=some (.int .i64 first):=hr.cell 5
 have c6:w.drew.cell? ⟨x,6,none⟩=some (.int .i64 blocks):=hr.cell 6
 have b2:w.cell? ⟨x,2,none⟩=some (.pointer (some ⟨p.w,0,none⟩)):=hr.cell 2
 have b5:w.cell? ⟨x,5,none⟩=some (.int .i64 first):=hr.cell 5
 have b6:w.cell? ⟨x,6,none⟩=some (.int .i64 blocks):=hr.cell 6
 clear hu hv hr h hst hk hbl hf hx hxb hbl2 hbG hnx
 have hwu:IntKind.i64.wrap (u:Int)=(u:Int):=IntWalk.i64_in _ (by omega)
 have hwv:IntKind.i64.wrap (v:Int)=(v:Int):=IntWalk.i64_in _ ⟨by clear hwu;omega,by clear hwu;omega⟩
 go_enter Tryz.func74,Tryz.ntmps74
 go_wp2
 go_region_held3 (fun w'=>w'.cell? ⟨x,2,none⟩=some (.pointer (some ⟨p.w,0,none⟩))∧w'.cell? ⟨x,5,none⟩=some (.int .i64 (first:Int))∧w'.cell? ⟨x,6,none⟩=some (.int .i64 (blocks:Int))) (first|with_reducible exact⟨c2,c5,c6⟩|with_reducible exact⟨d2,d5,d6⟩)
  (first
   |(go_at_call 72;refine HGV.out.mono ?_;rintro e w1 ⟨rfl,h1⟩;have hr1:=HROW.out _ h1;have d2:w1.cell? ⟨x,2,none⟩=some (.pointer (some ⟨p.w,0,none⟩)):=hr1.cell 2;have d5:w1.cell? ⟨x,5,none⟩=some (.int .i64 (first:Int)):=hr1.cell 5;have d6:w1.cell? ⟨x,6,none⟩=some (.int .i64 (blocks:Int)):=hr1.cell 6))
 have e2:w1.drew.cell? ⟨x,2,none⟩=some (.pointer (some ⟨p.w,0,none⟩)):=d2
 have d7:w1.cell? ⟨x,7,none⟩=some (.pointer (some ⟨b,0,none⟩)):=hr1.cell 7
 have e7:w1.drew.cell? ⟨x,7,none⟩=some (.pointer (some ⟨b,0,none⟩)):=hr1.cell 7
 have d1:=h1.cell.2.1
 have e1:w1.drew.cell? ⟨p.w,1,none⟩=some (.pointer (some ⟨p.a,0,none⟩)):=d1
 have HRM:=Lib.hid (HRL.out w1 h1)
 clear h1 hr1 HGV HROW HRL c2 c5 c6 b2 b5 b6 d5 d6
 go_wp2
 go_region_held3 (fun w'=>w'.cell? ⟨x,2,none⟩=some (.pointer (some ⟨p.w,0,none⟩))∧w'.cell? ⟨x,7,none⟩=some (.pointer (some ⟨b,0,none⟩))∧w'.cell? ⟨p.w,1,none⟩=some (.pointer (some ⟨p.a,0,none⟩))) (first|with_reducible exact⟨e2,e7,e1⟩|with_reducible exact⟨f2,f7,f1⟩)
  (first
   |(go_at_call 64;refine HRM.out.mono ?_;rintro e w2 ⟨rfl,h2,hr2⟩;have f2:w2.cell? ⟨x,2,none⟩=some (.pointer (some ⟨p.w,0,none⟩)):=hr2.cell 2;have f7:w2.cell? ⟨x,7,none⟩=some (.pointer (some ⟨b,0,none⟩)):=hr2.cell 7;have f1:=h2.cell.2.1))
 go_wp2
 go_end0
 exact⟨rfl,h2⟩
theorem wdrop_any{w:World}{G:Nat→Prop}{p:Wp}{F:Fs}{n x:Nat}{t:Wt}{A:Option Addr}{m c:Nat}(h:Sys w G p F n)(hr:Row w x 142 (wrC p t))(hb:Row w t.b 132 [.slice A m c])(hm:0<m)(hx:¬G x)(hst:wordsAt F.A.st t.b=some F.D.size)(hxb:x≠t.b)(hf:t.first≤2000000)(hbl:t.blocks≤2000000):
  Calls Tryz.prog 53 #[.pointer (some ⟨x,0,none⟩)] w fun e w'=>(e=.returned (.tuple #[])∧EndTo w G t.b p (endF F t 0) n w'):=by
 have hc:=wclosed_any hr hb
 rw[decide_eq_true hm]at hc
 have HC:=Lib.hid hc
 have HW:Hid (Calls Tryz.prog 74 #[.pointer (some ⟨x,0,none⟩),.int .i64 0] w fun e w'=>e=.returned (.tuple #[])∧EndTo w G t.b p (endF F t 0) n w'):=wend_any h hr hx hst hxb hf hbl 0 (Nat.zero_le _)
 clear hc h hr hb hm hx hst hxb hf hbl
 go_enter Tryz.func53,Tryz.ntmps53
 go_wp2_with fail
 refine HC.out.mono ?_;rintro e w1 ⟨rfl,rfl⟩
 go_wp2_with fail
 refine HW.out.mono ?_;rintro e w2 ⟨rfl,h2⟩
 have H2:=Lib.hid h2
 clear h2
 go_wp2
 go_end0
 exact⟨rfl,H2.out⟩
theorem wdrop_def(u:FrameMode){w:World}{G:Nat→Prop}{p:Wp}{F:Fs}{n x:Nat}{t:Wt}{A:Option Addr}{m c:Nat}(h:Sys w G p F n)(hr:Row w x 142 (wrC p t))(hb:Row w t.b 132 [.slice A m c])(hm:0<m)(hx:¬G x)(hst:wordsAt F.A.st t.b=some F.D.size)(hxb:x≠t.b)(hf:t.first≤2000000)(hbl:t.blocks≤2000000):
  CallsD Tryz.prog 53 #[.pointer (some ⟨x,0,none⟩)] u w fun e u' w'=>u'=u∧(e=.returned (.tuple #[])∧EndTo w G t.b p (endF F t 0) n w'):=by
 have hc:=wclosed_any hr hb
 rw[decide_eq_true hm]at hc
 have HC:=Lib.hid hc
 have HW:Hid (Calls Tryz.prog 74 #[.pointer (some ⟨x,0,none⟩),.int .i64 0] w fun e w'=>e=.returned (.tuple #[])∧EndTo w G t.b p (endF F t 0) n w'):=wend_any h hr hx hst hxb hf hbl 0 (Nat.zero_le _)
 clear hc h hr hb hm hx hst hxb hf hbl
 go_enter_d Tryz.func53,Tryz.ntmps53
 go_wp2_with fail
 refine HC.out.mono ?_;rintro e w1 ⟨rfl,rfl⟩
 go_wp2_with fail
 refine HW.out.mono ?_;rintro e w2 ⟨rfl,h2⟩
 have H2:=Lib.hid h2
 clear h2
 go_wp2
 go_end0
 exact⟨rfl,H2.out⟩
theorem wdrop_def_shut(u:FrameMode){w:World}{p:Wp}{x:Nat}{t:Wt}{A:Option Addr}{c:Nat}(hr:Row w x 142 (wrC p t))(hb:Row w t.b 132 [.slice A 0 c]):
  CallsD Tryz.prog 53 #[.pointer (some ⟨x,0,none⟩)] u w fun e u' w'=>u'=u∧(e=.returned (.tuple #[])∧w'=w):=by
 have hc:=wclosed_any hr hb
 rw[decide_eq_false (Nat.lt_irrefl 0)]at hc
 have HC:=Lib.hid hc
 clear hc hr hb
 go_enter_d Tryz.func53,Tryz.ntmps53
 go_wp2_with fail
 refine HC.out.mono ?_;rintro e w1 ⟨rfl,rfl⟩
 go_wp2
 go_end0
 exact⟨rfl,rfl⟩
structure WMem (w:World) (x:Nat) (p:Wp) (t:Wt) (sz:Nat) (ws:List Nat):Prop where
 row:Row w x 142 (wrC p t)
 buf:Row w t.b 132 [.slice (some ⟨t.g,0,none⟩) sz sz]
 words:Row w t.g 133 (ws.map vw)
 len:ws.length=sz
 u64:U64s ws
structure WOut (G:Nat→Prop) (x:Nat) (t:Wt):Prop where
 x:¬G x
 b:¬G t.b
 g:¬G t.g
theorem WMem.far{w w':World}{x:Nat}{p:Wp}{t:Wt}{sz:Nat}{ws:List Nat}{R:Nat→Prop}(h:WMem w x p t sz ws)(hf:Far R w w')(h1:¬R x)(h2:¬R t.b)(h3:¬R t.g):WMem w' x p t sz ws:=⟨hf.row h.row h1,hf.row h.buf h2,hf.row h.words h3,h.len,h.u64⟩
theorem WMem.below{w w':World}{x:Nat}{p:Wp}{t:Wt}{sz:Nat}{ws:List Nat}(h:WMem w x p t sz ws)(hb:Below w.heap.size w w'):WMem w' x p t sz ws:=h.far (Far.of_below hb fun _=>False) (fun h=>h) (fun h=>h) (fun h=>h)
theorem WMem.lt{w:World}{x:Nat}{p:Wp}{t:Wt}{sz:Nat}{ws:List Nat}(h:WMem w x p t sz ws):x<w.heap.size∧t.b<w.heap.size∧t.g<w.heap.size:=⟨h.row.lt,h.buf.lt,h.words.lt⟩
theorem WMem.apart{w:World}{x:Nat}{p:Wp}{t:Wt}{sz:Nat}{ws:List Nat}(h:WMem w x p t sz ws):x≠t.b∧x≠t.g∧t.b≠t.g:=
 ⟨fun e=>absurd (h.row.typed (e▸h.buf)) (by decide),fun e=>absurd (h.row.typed (e▸h.words)) (by decide),fun e=>absurd (h.buf.typed (e▸h.words)) (by decide)⟩
theorem write_size2(s:St)(i:Int)(l:List Nat):(write s i l).2.size=s.size∧(write s i l).2.blocks=s.blocks:=by
 obtain⟨e1,e2,e3,e4⟩:=begin_same s (right s i&&decide (l.length=s.size))
 unfold write
 dsimp only
 split
 ·exact⟨e1,e2⟩
 ·exact⟨e1,e2⟩
theorem sys_write{w:World}{G:Nat→Prop}{p:Wp}{F:Fs}{n:Nat}(h:Sys w G p F n)(hn:n<1000000)(i:Int)(hi:I64 i)(A:Option Addr)(m c:Nat)(l:List Nat){B:Nat}(hl:Reads .u64 w B A m l)(hB:B≤w.heap.size):
  Calls Tryz.prog 90 #[.pointer (some ⟨p.d,0,none⟩),.int .i64 i,.slice A m c] w fun e w'=>e=.returned (.int .i64 (write F.D i l).1)∧SysTo w G p {F with D:=(write F.D i l).2} (n+1) w':=by
 obtain⟨Gd,hd,hback⟩:=h.dev
 exact(write_any p.d F.D n Gd i A m c l w hd hn hi hl hB).mono fun e w' ⟨he,h1⟩=>⟨he,hback _ _ _ h1⟩
def lastAd(t:Wt):Nat:=t.first+(blocksN t.h t.l.length-1)
def lastW8(sz:Nat)(t:Wt):List Nat:=sealW sz (lastAd t) t.k (flatT t.k (lastT t.h t.l))
def LastTo(w:World)(G:Nat→Prop)(p:Wp)(F:Fs)(n:Nat)(t:Wt)(e:Ending)(w':World):Prop:=
  e=.returned (.int .i64 (write F.D (lastAd t:Nat) (lastW8 F.D.size t)).1)∧
  (((write F.D (lastAd t:Nat) (lastW8 F.D.size t)).1=0∧SysTo w G p {F with D:=(write F.D (lastAd t:Nat) (lastW8 F.D.size t)).2} (n+1) w')∨
   ((write F.D (lastAd t:Nat) (lastW8 F.D.size t)).1≠0∧EndTo w G t.b p (endF {F with D:=(write F.D (lastAd t:Nat) (lastW8 F.D.size t)).2} t 0) (n+1) w'))
theorem wlast_any{w:World}{G:Nat→Prop}{p:Wp}{F:Fs}{n x:Nat}{t:Wt}{ws:List Nat}(h:Sys w G p F n)(hn:n<1000000)(hok:WtOk t F.D.size)(hm:WMem w x p t F.D.size ws)(ho:WOut G x t)(hst:wordsAt F.A.st t.b=some F.D.size)(hl:0<t.l.length)
  (hws:ws.take ((lastT t.h t.l).length*t.k)=flatT t.k (lastT t.h t.l)):Calls Tryz.prog 76 #[.pointer (some ⟨x,0,none⟩)] w (LastTo w G p F n t):=by
 obtain⟨i0,hi,hz0,hz1,hz2⟩:=info_parts infoW
 obtain⟨hx,hbw,hgw⟩:=hm.lt
 obtain⟨hxb,hxg,hbg⟩:=hm.apart
 have hsz:=hok.sz
 have hk:=hok.k
 have hh:=hok.h
 have hbd:=hok.bound
 have hbl:=hok.blocks
 have hfi:=hok.first
 obtain⟨l1,l2,l3⟩:=lastT_len hh.1 hl
 have hbp:=blocks_pos hh.1 hl
 have hble:=blocks_le t.h t.l.length
 obtain⟨j,hj⟩:∃j,j=blocksN t.h t.l.length-1:=⟨_,rfl⟩
 have hj1:((blocksN t.h t.l.length:Nat):Int)-1=(j:Int):=by omega
 obtain⟨ad,had⟩:∃ad,ad=t.first+j:=⟨_,rfl⟩
 have hadd:(t.first:Int)+(j:Int)=(ad:Int):=by omega
 have hjb:j≤2000000:=by
  have h1:=blocks_mono (h:=t.h) hh.1 hbd.2
  have:=hbl.1;have:=hbl.2;omega
 have hadb:ad≤4000000:=by omega
 obtain⟨m,hmm⟩:∃m,m=(lastT t.h t.l).length*t.k:=⟨_,rfl⟩
 have hme:min t.h (t.l.length-j*t.h)*t.k=m:=by rw[hmm,l3,←hj];congr 1;rw[l3,←hj]at l1;omega
 have hmb:m≤F.D.size-2:=by
  rw[hmm];exact Nat.le_trans (Nat.mul_le_mul_right _ l1) hh.2.1
 have hjh:j*t.h≤t.l.length:=by have:=(blocks_last hh.1 hl).1;rw[←hj]at this;omega
 have HBL:Hid (∀W,Calls Tryz.prog 60 #[.agg #[.int .i64 t.k,.int .i64 t.h],.int .i64 (t.l.length:Nat)] W fun e w'=>e=.returned (.int .i64 (blocksN t.h t.l.length:Nat))∧Below W.heap.size W w'):=fun W=>blks_any t.k t.h t.l.length W hh.1 hh.2.2 (by omega)
 have HWO:Hid (∀W,Calls Tryz.prog 82 #[.agg #[.int .i64 t.k,.int .i64 t.h],.int .i64 j,.int .i64 (t.l.length:Nat)] W fun e w'=>e=.returned (.int .i64 (m:Nat))∧Below W.heap.size W w'):=fun W=>by
  have:=wrds_any t.k t.h j t.l.length W hk.2 hh.2.2 (by omega) hjh
  rwa [hme]at this
 have HSZ:Hid (∀W,Below w.heap.size w W→Calls Tryz.prog 62 #[.pointer (some ⟨p.d,0,none⟩)] W fun e w'=>e=.returned (.int .i64 (F.D.size:Int))∧w'=W):=fun W hb=>(h.below hb).dsize_any
 have hku:∀y∈flatT t.k (lastT t.h t.l),(Lit.int .u64 (y:Nat)).wf=true:=fun y hy=>u64_wf (flatT_u64 _ _ y hy)
 have HPUT:Hid (∀W,Below w.heap.size w W→Calls Tryz.prog 89 #[.int .i64 (F.D.size:Int),.int .i64 ad,.int .u64 t.k,.slice (some ⟨t.g,0,none⟩) m F.D.size] W fun e w'=>e=.returned (.tuple #[.slice (some ⟨W.heap.size,0,none⟩) F.D.size F.D.size,.int .i64 0])∧Row w' W.heap.size 133 ((lastW8 F.D.size t).map vw)∧Below W.heap.size W w'):=fun W hb=>by
  have hrd:=((hm.words.below hb hgw).words (n:=m) (by rw[hm.len];omega) (fun y hy=>u64_wf (hm.u64 y hy)))
  rw[hmm,hws]at hrd
  rw[←hmm]at hrd
  have:=put_ok F.D.size ad t.k (some ⟨t.g,0,none⟩) m F.D.size _ W hrd (Nat.le_refl _) hsz.1 hsz.2 (by omega) (by omega) hmb
  unfold lastW8 lastAd;rw[←hj,←had];exact this
 have HLEN:Hid ((lastW8 F.D.size t).length=F.D.size∧∀y∈lastW8 F.D.size t,(Lit.int .u64 (y:Nat)).wf=true):=by
  have hfl:(flatT t.k (lastT t.h t.l)).length≤F.D.size-2:=by rw[flatT_len hk.2,←hmm];exact hmb
  exact⟨seal_len hfl (by omega),fun y hy=>u64_wf (seal_u64 (flatT_u64 _ _) (by omega) (by omega) y hy)⟩
 have HWR:Hid (∀W g8,Below w.heap.size w W→Row W g8 133 ((lastW8 F.D.size t).map vw)→Calls Tryz.prog 90 #[.pointer (some ⟨p.d,0,none⟩),.int .i64 ad,.slice (some ⟨g8,0,none⟩) F.D.size F.D.size] W fun e w'=>e=.returned (.int .i64 (write F.D (ad:Nat) (lastW8 F.D.size t)).1)∧SysTo w G p {F with D:=(write F.D (ad:Nat) (lastW8 F.D.size t)).2} (n+1) w'):=fun W g8 hb hr8=>by
  have hrd:=hr8.words (n:=F.D.size) (by rw[HLEN.out.1];exact Nat.le_refl _) HLEN.out.2
  rw[List.take_of_length_le (by rw[HLEN.out.1];exact Nat.le_refl _)]at hrd
  exact(sys_write (h.below hb) hn (ad:Int) (I64.of (by omega) (by omega)) _ _ _ _ hrd (Nat.le_refl _)).mono fun e w' ⟨he,h1⟩=>⟨he,h1.behind hb⟩
 have HDR:Hid (∀W D',D'.size=F.D.size→SysTo w G p {F with D:=D'} (n+1) W→Calls Tryz.prog 53 #[.pointer (some ⟨x,0,none⟩)] W fun e w'=>e=.returned (.tuple #[])∧EndTo w G t.b p (endF {F with D:=D'} t 0) (n+1) w'):=fun W D' hD h1=>by
  have hr1:=h1.row hm.row ho.x
  have hb1:=h1.row hm.buf ho.b
  obtain⟨G',k1,k2,k3,k4⟩:=h1.apart
  refine(wdrop_any k1 hr1 hb1 (by omega) (k4 x hx ho.x) (show wordsAt F.A.st t.b=some D'.size by rw[hD];exact hst) hxb hfi (by omega)).mono ?_
  rintro e w' ⟨he,h2⟩
  exact⟨he,EndTo.from k2 k3 h2⟩
 have HSE:Hid ((write F.D (ad:Nat) (lastW8 F.D.size t)).2.size=F.D.size):=(write_size2 _ _ _).1
 have HAD:Hid (lastAd t=ad):=by unfold Hid lastAd;rw[←hj,←had]
 have HROW:=Lib.hid hm.row
 have HBUF:=Lib.hid hm.buf
 have HC:Hid (∀W,Below w.heap.size w W→W.cell? ⟨x,0,none⟩=some (.int .i64 t.k)∧W.cell? ⟨x,1,none⟩=some (.int .i64 t.h)∧W.cell? ⟨x,4,none⟩=some (.int .i64 (t.l.length:Nat))∧W.cell? ⟨x,7,none⟩=some (.pointer (some ⟨t.b,0,none⟩))∧W.cell? ⟨t.b,0,none⟩=some (.slice (some ⟨t.g,0,none⟩) F.D.size F.D.size)):=fun W hb=>
  have r:=hm.row.below hb hx
  have rb:=hm.buf.below hb hbw
  ⟨r.cell 0,r.cell 1,r.cell 4,r.cell 7,rb.cell 0⟩
 have c2:∀W,Below w.heap.size w W→W.cell? ⟨x,2,none⟩=some (.pointer (some ⟨p.w,0,none⟩))∧W.cell? ⟨x,5,none⟩=some (.int .i64 t.first)∧W.cell? ⟨p.w,0,none⟩=some (.pointer (some ⟨p.d,0,none⟩)):=fun W hb=>
  have r:=hm.row.below hb hx
  have rw_:=(h.below hb).row
  ⟨r.cell 2,r.cell 5,rw_.cell 0⟩
 have HC2:=Lib.hid c2
 obtain⟨er,her⟩:∃er,er=(write F.D (ad:Nat) (lastW8 F.D.size t)).1:=⟨_,rfl⟩
 obtain⟨F1,hF1⟩:∃F1:Fs,F1={F with D:=(write F.D (ad:Nat) (lastW8 F.D.size t)).2}:=⟨_,rfl⟩
 have HDR2:Hid (∀W,SysTo w G p F1 (n+1) W→Calls Tryz.prog 53 #[.pointer (some ⟨x,0,none⟩)] W fun e w'=>e=.returned (.tuple #[])∧EndTo w G t.b p (endF F1 t 0) (n+1) w'):=fun W h1=>by
  subst hF1;exact HDR.out W _ HSE.out h1
 have HLT:Hid (∀w',((er=0∧SysTo w G p F1 (n+1) w')∨(er≠0∧EndTo w G t.b p (endF F1 t 0) (n+1) w'))→LastTo w G p F n t (.returned (.int .i64 er)) w'):=fun w' h1=>by
  subst her;subst hF1
  unfold LastTo;rw[HAD.out];exact⟨rfl,h1⟩
 rw[←her,←hF1]at HWR
 have hcut:=fun W=>run_head (P:=Tryz.prog) W 129 133 i0 Tryz.underlying129 hi (some ⟨t.g,0,none⟩) F.D.size F.D.size m (by omega) .i64 (m:Int) rfl
 generalize LastTo w G p F n t=POST at*
 generalize lastW8 F.D.size t=bk at*
 generalize endF F1 t 0=FE at*
 clear her hF1 HDR HSE HAD hws hst hok hm ho h l1 l2 l3 hbp hble hj hme hmm hi hz0 hz1 hz2 hl had hjh hku HLEN c2
 obtain⟨k,hh2,bound,first,blocks,b,g,l⟩:=t
 simp only at*
 generalize blocksN hh2 l.length=nb at*
 generalize l.length=cnt at*
 generalize F.D.size=size at*
 have hwj:IntKind.i64.wrap (j:Int)=(j:Int):=IntWalk.i64_in _ (by omega)
 have hwk:IntKind.u64.wrap (k:Int)=(k:Int):=IntWalk.u64_in _ ⟨by clear hwj;omega,by clear hwj;omega⟩
 clear hbl hbd hx hbw hgw hxb hxg hbg hfi
 have d1:=HC.out w (Below.refl _ _)
 have e1:=HC.out w.drew (below_drew (Below.refl _ _))
 go_enter Tryz.func76,Tryz.ntmps76
 go_wp2
 go_region_held3 (fun w'=>Below w.heap.size w w'∧w'.cell? ⟨x,0,none⟩=some (.int .i64 k)∧w'.cell? ⟨x,1,none⟩=some (.int .i64 hh2)∧w'.cell? ⟨x,4,none⟩=some (.int .i64 cnt)) (first|with_reducible exact⟨below_drew (Below.refl _ _),e1.1,e1.2.1,e1.2.2.1⟩|with_reducible exact⟨hb1,f1.1,f1.2.1,f1.2.2.1⟩)
  (first
   |(go_at_call 60;refine(HBL.out _).mono ?_;rintro e w1 ⟨rfl,hb1⟩;replace hb1:=(below_drew (Below.refl w.heap.size w)).trans hb1;have f1:=HC.out w1 hb1))
 obtain⟨g2,g5,gd⟩:=HC2.out w1 hb1
 have hbd:=below_drew hb1
 have q0:=HC.out w1 hb1
 have q1:=HC.out w1.drew hbd
 clear e1 f1 d1 HBL HC2
 go_wp2
 clear g2 g5 gd
 go_region_held3 (fun w'=>Below w.heap.size w w'∧w'.cell? ⟨x,0,none⟩=some (.int .i64 k)∧w'.cell? ⟨x,1,none⟩=some (.int .i64 hh2)∧w'.cell? ⟨x,4,none⟩=some (.int .i64 cnt)∧w'.cell? ⟨x,7,none⟩=some (.pointer (some ⟨b,0,none⟩))∧w'.cell? ⟨b,0,none⟩=some (.slice (some ⟨g,0,none⟩) size size))
  (first|with_reducible exact⟨hbd,q1⟩|with_reducible exact⟨hb2,q2⟩|with_reducible exact⟨hb3,q3⟩)
  (first
   |(go_at_call 62;(with_reducible refine(HSZ.out _ (by first|exact hbd|exact hb2)).mono ?_);rintro e w8 ⟨rfl,rfl⟩)
   |(go_at_call 82;(with_reducible refine(HWO.out _).mono ?_);rintro e w2 ⟨rfl,hb2⟩;replace hb2:=hbd.trans (hb2.mono hbd.size);have q2:=HC.out w2 hb2)
   |(go_at_call 89;(with_reducible refine(HPUT.out _ hb2).mono ?_);rintro e w3 ⟨rfl,hr3,hb3⟩;replace hb3:=hb2.trans (hb3.mono hb2.size);have q3:=HC.out w3 hb3;have HR3:=Lib.hid hr3;clear hr3))
 clear q0 q1 q2 q3 hb2 HPUT HWO HSZ HC hcut
 by_cases he:er=0
 ·subst he
  go_wp2_with fail
  refine(HWR.out w3 _ hb3 HR3.out).mono ?_;rintro e w4 ⟨rfl,h4⟩
  have H4:=Lib.hid (HLT.out w4 (.inl ⟨by trivial,h4⟩))
  clear h4 HLT HDR2 HWR
  go_wp2
  exact H4.out
 ·have g9:(er !=0)=true:=by simpa using he
  go_wp2_with fail
  refine(HWR.out w3 _ hb3 HR3.out).mono ?_;rintro e w4 ⟨rfl,h4⟩
  have H4:=Lib.hid h4
  clear h4 HWR
  go_wp2_with fail
  refine(HDR2.out w4 H4.out).mono ?_;rintro e w5 ⟨rfl,h5⟩
  have H5:=Lib.hid (HLT.out w5 (.inr ⟨he,h5⟩))
  clear h5 HLT HDR2
  go_wp2
  exact H5.out
def WOpen(w:World)(x:Nat)(p:Wp)(t:Wt)(sz:Nat):Prop:=∃ws,WMem w x p t sz ws∧Held t.k t.h t.l ws
def WShut(w:World)(x:Nat)(p:Wp)(t:Wt):Prop:=Row w x 142 (wrC p t)∧Row w t.b 132 [.slice none 0 0]
def Wt.snoc(t:Wt)(tu:Tup):Wt:={t with l:=t.l++[tu]}
def PutOk(w:World)(G:Nat→Prop)(x:Nat)(p:Wp)(F:Fs)(n:Nat)(t:Wt)(w':World):Prop:=
 ∃G',Sys w' G' p F n∧WOpen w' x p t F.D.size∧Far (fun k=>G k∨k=x∨k=t.g) w w'∧∀k,G' k→G k∨w.heap.size≤k
def PutEnd(w:World)(G:Nat→Prop)(x:Nat)(p:Wp)(F:Fs)(n:Nat)(t:Wt)(w':World):Prop:=
 ∃G',Sys w' G' p F n∧WShut w' x p t∧Far (fun k=>G k∨k=x∨k=t.g∨k=t.b) w w'∧∀k,G' k→G k∨w.heap.size≤k
def PutTo(w:World)(G:Nat→Prop)(x:Nat)(p:Wp)(F:Fs)(n:Nat)(t:Wt)(tu:Tup)(e:Ending)(w':World):Prop:=
  (fitsT t.k tu=false∧e=.returned (.int .i64 1)∧Below w.heap.size w w')∨
  (fitsT t.k tu=true∧t.l.length=t.bound∧e=.returned (.int .i64 5)∧Below w.heap.size w w')∨
  (fitsT t.k tu=true∧t.l.length<t.bound∧
    (((t.l.length+1)%t.h≠0∧e=.returned (.int .i64 0)∧PutOk w G x p F n (t.snoc tu) w')∨
     ((t.l.length+1)%t.h=0∧(write F.D (lastAd (t.snoc tu):Nat) (lastW8 F.D.size (t.snoc tu))).1=0∧e=.returned (.int .i64 0)∧PutOk w G x p {F with D:=(write F.D (lastAd (t.snoc tu):Nat) (lastW8 F.D.size (t.snoc tu))).2} (n+1) (t.snoc tu) w')∨
     ((t.l.length+1)%t.h=0∧(write F.D (lastAd (t.snoc tu):Nat) (lastW8 F.D.size (t.snoc tu))).1≠0∧e=.returned (.int .i64 (write F.D (lastAd (t.snoc tu):Nat) (lastW8 F.D.size (t.snoc tu))).1)∧PutEnd w G x p (endF {F with D:=(write F.D (lastAd (t.snoc tu):Nat) (lastW8 F.D.size (t.snoc tu))).2} (t.snoc tu) 0) (n+1) (t.snoc tu) w')))
theorem Sys.touch{w w':World}{G:Nat→Prop}{p:Wp}{F:Fs}{n:Nat}(h:Sys w G p F n){R:Nat→Prop}(hf:Far R w w')(hR:∀k,R k→¬G k∧∀v,¬Row w k 132 [v]):Sys w' G p F n:=
 h.far hf (fun k hk hr=>(hR k hr).1 hk) fun q hq hr=>by
  obtain⟨⟨v,hb⟩,_⟩:=h.buf hq
  exact(hR _ hr).2 v hb
theorem splice_set{α:Type}(L wl:List α)(off i:Nat)(u:α)(hi:wl[i]?=some u)(hl:off+wl.length≤L.length):(splice L off (wl.take i)).set (off+i) u=splice L off (wl.take (i+1)):=by
 have hil:i<wl.length:=(List.getElem?_eq_some_iff.1 hi).1
 apply List.ext_getElem?
 intro k
 have l1:(splice L off (wl.take i)).length=L.length:=splice_length L off _ (by rw[List.length_take];omega)
 rw[List.getElem?_set]
 by_cases hk:off+i=k
 ·subst hk
  rw[if_pos rfl,if_pos (by rw[l1];omega)]
  unfold splice
  rw[List.getElem?_append_right (by rw[List.length_take];omega),List.getElem?_append_left (by simp;omega),List.length_take,show off+i-min off L.length=i by omega,List.getElem?_take,if_pos (by omega),hi]
 ·rw[if_neg hk]
  by_cases h1:k<off∨off+(i+1)≤k
  ·rw[splice_get_out L off _ (by rw[List.length_take];omega) (by rw[List.length_take];omega),splice_get_out L off _ (by rw[List.length_take];omega) (by rw[List.length_take];omega)]
  ·unfold splice
   rw[List.getElem?_append_right (by rw[List.length_take];omega),List.getElem?_append_left (by simp;omega),List.getElem?_append_right (by rw[List.length_take];omega),List.getElem?_append_left (by simp;omega),List.getElem?_take,List.getElem?_take,if_pos (by simp;omega),if_pos (by simp;omega)]
theorem put_mid{w W:World}{G:Nat→Prop}{p:Wp}{F:Fs}{n x:Nat}{t:Wt}{ws:List Nat}(h:Sys w G p F n)(hok:WtOk t F.D.size)(hm:WMem w x p t F.D.size ws)(ho:WOut G x t)(hheld:Held t.k t.h t.l ws)(tu:Tup)(hless:t.l.length<t.bound)
  (hf:Far (fun k=>k=x∨k=t.g) w W) (hr:Row W x 142 (wrC p (t.snoc tu))) (hg:Row W t.g 133 ((splice ws (t.l.length%t.h*t.k) (wordsT t.k tu)).map vw)):
  Sys W G p F n∧WtOk (t.snoc tu) F.D.size∧WMem W x p (t.snoc tu) F.D.size (splice ws (t.l.length%t.h*t.k) (wordsT t.k tu))∧
   (splice ws (t.l.length%t.h*t.k) (wordsT t.k tu)).take ((lastT t.h (t.snoc tu).l).length*t.k)=flatT t.k (lastT t.h (t.snoc tu).l):=by
 obtain⟨hxb,hxg,hbg⟩:=hm.apart
 have hwl:=wordsT_len hok.k.2 tu
 have hmod:=Nat.mod_lt t.l.length hok.h.1
 have hof:t.l.length%t.h*t.k+t.k≤t.h*t.k:=by
  have:=Nat.mul_le_mul_right t.k (show t.l.length%t.h+1≤t.h by omega)
  rw[Nat.add_mul,Nat.one_mul]at this;exact this
 have hfit:t.l.length%t.h*t.k+(wordsT t.k tu).length≤ws.length:=by rw[hwl,hm.len];have:=hok.h.2.1;omega
 refine⟨h.touch hf ?_,⟨hok.k,hok.h,hok.sz,⟨hok.bound.1,by show (t.l++[tu]).length≤t.bound;simp;omega⟩,hok.blocks,hok.first⟩,⟨hr,hf.row hm.buf (by rintro(e|e);exact hxb e.symm;exact hbg e),hg,by rw[splice_length _ _ _ hfit];exact hm.len,?_⟩,?_⟩
 ·rintro k (rfl|rfl)
  ·exact⟨ho.x,fun v hv=>absurd (hm.row.typed hv) (by decide)⟩
  ·exact⟨ho.g,fun v hv=>absurd (hm.words.typed hv) (by decide)⟩
 ·intro y hy
  unfold splice at hy
  rcases List.mem_append.1 hy with hy|hy
  ·exact hm.u64 y (List.mem_of_mem_take hy)
  ·rcases List.mem_append.1 hy with hy|hy
   ·exact flatT_u64 t.k [tu] y (by rw[flatT_one];exact hy)
   ·exact hm.u64 y (List.mem_of_mem_drop hy)
 ·exact held_put hok.k.2 hok.h.1 hheld (by rw[hm.len];have:=hok.h.2.1;omega) tu
theorem put_end{w W:World}{G:Nat→Prop}{p:Wp}{F:Fs}{n x:Nat}{t:Wt}{ws:List Nat}(h:Sys w G p F n)(hn:n<1000000)(hok:WtOk t F.D.size)(hm:WMem w x p t F.D.size ws)(ho:WOut G x t)(hst:wordsAt F.A.st t.b=some F.D.size)(hheld:Held t.k t.h t.l ws)(tu:Tup)(hfit:fitsT t.k tu=true)(hless:t.l.length<t.bound)
  (hf:Far (fun k=>k=x∨k=t.g) w W) (hr:Row W x 142 (wrC p (t.snoc tu))) (hg:Row W t.g 133 ((splice ws (t.l.length%t.h*t.k) (wordsT t.k tu)).map vw)):
  (0<(t.l.length+1)%t.h→PutTo w G x p F n t tu (.returned (.int .i64 0)) W)∧(¬0<(t.l.length+1)%t.h→Calls Tryz.prog 76 #[.pointer (some ⟨x,0,none⟩)] W fun e w'=>∃er,e=.returned (.int .i64 er)∧PutTo w G x p F n t tu (.returned (.int .i64 er)) w'):=by
 obtain⟨h1,h2,h3,h4⟩:=put_mid h hok hm ho hheld tu hless hf hr hg
 obtain⟨hxb,hxg,hbg⟩:=hm.apart
 obtain⟨hx,hbw,hgw⟩:=hm.lt
 have hll:(t.snoc tu).l.length=t.l.length+1:=by show (t.l++[tu]).length= _;simp
 have hf2:Far (fun k=>G k∨k=x∨k=t.g) w W:=hf.mono fun k hk=>.inr hk
 refine⟨fun h0=>.inr (.inr ⟨hfit,hless,.inl ⟨by omega,rfl,G,h1,⟨_,h3,?_⟩,hf2,fun k hk=>.inl hk⟩⟩),fun h0=>?_⟩
 ·exact(held_last (k:=t.k) (l:=(t.snoc tu).l) hok.h.1 (by rw[hll];show (t.l.length+1)%t.h≠0;omega)).2 h4
 ·refine(wlast_any h1 hn h2 h3 ⟨ho.x,ho.b,ho.g⟩ hst (by rw[hll];omega) h4).mono ?_
  rintro e w' ⟨he,h5⟩
  refine⟨_,he,.inr (.inr ⟨hfit,hless,?_⟩)⟩
  rcases h5 with⟨h6,h7⟩|⟨h6,h7⟩
  ·refine .inr (.inl ⟨by omega,h6,by rw[h6],?_⟩)
   obtain⟨G',k1,k2,k3⟩:=h7
   have hse:=(write_size2 F.D (lastAd (t.snoc tu):Nat) (lastW8 F.D.size (t.snoc tu))).1
   refine⟨G',k1,⟨_,by show WMem w' x p (t.snoc tu) (write F.D (lastAd (t.snoc tu):Nat) (lastW8 F.D.size (t.snoc tu))).2.size _;rw[hse];exact h3.far k2 ho.x ho.b ho.g,?_⟩,hf2.trans k2 fun k hk=>.inl (.inl hk),fun k hk=>(k3 k hk).imp id fun h=>Nat.le_trans hf.size h⟩
   exact held_full _ (by rw[hll];show (t.l.length+1)%t.h=0;omega)
  ·refine .inr (.inr ⟨by omega,h6,rfl,?_⟩)
   obtain⟨G',k1,k2,k3,k4⟩:=h7
   refine⟨G',k1,⟨k2.row hr ?_,k4⟩,(hf2.mono (F':=fun k=>G k∨k=x∨k=t.g∨k=t.b) fun k hk=>hk.imp_right fun h=>h.imp_right .inl).trans k2 fun k hk=>.inl (hk.elim .inl fun h=>.inr (.inr (.inr h))),fun k hk=>(k3 k hk).imp id fun h=>Nat.le_trans hf.size h⟩
   rintro(h8|h8)
   ·exact ho.x h8
   ·exact hxb h8
theorem wput_go{w:World}{G:Nat→Prop}{p:Wp}{F:Fs}{n x:Nat}{t:Wt}{ws:List Nat}(h:Sys w G p F n)(hok:WtOk t F.D.size)(hm:WMem w x p t F.D.size ws)(hn:n<1000000)(ho:WOut G x t)(hst:wordsAt F.A.st t.b=some F.D.size)(hheld:Held t.k t.h t.l ws)(tu:Tup)(hfit:fitsT t.k tu=true)(hless:t.l.length<t.bound):Calls Tryz.prog 54 #[.pointer (some ⟨x,0,none⟩),.agg #[.int .i64 tu.a,.int .i64 tu.b,.int .i64 tu.c,.int .i64 tu.d,.int .i64 tu.e]] w (PutTo w G x p F n t tu):=by
 obtain⟨hx,hbw,hgw⟩:=hm.lt
 have hk:=hok.k
 have hh:=hok.h
 have hbd:=hok.bound
 obtain⟨za,zb,zc,zd,ze⟩:=tu
 have hbt:=(Below.refl w.heap.size w).alloc (Nat.le_refl _) (.cells #[.int .i64 za,.int .i64 zb,.int .i64 zc,.int .i64 zd,.int .i64 ze] 56)
 have hrt:Row (w.alloc (.cells #[.int .i64 za,.int .i64 zb,.int .i64 zc,.int .i64 zd,.int .i64 ze] 56)) w.heap.size 56 [.int .i64 za,.int .i64 zb,.int .i64 zc,.int .i64 zd,.int .i64 ze]:=heap_alloc_new _ _
 have hsz0:=hok.sz
 have hgr:=fun d os=>below_regrown (w.alloc (.cells #[.int .i64 za,.int .i64 zb,.int .i64 zc,.int .i64 zd,.int .i64 ze] 56)) d os
 have hup:=hbt.size
 have Q1:Hid (∀d' os,Calls Tryz.prog 73 #[.pointer (some ⟨x,0,none⟩)] (Sort.grow (redrawn (w.alloc (.cells #[.int .i64 za,.int .i64 zb,.int .i64 zc,.int .i64 zd,.int .i64 ze] 56)) d') os) fun e w''=>e=.returned (.bool false)∧∃p:Regrown,w''=Sort.grow (redrawn (w.alloc (.cells #[.int .i64 za,.int .i64 zb,.int .i64 zc,.int .i64 zd,.int .i64 ze] 56)) p.d) p.os):=fun d' os=>Calls.regrown_of ((wclosed_any (((hm.row.below hbt hx).below (hgr d' os) (Nat.lt_of_lt_of_le hx hup))) (((hm.buf.below hbt hbw).below (hgr d' os) (Nat.lt_of_lt_of_le hbw hup)))).mono fun e' w' ⟨he,hw⟩=>⟨by rw[he,decide_eq_true (by omega)];rfl,by subst hw;exact Below.refl _ _⟩)
 have Q2:Hid (∀d' os,Calls Tryz.prog 75 #[.agg #[.int .i64 za,.int .i64 zb,.int .i64 zc,.int .i64 zd,.int .i64 ze],.int .i64 t.k] (Sort.grow (redrawn (w.alloc (.cells #[.int .i64 za,.int .i64 zb,.int .i64 zc,.int .i64 zd,.int .i64 ze] 56)) d') os) fun e w''=>e=.returned (.bool true)∧∃p:Regrown,w''=Sort.grow (redrawn (w.alloc (.cells #[.int .i64 za,.int .i64 zb,.int .i64 zc,.int .i64 zd,.int .i64 ze] 56)) p.d) p.os):=fun d' os=>Calls.regrown_of ((within_any ⟨za,zb,zc,zd,ze⟩ t.k _ hk.1 hk.2).mono fun e' w' ⟨he,hw⟩=>⟨by rw[he,hfit],hw⟩)
 have k0:∀d' os,(Sort.grow (redrawn (w.alloc (.cells #[.int .i64 za,.int .i64 zb,.int .i64 zc,.int .i64 zd,.int .i64 ze] 56)) d') os).cell? ⟨x,0,none⟩=some (.int .i64 t.k):=cell_regrown ((hm.row.below hbt hx).cell 0)
 have k1:∀d' os,(Sort.grow (redrawn (w.alloc (.cells #[.int .i64 za,.int .i64 zb,.int .i64 zc,.int .i64 zd,.int .i64 ze] 56)) d') os).cell? ⟨w.heap.size,0,none⟩=some (.int .i64 za):=cell_regrown (hrt.cell 0)
 have k2:∀d' os,(Sort.grow (redrawn (w.alloc (.cells #[.int .i64 za,.int .i64 zb,.int .i64 zc,.int .i64 zd,.int .i64 ze] 56)) d') os).cell? ⟨w.heap.size,1,none⟩=some (.int .i64 zb):=cell_regrown (hrt.cell 1)
 have k3:∀d' os,(Sort.grow (redrawn (w.alloc (.cells #[.int .i64 za,.int .i64 zb,.int .i64 zc,.int .i64 zd,.int .i64 ze] 56)) d') os).cell? ⟨w.heap.size,2,none⟩=some (.int .i64 zc):=cell_regrown (hrt.cell 2)
 have k4:∀d' os,(Sort.grow (redrawn (w.alloc (.cells #[.int .i64 za,.int .i64 zb,.int .i64 zc,.int .i64 zd,.int .i64 ze] 56)) d') os).cell? ⟨w.heap.size,3,none⟩=some (.int .i64 zd):=cell_regrown (hrt.cell 3)
 have k5:∀d' os,(Sort.grow (redrawn (w.alloc (.cells #[.int .i64 za,.int .i64 zb,.int .i64 zc,.int .i64 zd,.int .i64 ze] 56)) d') os).cell? ⟨w.heap.size,4,none⟩=some (.int .i64 ze):=cell_regrown (hrt.cell 4)
 have HBT:=Lib.hid hbt
 have HRT:=Lib.hid hrt
 have HM:=Lib.hid hm
 have HSYS:=Lib.hid h
 have HOK:=Lib.hid hok
 have HFIT:=Lib.hid hfit
 have HLTS:Hid (x<w.heap.size∧t.b<w.heap.size∧t.g<w.heap.size):=⟨hx,hbw,hgw⟩
 clear hbt hrt hm h hok hx hbw hgw hgr hup hsz0 hfit
 have g0:(((t.l.length:Nat):Int)==(t.bound:Int))=false:=by simp;omega
 obtain⟨hxb,hxg,hbg⟩:=HM.out.apart
 have hll:(t.snoc ⟨za,zb,zc,zd,ze⟩).l.length=t.l.length+1:=by show (t.l++[_]).length= _;simp
 have hwl:=wordsT_len hk.2 ⟨za,zb,zc,zd,ze⟩
 obtain⟨off,hoff⟩:∃off,off=t.l.length%t.h*t.k:=⟨_,rfl⟩
 have hof:off+t.k≤F.D.size-2:=by
  have h1:=Nat.mul_le_mul_right t.k (show t.l.length%t.h+1≤t.h by have:=Nat.mod_lt t.l.length hh.1;omega)
  rw[Nat.add_mul,Nat.one_mul]at h1
  have:=hh.2.1;omega
 have hsz:=HOK.out.sz
 have hcl:t.l.length<t.bound:=hless
 obtain⟨cnt,hcnt⟩:∃cnt,cnt=t.l.length:=⟨_,rfl⟩
 have HEND:Hid (∀W,Far (fun k=>k=x∨k=t.g) w W→Row W x 142 [.int .i64 t.k,.int .i64 t.h,.pointer (some ⟨p.w,0,none⟩),.int .i64 t.bound,.int .i64 (cnt+1:Nat),.int .i64 t.first,.int .i64 t.blocks,.pointer (some ⟨t.b,0,none⟩)]→Row W t.g 133 ((splice ws off (wordsT t.k ⟨za,zb,zc,zd,ze⟩)).map vw)→
   (0<(cnt+1)%t.h→PutTo w G x p F n t ⟨za,zb,zc,zd,ze⟩ (.returned (.int .i64 0)) W)∧(¬0<(cnt+1)%t.h→Calls Tryz.prog 76 #[.pointer (some ⟨x,0,none⟩)] W fun e w'=>∃er,e=.returned (.int .i64 er)∧PutTo w G x p F n t ⟨za,zb,zc,zd,ze⟩ (.returned (.int .i64 er)) w')):=fun W h1 h2 h3=>by
  rw[hcnt];rw[hcnt,←hll]at h2;rw[hoff]at h3
  exact put_end HSYS.out hn HOK.out HM.out ho hst hheld _ HFIT.out hless h1 h2 h3
 have Q3:Hid (∀W,Below w.heap.size w W→∀d' os,Calls Tryz.prog 66 #[.agg #[.int .i64 t.k,.int .i64 t.h],.slice (some ⟨t.g,0,none⟩) F.D.size F.D.size,.int .i64 cnt] (Sort.grow (redrawn W d') os) fun e w''=>e=.returned (.slice (some ⟨t.g,off,none⟩) t.k (F.D.size-off))∧∃p:Regrown,w''=Sort.grow (redrawn W p.d) p.os):=fun W hb d' os=>Calls.regrown_of (by
  rw[hoff,hcnt]
  exact plc_any t.k t.h t.l.length t.g F.D.size _ hk.1 hk.2 hh.1 hh.2.2 (by omega) (by rw[←hoff];omega) (by omega))
 have HCOL:Hid (∀i,i<t.k→∃z,[za,zb,zc,zd,ze][i]?=some z∧(wordsT t.k ⟨za,zb,zc,zd,ze⟩)[i]?=some (uw z)):=fun i hi=>by
  have hi5:i<[za,zb,zc,zd,ze].length:=by simp;omega
  refine⟨_,List.getElem?_eq_getElem hi5,?_⟩
  unfold wordsT
  rw[List.getElem?_map,List.getElem?_take,if_pos hi]
  show (([za,zb,zc,zd,ze]:List Int)[i]?).map uw= _
  rw[List.getElem?_eq_getElem hi5];rfl
 have hwsl:=HM.out.len
 have HSPL:Hid (∀i z,i<t.k→(wordsT t.k ⟨za,zb,zc,zd,ze⟩)[i]?=some (uw z)→((splice ws off ((wordsT t.k ⟨za,zb,zc,zd,ze⟩).take i)).map vw).set (off+i) (.int .u64 (uw z:Nat))=(splice ws off ((wordsT t.k ⟨za,zb,zc,zd,ze⟩).take (i+1))).map vw∧off+i<((splice ws off ((wordsT t.k ⟨za,zb,zc,zd,ze⟩).take i)).map vw).length):=fun i z hi hz=>by
  refine⟨?_,?_⟩
  ·rw[←splice_set ws _ off i (uw z) hz (by rw[hwl,hwsl];omega),List.map_set];rfl
  ·rw[List.length_map,splice_length _ _ _ (by rw[List.length_take,hwl,hwsl];omega),hwsl];omega
 have HS0:Hid (ws.map vw=(splice ws off ((wordsT t.k ⟨za,zb,zc,zd,ze⟩).take 0)).map vw):=by unfold Hid splice;simp
 have HSK:Hid ((wordsT t.k ⟨za,zb,zc,zd,ze⟩).take t.k=wordsT t.k ⟨za,zb,zc,zd,ze⟩):=List.take_of_length_le (by omega)
 have HX:=Lib.hid HM.out.row
 have HBF:=Lib.hid HM.out.buf
 have HG:=Lib.hid HM.out.words
 unfold wrC at HX
 rw[←hcnt]at HX g0 hcl
 clear hll hwl hoff hwsl HOK HSYS HFIT ho hst hheld hn hcnt
 generalize wordsT t.k ⟨za,zb,zc,zd,ze⟩=WL at*
 generalize PutTo w G x p F n t ⟨za,zb,zc,zd,ze⟩=POST at*
 obtain⟨k,hh2,bound,first,blocks,b,g,l⟩:=t
 simp only at*
 generalize F.D.size=size at*
 obtain⟨r,hr⟩:∃r,r=(cnt+1)%hh2:=⟨_,rfl⟩
 obtain⟨c1,hc1⟩:∃c1,c1=cnt+1:=⟨_,rfl⟩
 have hadd1:(cnt:Int)+1=(c1:Int):=by omega
 have hcb:c1≤100000000:=by have:=hbd.1;rw[hc1];omega
 have hrem:Int.tmod (c1:Int) (hh2:Int)=(r:Int):=by rw[hc1,hr];rfl
 have hh0:¬((hh2:Int)=0):=by have:=hh.1;omega
 have hrb:r≤254:=by rw[hr];have:=Nat.mod_lt (cnt+1) hh.1;omega
 rw[←hr,←hc1]at HEND
 clear hr hc1 HM hbd hless hcl
 go_enter Tryz.func54,Tryz.ntmps54
 go_wp2
 refine wp_region_quiet_below (by kernel_rfl) (by kernel_rfl) ?_
 repeat(any_goals(first|go_big_quiet_step (with_reducible first|exact Q1.out _ _|exact Q2.out _ _)|quiet_step (with_reducible first|exact Q1.out _ _|exact Q2.out _ _)))
 refine wpQuiet_nil ?_
 intro w5 hw5
 obtain⟨⟨dq,osq⟩,hw5⟩:=hw5
 have hbw5:=below_regrown (w.alloc (.cells #[.int .i64 za,.int .i64 zb,.int .i64 zc,.int .i64 zd,.int .i64 ze] 56)) dq osq
 rw[←hw5]at hbw5
 clear hw5
 have HB5:=Lib.hid (HBT.out.trans (hbw5.mono (by simp)))
 have HR5:=Lib.hid (HRT.out.below hbw5 (by simp))
 clear hbw5 Q1 Q2 k0 k1 k2 k3 k4 k5 HBT HRT
 have c3:w5.cell? ⟨x,3,none⟩=some (.int .i64 bound):=(HX.out.below HB5.out HLTS.out.1).cell 3
 have c4:w5.cell? ⟨x,4,none⟩=some (.int .i64 cnt):=(HX.out.below HB5.out HLTS.out.1).cell 4
 go_wp2
 go_region
 clear c3 c4
 have HB6:=Lib.hid (below_drew HB5.out)
 have HR6:=Lib.hid (HR5.out.drewN 1)
 clear HB5 HR5
 have hd6:w5.drewN 1=w5.drew:=rfl
 rw[hd6]at HR6
 clear hd6
 generalize w5.drew=w6 at*
 have Q4:=Lib.hid (Q3.out w6 HB6.out)
 have k0:∀d' os,(Sort.grow (redrawn w6 d') os).cell? ⟨x,0,none⟩=some (.int .i64 k):=cell_regrown ((HX.out.below HB6.out HLTS.out.1).cell 0)
 have k1:∀d' os,(Sort.grow (redrawn w6 d') os).cell? ⟨x,1,none⟩=some (.int .i64 hh2):=cell_regrown ((HX.out.below HB6.out HLTS.out.1).cell 1)
 have k4:∀d' os,(Sort.grow (redrawn w6 d') os).cell? ⟨x,4,none⟩=some (.int .i64 cnt):=cell_regrown ((HX.out.below HB6.out HLTS.out.1).cell 4)
 have k7:∀d' os,(Sort.grow (redrawn w6 d') os).cell? ⟨x,7,none⟩=some (.pointer (some ⟨b,0,none⟩)):=cell_regrown ((HX.out.below HB6.out HLTS.out.1).cell 7)
 have kb:∀d' os,(Sort.grow (redrawn w6 d') os).cell? ⟨b,0,none⟩=some (.slice (some ⟨g,0,none⟩) size size):=cell_regrown ((HBF.out.below HB6.out HLTS.out.2.1).cell 0)
 go_wp2
 refine wp_region_quiet_below (by kernel_rfl) (by kernel_rfl) ?_
 repeat(any_goals(first|go_big_quiet_step (with_reducible first|exact Q4.out _ _)|quiet_step (with_reducible first|exact Q4.out _ _)))
 refine wpQuiet_nil ?_
 intro w7 hw7
 obtain⟨⟨dq,osq⟩,hw7⟩:=hw7
 have hbw7:=below_regrown w6 dq osq
 rw[←hw7]at hbw7
 clear hw7
 have HB7:=Lib.hid (HB6.out.trans (hbw7.mono HB6.out.size))
 have HR7:=Lib.hid (HR6.out.below hbw7 HR6.out.lt)
 clear hbw7 Q4 Q3 k0 k1 k4 k7 kb HR6 HB6
 have hgw:=HLTS.out.2.2
 have HG7:Hid (Row w7 g 133 ((splice ws off (WL.take 0)).map vw)):=by unfold Hid;rw[←HS0.out];exact HG.out.below HB7.out hgw
 have hng:w.heap.size≠g:=by omega
 clear HG HS0
 go_wp2
 go_loopw [48] (fun iv wr=>∃i:Nat,i≤k∧iv=.int .i64 (i:Int)∧Hid (Far (fun j=>j=g) w7 wr)∧Hid (Row wr g 133 ((splice ws off (WL.take i)).map vw))) (fun iv _=>k-(intOf iv).toNat)
 case atStart=>exact⟨0,Nat.zero_le _,rfl,Far.refl _ _,HG7.out⟩
 case round=>
  obtain⟨i,hi,rfl,HF,HRG⟩:=hrel
  by_cases hlt:i<k
  ·obtain⟨z,hz,hwz⟩:=HCOL.out i hlt
   obtain⟨hset,hil⟩:=HSPL.out i z hlt hwz
   have ct:wr.cell? ⟨w.heap.size,i,none⟩=some (.int .i64 z):=by
    rw[(HF.out.row HR7.out hng).cell i]
    match i,hlt,hz with
    |0,_,hz=>simpa using hz
    |1,_,hz=>simpa using hz
    |2,_,hz=>simpa using hz
    |3,_,hz=>simpa using hz
    |4,_,hz=>simpa using hz
    |i+5,hlt,_=>omega
   have cg:∃v,wr.cell? ⟨g,off+i,none⟩=some v:=⟨_,(HRG.out.cell (off+i)).trans (List.getElem?_eq_getElem hil)⟩
   obtain⟨v0,cg⟩:=cg
   have fg:=HRG.out.free (off+i)
   have HST:Hid (Row (wr.setCell ⟨g,off+i,none⟩ (.int .u64 (uw z:Nat))) g 133 ((splice ws off (WL.take (i+1))).map vw)):=by
    have h1:=HRG.out.set (off+i) (.int .u64 (uw z:Nat))
    rw[hset]at h1;exact h1
   have HFF:Hid (Far (fun j=>j=g) w7 (wr.setCell ⟨g,off+i,none⟩ (.int .u64 (uw z:Nat)))):=HF.out.set (p:=⟨g,off+i,none⟩) (.inl rfl) _
   have hj0:(0:Int)≤(i:Int):=by omega
   have hj1:(i:Int)<(k:Int):=by omega
   have hj5:(i:Int)<5:=by omega
   have hwz2:IntKind.u64.wrap z=((uw z:Nat):Int):=uw_wrap z
   clear hset hil hz hwz hi
   generalize uw z=u at*
   go_wp2
   go_roundw
   case rel=>exact⟨i+1,by omega,by go_num,HFF.out,HST.out⟩
   case measure=>simp[intOf];omega
  ·obtain rfl:i=k:=by omega
   have hrx:Row wr x 142 [.int .i64 i,.int .i64 hh2,.pointer (some ⟨p.w,0,none⟩),.int .i64 bound,.int .i64 cnt,.int .i64 first,.int .i64 blocks,.pointer (some ⟨b,0,none⟩)]:=HF.out.row (HX.out.below HB7.out HLTS.out.1) hxg
   have c4:wr.cell? ⟨x,4,none⟩=some (.int .i64 cnt):=hrx.cell 4
   have f4:=hrx.free 4
   have hrx8:Row (wr.setCell ⟨x,4,none⟩ (.int .i64 c1)) x 142 [.int .i64 i,.int .i64 hh2,.pointer (some ⟨p.w,0,none⟩),.int .i64 bound,.int .i64 c1,.int .i64 first,.int .i64 blocks,.pointer (some ⟨b,0,none⟩)]:=hrx.set 4 _
   have hrg8:Row (wr.setCell ⟨x,4,none⟩ (.int .i64 c1)) g 133 ((splice ws off WL).map vw):=by
    have h1:=HRG.out
    rw[HSK.out]at h1
    exact h1.far (p:=⟨x,4,none⟩) (fun e=>hxg e.symm) _
   have hf8:Far (fun k=>k=x∨k=g) w (wr.setCell ⟨x,4,none⟩ (.int .i64 c1)):=(((Far.of_below HB7.out (fun k=>k=x∨k=g)).trans HF.out fun b hb=>.inl (.inr hb))).set (p:=⟨x,4,none⟩) (.inl (.inl rfl)) _
   have d4:(wr.setCell ⟨x,4,none⟩ (.int .i64 c1)).cell? ⟨x,4,none⟩=some (.int .i64 c1):=hrx8.cell 4
   have d1:(wr.setCell ⟨x,4,none⟩ (.int .i64 c1)).cell? ⟨x,1,none⟩=some (.int .i64 hh2):=hrx8.cell 1
   have HRX:=Lib.hid hrx8
   have HRG8:=Lib.hid hrg8
   have HF8:=Lib.hid hf8
   clear hrx hrx8 hrg8 hf8 HRG HF HX HSPL HCOL HSK HG7 HR7
   go_wp2
   generalize wr.setCell ⟨x,4,none⟩ (.int .i64 c1)=w8 at*
   have HE:=Lib.hid (HEND.out w8.drew (HF8.out.drew) (HRX.out.drewN 1) (HRG8.out.drewN 1))
   clear HEND HRX HRG8 HF8
   by_cases hr0:0<r
   ·have gr:decide ((r:Int)>0)=true:=by simp;omega
    have HE1:=Lib.hid (HE.out.1 hr0)
    clear HE
    go_region
    go_wp2
    exact HE1.out
   ·have gr:decide ((r:Int)>0)=false:=by simp;omega
    have HE1:=Lib.hid (HE.out.2 hr0)
    clear HE
    go_region
    go_wp2_with fail
    refine HE1.out.mono ?_;rintro e w9 ⟨er,rfl,h9⟩
    have H9:=Lib.hid h9
    clear h9 HE1
    go_wp2
    exact H9.out
def fileV(first blocks k c:Nat):Value:=.agg #[.int .i64 first,.int .i64 blocks,.int .i64 k,.int .i64 c]
def firstOf(t:Wt):Nat:=if t.l.length=0 then 0 else t.first
def CloseTo(w:World)(G:Nat→Prop)(x:Nat)(p:Wp)(F:Fs)(n:Nat)(t:Wt)(e:Ending)(w':World):Prop:=
 (t.l.length%t.h=0∧e=.returned (.tuple #[fileV (firstOf t) (blocksN t.h t.l.length) t.k t.l.length,.int .i64 0])∧PutEnd w G x p (endF F t (blocksN t.h t.l.length)) n t w')∨
 (t.l.length%t.h≠0∧(write F.D (lastAd t:Nat) (lastW8 F.D.size t)).1=0∧e=.returned (.tuple #[fileV (firstOf t) (blocksN t.h t.l.length) t.k t.l.length,.int .i64 0])∧
  PutEnd w G x p (endF {F with D:=(write F.D (lastAd t:Nat) (lastW8 F.D.size t)).2} t (blocksN t.h t.l.length)) (n+1) t w')∨
 (t.l.length%t.h≠0∧(write F.D (lastAd t:Nat) (lastW8 F.D.size t)).1≠0∧e=.returned (.tuple #[fileV 0 0 0 0,.int .i64 (write F.D (lastAd t:Nat) (lastW8 F.D.size t)).1])∧
  PutEnd w G x p (endF {F with D:=(write F.D (lastAd t:Nat) (lastW8 F.D.size t)).2} t 0) (n+1) t w')
theorem Far.four(w:World)(g:Nat)(a b c d:Value):Far (fun k=>k=g) w ((((w.setCell ⟨g,0,none⟩ a).setCell ⟨g,1,none⟩ b).setCell ⟨g,2,none⟩ c).setCell ⟨g,3,none⟩ d):=
 ((Far.two w g 0 1 a b).set (p:=⟨g,2,none⟩) (.inl rfl) c).set (p:=⟨g,3,none⟩) (.inl rfl) d
theorem close_fin{w w0 W6 W7:World}{G:Nat→Prop}{p:Wp}{F FE:Fs}{n n1 x:Nat}{t:Wt}{rb:Nat}(h:Sys w G p F n)(hst:∀q∈FE.A.st,q∈F.A.st)(hb0:Below w.heap.size w w0)(hr:Row w x 142 (wrC p t))(hx:¬G x)(hxb:x≠t.b)(hbw:t.b<w.heap.size)
  (h6:EndTo w0 G t.b p FE n1 W6) (hrb:w.heap.size≤rb) (hrb2:rb<w0.heap.size) (hf7:Far (fun k=>k=rb) W6 W7):PutEnd w G x p FE n1 t W7:=by
 have hxw:=hr.lt
 obtain⟨G',k1,k2,k3,k4⟩:=h6
 have hr0:=hr.below hb0 hxw
 refine⟨G',k1.far hf7 (fun k hk e=>?_) (fun q hq e=>?_),⟨hf7.row (k2.row hr0 (by rintro(h5|h5);exact hx h5;exact hxb h5)) (by omega),hf7.row k4 (by omega)⟩,?_,?_⟩
 ·subst e
  rcases k3 k hk with h5|h5
  ·have:=h.lt h5;omega
  ·omega
 ·have:=(h.buf (hst q hq)).1.lt;omega
 ·refine(((Far.of_below hb0 (fun k=>G k∨k=x∨k=t.g∨k=t.b)).trans k2 fun k hk=>.inl (hk.elim .inl fun h=>.inr (.inr (.inr h))))).trans hf7 fun k hk=>.inr (by omega)
 ·intro k hk
  exact(k3 k hk).imp_right fun h=>Nat.le_trans hb0.size h
def CloseMid(w w0:World)(G:Nat→Prop)(x:Nat)(p:Wp)(t:Wt)(F1:Fs)(n1:Nat)(W2:World):Prop:=SysTo w0 G p F1 n1 W2∧Row W2 x 142 (wrC p t)∧Row W2 w.heap.size 31 [.int .i64 0,.int .i64 0,.int .i64 0,.int .i64 0]
theorem wclose_any{w:World}{G:Nat→Prop}{p:Wp}{F:Fs}{n x:Nat}{t:Wt}(h:Sys w G p F n)(hn:n<1000000)(hok:WtOk t F.D.size)(hm:WOpen w x p t F.D.size)(ho:WOut G x t)(hst:wordsAt F.A.st t.b=some F.D.size):Calls Tryz.prog 55 #[.pointer (some ⟨x,0,none⟩)] w (CloseTo w G x p F n t):=by
  obtain⟨ws,hm,hheld⟩:=hm
  obtain⟨hx,hbw,hgw⟩:=hm.lt
  obtain⟨hxb,hxg,hbg⟩:=hm.apart
  have hk:=hok.k
  have hh:=hok.h
  have hsz:=hok.sz
  have hbd:=hok.bound
  have hbl:=hok.blocks
  have hfi:=hok.first
  have hb0:=(Below.refl w.heap.size w).alloc (Nat.le_refl _) (.cells #[.int .i64 0,.int .i64 0,.int .i64 0,.int .i64 0] 31)
  have hrb:Row (w.alloc (.cells #[.int .i64 0,.int .i64 0,.int .i64 0,.int .i64 0] 31)) w.heap.size 31 [.int .i64 0,.int .i64 0,.int .i64 0,.int .i64 0]:=heap_alloc_new _ _
  have hz0:(w.alloc (.cells #[.int .i64 0,.int .i64 0,.int .i64 0,.int .i64 0] 31)).heap.size=w.heap.size+1:=by simp
  obtain⟨w0,hw0⟩:∃w0,w0=w.alloc (.cells #[.int .i64 0,.int .i64 0,.int .i64 0,.int .i64 0] 31):=⟨_,rfl⟩
  rw[←hw0]at hb0 hrb hz0
  have hnG:¬G w.heap.size:=fun hg=>by have:=h.lt hg;omega
  have h0:=h.below hb0
  have hm0:=hm.below hb0
  have hx0:x<w0.heap.size:=by omega
  have HC:=Lib.hid (wclosed_any hm0.row hm0.buf)
  have hd:decide (0<F.D.size)=true:=by simp;omega
  rw[hd]at HC
  have hbe:=below_drew (Below.refl w0.heap.size w0)
  have HMID0:Hid (CloseMid w w0 G x p t F n w0.drew):=⟨SysTo.of_below h0 hbe,hm0.row.below hbe hx0,hrb.below hbe hrb.lt⟩
  have HLAST:Hid (t.l.length%t.h≠0→Calls Tryz.prog 76 #[.pointer (some ⟨x,0,none⟩)] w0.drew fun e w'=>e=.returned (.int .i64 (write F.D (lastAd t:Nat) (lastW8 F.D.size t)).1)∧
      (((write F.D (lastAd t:Nat) (lastW8 F.D.size t)).1=0∧CloseMid w w0 G x p t {F with D:=(write F.D (lastAd t:Nat) (lastW8 F.D.size t)).2} (n+1) w')∨
       ((write F.D (lastAd t:Nat) (lastW8 F.D.size t)).1≠0∧EndTo w0 G t.b p (endF {F with D:=(write F.D (lastAd t:Nat) (lastW8 F.D.size t)).2} t 0) (n+1) w'∧Row w' w.heap.size 31 [.int .i64 0,.int .i64 0,.int .i64 0,.int .i64 0]))):=fun hne=>by
    have hl:0<t.l.length:=by
      rcases Nat.eq_zero_or_pos t.l.length with h1|h1
      · rw[h1]at hne;simp at hne
      · exact h1
    refine(wlast_any (h0.below hbe) hn hok (hm0.below hbe) ho hst hl ((held_last hh.1 hne).1 hheld)).mono ?_
    rintro e w' ⟨he,h1⟩
    refine⟨he,?_⟩
    rcases h1 with⟨h2,h3⟩|⟨h2,h3⟩
    · exact .inl ⟨h2,h3.behind hbe,h3.row (hm0.row.below hbe hx0) ho.x,h3.row (hrb.below hbe hrb.lt) hnG⟩
    · refine .inr ⟨h2,h3.behind hbe,h3.row (hrb.below hbe hrb.lt) hnG (by omega)⟩
  obtain⟨nb,hnb⟩:∃nb,nb=blocksN t.h t.l.length:=⟨_,rfl⟩
  obtain⟨fst,hfst⟩:∃fst,fst=firstOf t:=⟨_,rfl⟩
  have hnbl:nb≤t.blocks:=by rw[hnb,hbl.1];exact blocks_mono hh.1 hbd.2
  have HBL:Hid (∀W,Calls Tryz.prog 60 #[.agg #[.int .i64 t.k,.int .i64 t.h],.int .i64 (t.l.length:Nat)] W fun e w'=>e=.returned (.int .i64 nb)∧Below W.heap.size W w'):=fun W=>by
    rw[hnb];exact blks_any t.k t.h t.l.length W hh.1 hh.2.2 (by omega)
  have HWEND:Hid (∀(F1:Fs) (n1:Nat) (W2:World),CloseMid w w0 G x p t F1 n1 W2→F1.A=F.A→F1.D.size=F.D.size→∀W5,Below W2.heap.size W2 W5→Calls Tryz.prog 74 #[.pointer (some ⟨x,0,none⟩),.int .i64 nb] W5 fun e w6=>e=.returned (.tuple #[])∧EndTo w0 G t.b p (endF F1 t nb) n1 w6∧Row w6 w.heap.size 31 [.int .i64 0,.int .i64 0,.int .i64 0,.int .i64 0]∧∀fb cs,Row W5 fb 31 cs→W2.heap.size≤fb→Row w6 fb 31 cs):=by
    intro F1 n1 W2 ⟨hs2,hr2,hf2⟩ hA hD W5 hb5
    obtain⟨G',k1,k2,k3⟩:=hs2
    have hx2:=hr2.lt
    have hbw2:t.b<W2.heap.size:=by have:=k2.size;omega
    have hnx:¬G' x:=fun hg=>(k3 x hg).elim ho.x fun h8=>by omega
    refine(wend_any (k1.below hb5) (hr2.below hb5 hx2) hnx (by rw[hA,hD];exact hst) hxb hfi hbl.2 nb hnbl).mono ?_
    rintro e w6 ⟨he,h6⟩
    have hnw:¬G' w.heap.size:=fun hg=>(k3 _ hg).elim hnG fun h8=>by omega
    have hf5:Row W5 w.heap.size 31 [.int .i64 0,.int .i64 0,.int .i64 0,.int .i64 0]:=hf2.below hb5 hf2.lt
    refine⟨he,(h6.behind hb5).from k2 k3,h6.row hf5 hnw (by omega),fun fb cs hfb hl=>h6.row hfb (fun hg=>by have:=k1.lt hg;omega) (by omega)⟩
  have HFIN:Hid (∀(F1:Fs) (n1 kp:Nat) (W6 W7:World),F1.A=F.A→EndTo w0 G t.b p (endF F1 t kp) n1 W6→Far (fun k=>k=w.heap.size) W6 W7→PutEnd w G x p (endF F1 t kp) n1 t W7):=by
    intro F1 n1 kp W6 W7 hA h6 hf7
    refine close_fin h (fun q hq=>?_) hb0 hm.row ho.x hxb hbw h6 (Nat.le_refl _) (by omega) hf7
    have hq1:q∈without F1.A.st t.b:=hq
    have:=without_mem _ _ _ hq1
    rwa [hA]at this
  have HCELL:Hid (∀(F1:Fs) (n1:Nat) (W2:World),CloseMid w w0 G x p t F1 n1 W2→∀W,Below W2.heap.size W2 W→W.cell? ⟨x,0,none⟩=some (.int .i64 t.k)∧W.cell? ⟨x,1,none⟩=some (.int .i64 t.h)∧W.cell? ⟨x,4,none⟩=some (.int .i64 (t.l.length:Nat))∧W.cell? ⟨x,5,none⟩=some (.int .i64 t.first)):=by
    intro F1 n1 W2 ⟨_,hr2,_⟩ W hb
    have r:=hr2.below hb hr2.lt
    exact⟨r.cell 0,r.cell 1,r.cell 4,r.cell 5⟩
  have hse:=(write_size2 F.D (lastAd t:Nat) (lastW8 F.D.size t)).1
  have HPA:Hid (t.l.length%t.h=0→∀W7,PutEnd w G x p (endF F t nb) n t W7→CloseTo w G x p F n t (.returned (.tuple #[fileV fst nb t.k t.l.length,.int .i64 0])) W7):=fun h1 W7 h2=>by
    rw[hnb]at h2⊢;rw[hfst];exact .inl ⟨h1,rfl,h2⟩
  have HPB:Hid (t.l.length%t.h≠0→(write F.D (lastAd t:Nat) (lastW8 F.D.size t)).1=0→∀W7,PutEnd w G x p (endF {F with D:=(write F.D (lastAd t:Nat) (lastW8 F.D.size t)).2} t nb) (n+1) t W7→CloseTo w G x p F n t (.returned (.tuple #[fileV fst nb t.k t.l.length,.int .i64 0])) W7):=fun h1 h0 W7 h2=>by
    rw[hnb]at h2⊢;rw[hfst];exact .inr (.inl ⟨h1,h0,rfl,h2⟩)
  have HPC:Hid (t.l.length%t.h≠0→(write F.D (lastAd t:Nat) (lastW8 F.D.size t)).1≠0→∀W7,PutEnd w G x p (endF {F with D:=(write F.D (lastAd t:Nat) (lastW8 F.D.size t)).2} t 0) (n+1) t W7→CloseTo w G x p F n t (.returned (.tuple #[fileV 0 0 0 0,.int .i64 (write F.D (lastAd t:Nat) (lastW8 F.D.size t)).1])) W7):=fun h1 h0 W7 h2=>.inr (.inr ⟨h1,h0,rfl,h2⟩)
  have hmodE:Int.tmod ((t.l.length:Nat):Int) (t.h:Int)=((t.l.length%t.h:Nat):Int):=rfl
  have hh0:¬((t.h:Int)=0):=by omega
  have hmb:t.l.length%t.h≤254:=by have:=Nat.mod_lt t.l.length hh.1;omega
  have HZ:Hid (t.l.length=0→nb=0∧fst=0):=fun h1=>⟨by rw[hnb,h1,blocks_zero],by rw[hfst];unfold firstOf;rw[if_pos h1]⟩
  have HNZ:Hid (t.l.length≠0→fst=t.first):=fun h1=>by rw[hfst];unfold firstOf;rw[if_neg h1]
  have hrc0:=hm0.row.cell 0
  have a1:w0.cell? ⟨x,1,none⟩=some (.int .i64 t.h):=hm0.row.cell 1
  have a4:w0.cell? ⟨x,4,none⟩=some (.int .i64 (t.l.length:Nat)):=hm0.row.cell 4
  have hcb:t.l.length≤100000000:=by omega
  have HRB:=Lib.hid hrb
  obtain⟨FB,hFB⟩:∃FB:Fs,FB={F with D:=(write F.D (lastAd t:Nat) (lastW8 F.D.size t)).2}:=⟨_,rfl⟩
  have HFBA:Hid (FB.A=F.A∧FB.D.size=F.D.size):=by unfold Hid;rw[hFB];exact⟨rfl,hse⟩
  have HFA:Hid (F.A=F.A∧F.D.size=F.D.size):=⟨rfl,rfl⟩
  rw[←hFB]at HLAST HPB HPC
  clear hFB hse h h0 hm hm0 hok hheld hst hd hnb hfst hnbl hbl hfi hbd hrb hb0 hrc0 hz0 hbe hsz hk hnG hx hbw hgw hxb hxg hbg hx0 ho
  generalize CloseTo w G x p F n t=POST at*
  generalize(write F.D (lastAd t:Nat) (lastW8 F.D.size t)).1=er at*
  obtain⟨k,hh2,bound,first,blocks,b,g,l⟩:=t
  simp only at*
  obtain⟨cnt,hcnt⟩:∃cnt,cnt=l.length:=⟨_,rfl⟩
  rw[←hcnt]at hmodE hmb HZ HNZ a4 hcb HLAST HBL HCELL HPA HPB HPC
  obtain⟨r,hr⟩:∃r,r=cnt%hh2:=⟨_,rfl⟩
  rw[←hr]at hmodE hmb HLAST HPA HPB HPC
  have HW0:=Lib.hid hw0
  clear hr hcnt hh hw0
  by_cases hr0:r=0
  · have gr:¬0<r:=by omega
    have HP:=Lib.hid (HPA.out hr0)
    have HMID:=HMID0
    have HFF:=HFA
    clear HPA HPB HPC HLAST HMID0 hr0 HFBA HFA
    go_enter Tryz.func55,Tryz.ntmps55
    go_wp2_with fail
    rw[←HW0.out]
    refine HC.out.mono ?_;rintro e w1 ⟨rfl,rfl⟩
    go_wp2
    go_region
    generalize w1.drew=W2 at*
    clear gr hmodE hh0 hmb a1 a4
    have HCL:=Lib.hid (HCELL.out _ _ _ HMID.out)
    obtain⟨e0,e1,e4,e5⟩:=HCL.out W2 (Below.refl _ _)
    have hxl:x<W2.heap.size:=HMID.out.2.1.lt
    have hrw2:=HMID.out.2.2
    have hlw2:w.heap.size<W2.heap.size:=hrw2.lt
    have HRW2:=Lib.hid hrw2
    clear hrw2
    go_wp2
    go_region
    have hrf3:Row (W2.alloc (.cells #[.int .i64 0,.int .i64 0,.int .i64 k,.int .i64 cnt] 31)).drew W2.heap.size 31 [.int .i64 0,.int .i64 0,.int .i64 k,.int .i64 cnt]:=heap_alloc_new _ _
    have hb3:=below_drew ((Below.refl W2.heap.size W2).alloc (Nat.le_refl _) (.cells #[.int .i64 0,.int .i64 0,.int .i64 k,.int .i64 cnt] 31))
    generalize(W2.alloc (.cells #[.int .i64 0,.int .i64 0,.int .i64 k,.int .i64 cnt] 31)).drew=W3 at*
    obtain⟨_,_,i4,_⟩:=HCL.out W3 hb3
    have HB3:=Lib.hid hb3
    have HRF3:=Lib.hid hrf3
    clear e0 e1 e4 e5
    have HEND:Hid (∀W5,Below W2.heap.size W2 W5→Row W5 W2.heap.size 31 [.int .i64 fst,.int .i64 nb,.int .i64 k,.int .i64 cnt]→Calls Tryz.prog 74 #[.pointer (some ⟨x,0,none⟩),.int .i64 nb] W5 fun e w6=>e=.returned (.tuple #[])∧(Row w6 w.heap.size 31 [.int .i64 0,.int .i64 0,.int .i64 0,.int .i64 0]∧Row w6 W2.heap.size 31 [.int .i64 fst,.int .i64 nb,.int .i64 k,.int .i64 cnt])∧∀W7,Far (fun k=>k=w.heap.size) w6 W7→POST (.returned (.tuple #[fileV fst nb k cnt,.int .i64 0])) W7):=fun W5 hb5 hr5=>
      (HWEND.out _ _ W2 HMID.out (by first|exact HFF.out.1|rfl) (by first|exact HFF.out.2|rfl) W5 hb5).mono fun e w6 ⟨he,h6,hz,hk⟩=>⟨he,⟨hz,hk _ _ hr5 (Nat.le_refl _)⟩,fun W7 hf7=>HP.out W7 (HFIN.out _ _ nb w6 W7 (by first|exact HFF.out.1|rfl) h6 hf7)⟩
    clear HWEND HFIN HP hrf3 hb3 HRW2 HRB HC HMID HFF
    by_cases hc0:cnt=0
    · obtain⟨hn0,hf0⟩:=HZ.out hc0
      subst hn0;subst hf0
      have gc:¬0<cnt:=by omega
      have i5:W3.cell? ⟨W2.heap.size,1,none⟩=some (.int .i64 0):=HRF3.out.cell 1
      have HE:=Lib.hid (HEND.out W3 HB3.out HRF3.out)
      clear HEND hc0 HCL
      go_wp2_with fail
      refine HE.out.mono ?_;rintro e W6 ⟨rfl,⟨hz6,hf6⟩,h7⟩
      have H7:=Lib.hid h7
      have q0:W6.cell? ⟨w.heap.size,0,none⟩=some (.int .i64 0):=hz6.cell 0
      have q1:W6.cell? ⟨w.heap.size,1,none⟩=some (.int .i64 0):=hz6.cell 1
      have q2:W6.cell? ⟨w.heap.size,2,none⟩=some (.int .i64 0):=hz6.cell 2
      have q3:W6.cell? ⟨w.heap.size,3,none⟩=some (.int .i64 0):=hz6.cell 3
      have z0:=hz6.free 0
      have z1:=hz6.free 1
      have z2:=hz6.free 2
      have z3:=hz6.free 3
      have s0:W6.cell? ⟨W2.heap.size,0,none⟩=some (.int .i64 0):=hf6.cell 0
      have s1:W6.cell? ⟨W2.heap.size,1,none⟩=some (.int .i64 0):=hf6.cell 1
      have s2:W6.cell? ⟨W2.heap.size,2,none⟩=some (.int .i64 k):=hf6.cell 2
      have s3:W6.cell? ⟨W2.heap.size,3,none⟩=some (.int .i64 cnt):=hf6.cell 3
      have HZ6:=Lib.hid hz6
      clear hz6 hf6 h7 HE
      go_wp2
      have HQ:=H7.out _ (Far.four W6 w.heap.size (.int .i64 0) (.int .i64 0) (.int .i64 k) (.int .i64 cnt))
      have hr8:=(((HZ6.out.set 0 (.int .i64 0)).set 1 (.int .i64 0)).set 2 (.int .i64 k)).set 3 (.int .i64 cnt)
      have r0:=hr8.cell 0
      have r1:=hr8.cell 1
      have r2:=hr8.cell 2
      have r3:=hr8.cell 3
      refine bodyPost_ret (v:=.tuple #[.agg #[.int .i64 0,.int .i64 0,.int .i64 k,.int .i64 cnt],.int .i64 0]) (by simp[results,Tryz.results55,go_sem,r0,r1,r2,r3]) rfl HQ
    · have gc:0<cnt:=by omega
      have hfe:=HNZ.out hc0
      have hb3d:=below_drew HB3.out
      have q1:=HCL.out W3.drew hb3d
      have i5:=HCL.out W3 HB3.out
      rw[hfe]at HEND
      clear hfe i4
      have i4:=i5.2.2.1
      clear hc0
      go_wp2
      go_region_held3 (fun w'=>w'.cell? ⟨x,0,none⟩=some (.int .i64 k)∧w'.cell? ⟨x,1,none⟩=some (.int .i64 hh2)∧w'.cell? ⟨x,4,none⟩=some (.int .i64 cnt)∧w'.cell? ⟨x,5,none⟩=some (.int .i64 first))
        (first|with_reducible exact q1|with_reducible exact q2|with_reducible exact q3|with_reducible exact q4)
        (first
          | (go_at_call 60;(with_reducible refine(HBL.out _).mono ?_);rintro e w4 ⟨rfl,hbl4⟩;have hrf4:=(HRF3.out.drewN 1).below hbl4 (HRF3.out.drewN 1).lt;have hb4:=hb3d.trans (hbl4.mono hb3d.size);have q2:=HCL.out w4 hb4;have f0:w4.cell? ⟨W2.heap.size,0,none⟩=some (.int .i64 0):=hrf4.cell 0;have f1:w4.cell? ⟨W2.heap.size,1,none⟩=some (.int .i64 0):=hrf4.cell 1;have z0:=hrf4.free 0;have z1:=hrf4.free 1;have hb5:=hb4.setCell (p:=⟨W2.heap.size,0,none⟩) (Nat.le_refl _) (.int .i64 first);have q3:=HCL.out _ hb5;have hb6:=hb5.setCell (p:=⟨W2.heap.size,1,none⟩) (Nat.le_refl _) (.int .i64 nb);have q4:=HCL.out _ hb6;have HRF4:=Lib.hid hrf4;clear hrf4 hbl4))
      have hr5:=(HRF4.out.set 0 (.int .i64 first)).set 1 (.int .i64 nb)
      have HE:=Lib.hid (HEND.out _ hb6 hr5)
      have i6:((w4.setCell ⟨W2.heap.size,0,none⟩ (.int .i64 first)).setCell ⟨W2.heap.size,1,none⟩ (.int .i64 nb)).cell? ⟨W2.heap.size,1,none⟩=some (.int .i64 nb):=hr5.cell 1
      clear HEND HCL q1 q2 q3 q4 f0 f1 z0 z1 hb4 hb5 hb6 hr5 HRF4 HRF3 HB3 i4 i5 hb3d HBL
      generalize(w4.setCell ⟨W2.heap.size,0,none⟩ (.int .i64 first)).setCell ⟨W2.heap.size,1,none⟩ (.int .i64 nb)=W5 at*
      go_wp2_with fail
      refine HE.out.mono ?_;rintro e W6 ⟨rfl,⟨hz6,hf6⟩,h7⟩
      have H7:=Lib.hid h7
      have q0:W6.cell? ⟨w.heap.size,0,none⟩=some (.int .i64 0):=hz6.cell 0
      have q1:W6.cell? ⟨w.heap.size,1,none⟩=some (.int .i64 0):=hz6.cell 1
      have q2:W6.cell? ⟨w.heap.size,2,none⟩=some (.int .i64 0):=hz6.cell 2
      have q3:W6.cell? ⟨w.heap.size,3,none⟩=some (.int .i64 0):=hz6.cell 3
      have z0:=hz6.free 0
      have z1:=hz6.free 1
      have z2:=hz6.free 2
      have z3:=hz6.free 3
      have s0:W6.cell? ⟨W2.heap.size,0,none⟩=some (.int .i64 first):=hf6.cell 0
      have s1:W6.cell? ⟨W2.heap.size,1,none⟩=some (.int .i64 nb):=hf6.cell 1
      have s2:W6.cell? ⟨W2.heap.size,2,none⟩=some (.int .i64 k):=hf6.cell 2
      have s3:W6.cell? ⟨W2.heap.size,3,none⟩=some (.int .i64 cnt):=hf6.cell 3
      have HZ6:=Lib.hid hz6
      clear hz6 hf6 h7 HE
      go_wp2
      have HQ:=H7.out _ (Far.four W6 w.heap.size (.int .i64 first) (.int .i64 nb) (.int .i64 k) (.int .i64 cnt))
      have hr8:=(((HZ6.out.set 0 (.int .i64 first)).set 1 (.int .i64 nb)).set 2 (.int .i64 k)).set 3 (.int .i64 cnt)
      have r0:=hr8.cell 0
      have r1:=hr8.cell 1
      have r2:=hr8.cell 2
      have r3:=hr8.cell 3
      refine bodyPost_ret (v:=.tuple #[.agg #[.int .i64 first,.int .i64 nb,.int .i64 k,.int .i64 cnt],.int .i64 0]) (by simp[results,Tryz.results55,go_sem,r0,r1,r2,r3]) rfl HQ
  · have gr:0<r:=by omega
    have HLA:=Lib.hid (HLAST.out hr0)
    have HPB1:=Lib.hid (HPB.out hr0)
    have HPC1:=Lib.hid (HPC.out hr0)
    clear HPA HPB HPC HLAST HMID0 hr0 HFA
    by_cases he0:er=0
    · subst he0
      have HP:=Lib.hid (HPB1.out rfl)
      clear HPB1 HPC1
      go_enter Tryz.func55,Tryz.ntmps55
      go_wp2_with fail
      rw[←HW0.out]
      refine HC.out.mono ?_;rintro e w1 ⟨rfl,rfl⟩
      go_wp2
      go_region
      go_wp2_with fail
      refine HLA.out.mono ?_;rintro e W2 ⟨rfl,h2⟩
      have HMID:Hid (CloseMid w w1 G x p ⟨k,hh2,bound,first,blocks,b,g,l⟩ FB (n+1) W2):=by
        rcases h2 with⟨_,h3⟩|⟨h3,_⟩
        · exact h3
        · exact absurd rfl h3
      have HFF:=HFBA
      clear h2 HLA HFBA
      clear gr hmodE hh0 hmb a1 a4
      have HCL:=Lib.hid (HCELL.out _ _ _ HMID.out)
      obtain⟨e0,e1,e4,e5⟩:=HCL.out W2 (Below.refl _ _)
      have hxl:x<W2.heap.size:=HMID.out.2.1.lt
      have hrw2:=HMID.out.2.2
      have hlw2:w.heap.size<W2.heap.size:=hrw2.lt
      have HRW2:=Lib.hid hrw2
      clear hrw2
      go_wp2
      go_region
      have hrf3:Row (W2.alloc (.cells #[.int .i64 0,.int .i64 0,.int .i64 k,.int .i64 cnt] 31)).drew W2.heap.size 31 [.int .i64 0,.int .i64 0,.int .i64 k,.int .i64 cnt]:=heap_alloc_new _ _
      have hb3:=below_drew ((Below.refl W2.heap.size W2).alloc (Nat.le_refl _) (.cells #[.int .i64 0,.int .i64 0,.int .i64 k,.int .i64 cnt] 31))
      generalize(W2.alloc (.cells #[.int .i64 0,.int .i64 0,.int .i64 k,.int .i64 cnt] 31)).drew=W3 at*
      obtain⟨_,_,i4,_⟩:=HCL.out W3 hb3
      have HB3:=Lib.hid hb3
      have HRF3:=Lib.hid hrf3
      clear e0 e1 e4 e5
      have HEND:Hid (∀W5,Below W2.heap.size W2 W5→Row W5 W2.heap.size 31 [.int .i64 fst,.int .i64 nb,.int .i64 k,.int .i64 cnt]→Calls Tryz.prog 74 #[.pointer (some ⟨x,0,none⟩),.int .i64 nb] W5 fun e w6=>e=.returned (.tuple #[])∧(Row w6 w.heap.size 31 [.int .i64 0,.int .i64 0,.int .i64 0,.int .i64 0]∧Row w6 W2.heap.size 31 [.int .i64 fst,.int .i64 nb,.int .i64 k,.int .i64 cnt])∧∀W7,Far (fun k=>k=w.heap.size) w6 W7→POST (.returned (.tuple #[fileV fst nb k cnt,.int .i64 0])) W7):=fun W5 hb5 hr5=>
        (HWEND.out _ _ W2 HMID.out (by first|exact HFF.out.1|rfl) (by first|exact HFF.out.2|rfl) W5 hb5).mono fun e w6 ⟨he,h6,hz,hk⟩=>⟨he,⟨hz,hk _ _ hr5 (Nat.le_refl _)⟩,fun W7 hf7=>HP.out W7 (HFIN.out _ _ nb w6 W7 (by first|exact HFF.out.1|rfl) h6 hf7)⟩
      clear HWEND HFIN HP hrf3 hb3 HRW2 HRB HC HMID HFF
      by_cases hc0:cnt=0
      · obtain⟨hn0,hf0⟩:=HZ.out hc0
        subst hn0;subst hf0
        have gc:¬0<cnt:=by omega
        have i5:W3.cell? ⟨W2.heap.size,1,none⟩=some (.int .i64 0):=HRF3.out.cell 1
        have HE:=Lib.hid (HEND.out W3 HB3.out HRF3.out)
        clear HEND hc0 HCL
        go_wp2_with fail
        refine HE.out.mono ?_;rintro e W6 ⟨rfl,⟨hz6,hf6⟩,h7⟩
        have H7:=Lib.hid h7
        have q0:W6.cell? ⟨w.heap.size,0,none⟩=some (.int .i64 0):=hz6.cell 0
        have q1:W6.cell? ⟨w.heap.size,1,none⟩=some (.int .i64 0):=hz6.cell 1
        have q2:W6.cell? ⟨w.heap.size,2,none⟩=some (.int .i64 0):=hz6.cell 2
        have q3:W6.cell? ⟨w.heap.size,3,none⟩=some (.int .i64 0):=hz6.cell 3
        have z0:=hz6.free 0
        have z1:=hz6.free 1
        have z2:=hz6.free 2
        have z3:=hz6.free 3
        have s0:W6.cell? ⟨W2.heap.size,0,none⟩=some (.int .i64 0):=hf6.cell 0
        have s1:W6.cell? ⟨W2.heap.size,1,none⟩=some (.int .i64 0):=hf6.cell 1
        have s2:W6.cell? ⟨W2.heap.size,2,none⟩=some (.int .i64 k):=hf6.cell 2
        have s3:W6.cell? ⟨W2.heap.size,3,none⟩=some (.int .i64 cnt):=hf6.cell 3
        have HZ6:=Lib.hid hz6
        clear hz6 hf6 h7 HE
        go_wp2
        have HQ:=H7.out _ (Far.four W6 w.heap.size (.int .i64 0) (.int .i64 0) (.int .i64 k) (.int .i64 cnt))
        have hr8:=(((HZ6.out.set 0 (.int .i64 0)).set 1 (.int .i64 0)).set 2 (.int .i64 k)).set 3 (.int .i64 cnt)
        have r0:=hr8.cell 0
        have r1:=hr8.cell 1
        have r2:=hr8.cell 2
        have r3:=hr8.cell 3
        refine bodyPost_ret (v:=.tuple #[.agg #[.int .i64 0,.int .i64 0,.int .i64 k,.int .i64 cnt],.int .i64 0]) (by simp[results,Tryz.results55,go_sem,r0,r1,r2,r3]) rfl HQ
      · have gc:0<cnt:=by omega
        have hfe:=HNZ.out hc0
        have hb3d:=below_drew HB3.out
        have q1:=HCL.out W3.drew hb3d
        have i5:=HCL.out W3 HB3.out
        rw[hfe]at HEND
        clear hfe i4
        have i4:=i5.2.2.1
        clear hc0
        go_wp2
        go_region_held3 (fun w'=>w'.cell? ⟨x,0,none⟩=some (.int .i64 k)∧w'.cell? ⟨x,1,none⟩=some (.int .i64 hh2)∧w'.cell? ⟨x,4,none⟩=some (.int .i64 cnt)∧w'.cell? ⟨x,5,none⟩=some (.int .i64 first))
          (first|with_reducible exact q1|with_reducible exact q2|with_reducible exact q3|with_reducible exact q4)
          (first
            | (go_at_call 60;(with_reducible refine(HBL.out _).mono ?_);rintro e w4 ⟨rfl,hbl4⟩;have hrf4:=(HRF3.out.drewN 1).below hbl4 (HRF3.out.drewN 1).lt;have hb4:=hb3d.trans (hbl4.mono hb3d.size);have q2:=HCL.out w4 hb4;have f0:w4.cell? ⟨W2.heap.size,0,none⟩=some (.int .i64 0):=hrf4.cell 0;have f1:w4.cell? ⟨W2.heap.size,1,none⟩=some (.int .i64 0):=hrf4.cell 1;have z0:=hrf4.free 0;have z1:=hrf4.free 1;have hb5:=hb4.setCell (p:=⟨W2.heap.size,0,none⟩) (Nat.le_refl _) (.int .i64 first);have q3:=HCL.out _ hb5;have hb6:=hb5.setCell (p:=⟨W2.heap.size,1,none⟩) (Nat.le_refl _) (.int .i64 nb);have q4:=HCL.out _ hb6;have HRF4:=Lib.hid hrf4;clear hrf4 hbl4))
        have hr5:=(HRF4.out.set 0 (.int .i64 first)).set 1 (.int .i64 nb)
        have HE:=Lib.hid (HEND.out _ hb6 hr5)
        have i6:((w4.setCell ⟨W2.heap.size,0,none⟩ (.int .i64 first)).setCell ⟨W2.heap.size,1,none⟩ (.int .i64 nb)).cell? ⟨W2.heap.size,1,none⟩=some (.int .i64 nb):=hr5.cell 1
        clear HEND HCL q1 q2 q3 q4 f0 f1 z0 z1 hb4 hb5 hb6 hr5 HRF4 HRF3 HB3 i4 i5 hb3d HBL
        generalize(w4.setCell ⟨W2.heap.size,0,none⟩ (.int .i64 first)).setCell ⟨W2.heap.size,1,none⟩ (.int .i64 nb)=W5 at*
        go_wp2_with fail
        refine HE.out.mono ?_;rintro e W6 ⟨rfl,⟨hz6,hf6⟩,h7⟩
        have H7:=Lib.hid h7
        have q0:W6.cell? ⟨w.heap.size,0,none⟩=some (.int .i64 0):=hz6.cell 0
        have q1:W6.cell? ⟨w.heap.size,1,none⟩=some (.int .i64 0):=hz6.cell 1
        have q2:W6.cell? ⟨w.heap.size,2,none⟩=some (.int .i64 0):=hz6.cell 2
        have q3:W6.cell? ⟨w.heap.size,3,none⟩=some (.int .i64 0):=hz6.cell 3
        have z0:=hz6.free 0
        have z1:=hz6.free 1
        have z2:=hz6.free 2
        have z3:=hz6.free 3
        have s0:W6.cell? ⟨W2.heap.size,0,none⟩=some (.int .i64 first):=hf6.cell 0
        have s1:W6.cell? ⟨W2.heap.size,1,none⟩=some (.int .i64 nb):=hf6.cell 1
        have s2:W6.cell? ⟨W2.heap.size,2,none⟩=some (.int .i64 k):=hf6.cell 2
        have s3:W6.cell? ⟨W2.heap.size,3,none⟩=some (.int .i64 cnt):=hf6.cell 3
        have HZ6:=Lib.hid hz6
        clear hz6 hf6 h7 HE
        go_wp2
        have HQ:=H7.out _ (Far.four W6 w.heap.size (.int .i64 first) (.int .i64 nb) (.int .i64 k) (.int .i64 cnt))
        have hr8:=(((HZ6.out.set 0 (.int .i64 first)).set 1 (.int .i64 nb)).set 2 (.int .i64 k)).set 3 (.int .i64 cnt)
        have r0:=hr8.cell 0
        have r1:=hr8.cell 1
        have r2:=hr8.cell 2
        have r3:=hr8.cell 3
        refine bodyPost_ret (v:=.tuple #[.agg #[.int .i64 first,.int .i64 nb,.int .i64 k,.int .i64 cnt],.int .i64 0]) (by simp[results,Tryz.results55,go_sem,r0,r1,r2,r3]) rfl HQ
    · have g9:(er !=0)=true:=by simpa using he0
      have HP:=Lib.hid (HPC1.out he0)
      clear HPB1 HPC1
      go_enter Tryz.func55,Tryz.ntmps55
      go_wp2_with fail
      rw[←HW0.out]
      refine HC.out.mono ?_;rintro e w1 ⟨rfl,rfl⟩
      go_wp2
      go_region
      go_wp2_with fail
      refine HLA.out.mono ?_;rintro e W2 ⟨rfl,h2⟩
      have h3:EndTo w1 G b p (endF FB ⟨k,hh2,bound,first,blocks,b,g,l⟩ 0) (n+1) W2∧Row W2 w.heap.size 31 [.int .i64 0,.int .i64 0,.int .i64 0,.int .i64 0]:=by
        rcases h2 with⟨h3,_⟩|⟨_,h3⟩
        · exact absurd h3 he0
        · exact h3
      have q0:W2.cell? ⟨w.heap.size,0,none⟩=some (.int .i64 0):=h3.2.cell 0
      have q1:W2.cell? ⟨w.heap.size,1,none⟩=some (.int .i64 0):=h3.2.cell 1
      have q2:W2.cell? ⟨w.heap.size,2,none⟩=some (.int .i64 0):=h3.2.cell 2
      have q3:W2.cell? ⟨w.heap.size,3,none⟩=some (.int .i64 0):=h3.2.cell 3
      have z0:=h3.2.free 0
      have z1:=h3.2.free 1
      have z2:=h3.2.free 2
      have z3:=h3.2.free 3
      have H3:=Lib.hid h3
      clear h2 h3 HLA
      go_wp2
      have HQ:=HP.out _ (HFIN.out FB (n+1) 0 W2 _ HFBA.out.1 H3.out.1 (Far.four W2 w.heap.size (.int .i64 0) (.int .i64 0) (.int .i64 0) (.int .i64 0)))
      have hr8:=(((H3.out.2.set 0 (.int .i64 0)).set 1 (.int .i64 0)).set 2 (.int .i64 0)).set 3 (.int .i64 0)
      have r0:=hr8.cell 0
      have r1:=hr8.cell 1
      have r2:=hr8.cell 2
      have r3:=hr8.cell 3
      refine bodyPost_ret (v:=.tuple #[.agg #[.int .i64 0,.int .i64 0,.int .i64 0,.int .i64 0],.int .i64 er]) (by simp[results,Tryz.results55,go_sem,r0,r1,r2,r3]) rfl HQ
def WArgs(F:Fs)(width bound:Int):Prop:=holdsI F.D.size width≠0∧0≤bound∧bound≤100000000
def WErr(F:Fs)(width bound er:Int):Prop:=
 (er=1∧¬WArgs F width bound)∨(er=7∧WArgs F width bound∧F.A.room-F.A.used<F.D.size)∨
 (er=5∧WArgs F width bound∧F.D.size≤F.A.room-F.A.used∧0<blocksN (holdsI F.D.size width) bound.toNat∧∀k,¬roomB F.S k (blocksN (holdsI F.D.size width) bound.toNat))
def Taken(S S':Sp)(a m:Nat):Prop:=(m=0∧a=0∧S'=S)∨(0<m∧Took S S' a m∧∀k,roomB S k m→a≤k)
theorem give_take{S S':Sp}{a m:Nat}(hm:0<m)(h:S.ok)(ht:Took S S' a m):(giveS S' a m).1=S:=by
 have hr:=h.2.2
 have h1:=hr.has (ht.room a (Nat.le_refl _) (by omega))
 have h2:=hr.has (ht.room (a+m-1) (by omega) (by omega))
 rcases giveS_spec ht.ok (a:Int) (m:Int)with⟨s',a',m',e1,e2,h3,e3,hg⟩|⟨e3,hno⟩
 ·have ea:a'=a:=by omega
  have em:m'=m:=by omega
  subst ea;subst em
  rw[e3]
  have hf:s'.first=S.first:=hg.first.trans ht.first
  have hb:s'.blocks=S.blocks:=hg.blocks.trans ht.blocks
  have hfr:s'.fr=S.fr:=by
   have hc:=hg.ok.2.2
   rw[hf,hb]at hc
   refine Canon.only hc hr fun b=>?_
   rw[hg.has,ht.has]
   constructor
   ·rintro(h4|h4)
    ·exact h4.1
    ·exact ht.room b h4.1 h4.2
   ·intro h4
    by_cases h5:a'≤b∧b<a'+m'
    ·exact .inr h5
    ·exact .inl ⟨h4,h5⟩
  obtain⟨f1,b1,l1⟩:=s'
  obtain⟨f2,b2,l2⟩:=S
  simp only at hf hb hfr
  subst hf;subst hb;subst hfr;rfl
 ·refine absurd ?_ (hno a m rfl rfl (by omega))
  rw[ht.first,ht.blocks]
  exact⟨h1.1,by omega,fun b hb1 hb2 hh=>((ht.has b).1 hh).2 ⟨hb1,hb2⟩⟩
theorem took_le{S S':Sp}{a m:Nat}(hm:0<m)(h:S.ok)(ht:Took S S' a m):a+m≤S.first+S.blocks∧S.first≤a:=by
 have hr:=h.2.2
 have h1:=hr.has (ht.room a (Nat.le_refl _) (by omega))
 have h2:=hr.has (ht.room (a+m-1) (by omega) (by omega))
 omega
theorem takeN_spec{S:Sp}(h:S.ok)(m:Nat):(∃S' a,takeN S m=(S',a,m,0)∧Taken S S' a m∧giveN S' a m=S∧a+m≤2000000)∨(takeN S m=(S,0,0,5)∧0<m∧∀k,¬roomB S k m):=by
 by_cases hm:m=0
 ·subst hm;exact .inl ⟨S,0,rfl,.inl ⟨rfl,rfl,rfl⟩,rfl,by omega⟩
 ·have hm':0<m:=by omega
  unfold takeN
  rw[if_neg hm]
  rcases takeS_spec h (n:=m) hm' with⟨S',a,e,ht,hl⟩|⟨e,hno⟩
  ·rw[e,if_pos rfl]
   refine .inl ⟨S',a,rfl,.inr ⟨hm',ht,hl⟩,?_,?_⟩
   ·unfold giveN;rw[if_neg hm];exact give_take hm' h ht
   ·have:=took_le hm' h ht;have:=h.1;have:=h.2.1;omega
  ·rw[e,if_neg (show ¬((5:Nat)=0)by decide)]
   exact .inr ⟨rfl,hm',hno⟩
theorem holds_pos{size:Nat}{width:Int}(h:holdsI size width≠0):∃k:Nat,width=(k:Int)∧0<k∧k≤5∧holdsI size width*k≤size-2:=by
 unfold holdsI at h⊢
 by_cases hc:width<1∨5<width
 ·rw[if_pos hc]at h;exact absurd rfl h
 ·rw[if_neg hc]
  refine⟨width.toNat,by omega,by omega,by omega,?_⟩
  exact Nat.div_mul_le_self _ _
theorem fwrite_bad{w:World}{G:Nat→Prop}{p:Wp}{F:Fs}{n:Nat}(h:Sys w G p F n)(width bound:Int)(hno:¬WArgs F width bound):Calls Tryz.prog 52 #[.pointer (some ⟨p.w,0,none⟩),.int .i64 width,.int .i64 bound] w fun e w'=>e=.returned (.tuple #[.pointer none,.int .i64 1])∧Below w.heap.size w w':=by
 have HS:=Lib.hid (shape_any h width)
 by_cases h0:holdsI F.D.size width=0
 ·rw[h0]at HS
  clear h0 hno h
  go_enter Tryz.func52,Tryz.ntmps52
  go_wp2_with fail
  refine HS.out.mono ?_;rintro e w1 ⟨rfl,hb⟩
  have HB:=Lib.hid (hb.alloc hb.size (.cells #[.int .i64 width,.int .i64 0] 120))
  clear hb
  go_wp2
  go_ret2
  exact⟨rfl,HB.out⟩
 ·have g0:(((holdsI F.D.size width:Nat):Int)==0)=false:=by simpa using h0
  by_cases h1:bound<0
  ·have g1:decide (bound<0)=true:=by simpa using h1
   generalize holdsI F.D.size width=hh at*
   clear h0 hno h h1
   go_enter Tryz.func52,Tryz.ntmps52
   go_wp2_with fail
   refine HS.out.mono ?_;rintro e w1 ⟨rfl,hb⟩
   have HB:=Lib.hid (hb.alloc hb.size (.cells #[.int .i64 width,.int .i64 hh] 120))
   clear hb
   go_wp2
   go_ret2
   exact⟨rfl,HB.out⟩
  ·have g1:decide (bound<0)=false:=by simpa using h1
   have g2:decide (bound>100000000)=true:=by
    have:¬bound≤100000000:=fun h2=>hno ⟨h0,by omega,h2⟩
    simp;omega
   generalize holdsI F.D.size width=hh at*
   clear h0 hno h h1
   go_enter Tryz.func52,Tryz.ntmps52
   go_wp2_with fail
   refine HS.out.mono ?_;rintro e w1 ⟨rfl,hb⟩
   have HB:=Lib.hid (hb.alloc hb.size (.cells #[.int .i64 width,.int .i64 hh] 120))
   clear hb
   go_wp2
   go_ret2
   exact⟨rfl,HB.out⟩
theorem fwrite_none{w:World}{G:Nat→Prop}{p:Wp}{F:Fs}{n:Nat}(h:Sys w G p F n)(width bound:Int)(ha:WArgs F width bound)(htk:takeN F.S (blocksN (holdsI F.D.size width) bound.toNat)=(F.S,0,0,5))(e7:Bool)(he7:e7=decide (F.A.room-F.A.used<F.D.size)):Calls Tryz.prog 52 #[.pointer (some ⟨p.w,0,none⟩),.int .i64 width,.int .i64 bound] w fun e w'=>e=.returned (.tuple #[.pointer none,.int .i64 (if e7 then 7 else 5)])∧SysTo w G p F n w':=by
 have hsz:=h.size
 have hh254:holdsI F.D.size width≤254:=Nat.le_trans (holds_le _ _) (by omega)
 obtain⟨ha0,hab0,hab1⟩:=ha
 obtain⟨bn,rfl⟩:∃bn:Nat,bound=(bn:Int):=⟨bound.toNat,by omega⟩
 rw[Int.toNat_natCast]at htk
 obtain⟨k,rfl,hk0,hk5,hhk⟩:=holds_pos ha0
 have hbm:blocksN (holdsI F.D.size k) bn≤100000000:=Nat.le_trans (blocks_le _ _) (by omega)
 have HS:=Lib.hid (shape_any h k)
 have HBL:Hid (∀W,Calls Tryz.prog 60 #[.agg #[.int .i64 k,.int .i64 (holdsI F.D.size k:Nat)],.int .i64 bn] W fun e w'=>e=.returned (.int .i64 (blocksN (holdsI F.D.size k) bn:Nat))∧Below W.heap.size W w'):=fun W=>blks_any k (holdsI F.D.size k) bn W (by omega) hh254 (by omega)
 have HTK:Hid (∀W,Below w.heap.size w W→Calls Tryz.prog 70 #[.pointer (some ⟨p.w,0,none⟩),.int .i64 (blocksN (holdsI F.D.size k) bn:Nat)] W fun e w'=>e=.returned (.tuple #[.agg #[.int .i64 0,.int .i64 0],.int .i64 5])∧SysTo W G p F n w'∧∀g t cs,Row W g t cs→¬G g→Row w' g t cs):=fun W hb=>by
  have h1:=ftake_any (h.below hb) (blocksN (holdsI F.D.size k) bn) hbm
  rw[htk]at h1
  exact h1.mono fun e w' ⟨he,h2⟩=>⟨he,h2,fun g t cs hr hg=>h2.row hr hg⟩
 have HNG:Hid (∀k,w.heap.size≤k→¬G k):=fun k hk hg=>by have:=h.lt hg;omega
 have HLQ:Hid (∀W G',Sys W G' p F n→∀q,Calls Tryz.prog 71 #[.pointer (some ⟨p.a,0,none⟩)] (W.drewN q) fun e w''=>e=.returned (.int .i64 ((F.A.room-F.A.used:Nat):Int))∧∃k,w''=W.drewN k):=fun W G' hs q=>Calls.quiet_of_same ((hs.below (below_drewN (Below.refl _ _) q)).left_any.mono fun _ _ h=>h)
 have HSQ:Hid (∀W G',Sys W G' p F n→∀q,Calls Tryz.prog 62 #[.pointer (some ⟨p.d,0,none⟩)] (W.drewN q) fun e w''=>e=.returned (.int .i64 (F.D.size:Int))∧∃k,w''=W.drewN k):=fun W G' hs q=>Calls.quiet_of_same ((hs.below (below_drewN (Below.refl _ _) q)).dsize_any.mono fun _ _ h=>h)
 obtain⟨left,hleft⟩:∃left,left=F.A.room-F.A.used:=⟨_,rfl⟩
 rw[←hleft]at HLQ he7
 have g0:(((holdsI F.D.size (k:Int):Nat):Int)==0)=false:=by simpa using ha0
 have g1:decide ((bn:Int)<0)=false:=by simp
 have g2:decide ((bn:Int)>100000000)=false:=by simp;omega
 clear hleft htk h ha0 hab0 hhk hh254
 generalize blocksN (holdsI F.D.size k) bn=nb at*
 generalize holdsI F.D.size k=hh at*
 cases e7
 ·have gl:¬left<F.D.size:=by simpa using he7
  clear he7
  go_enter Tryz.func52,Tryz.ntmps52
  go_wp2_with fail
  refine HS.out.mono ?_;rintro e w1 ⟨rfl,hb1⟩
  have hb2:=hb1.alloc hb1.size (.cells #[.int .i64 k,.int .i64 hh] 120)
  have hr2:Row (w1.alloc (.cells #[.int .i64 k,.int .i64 hh] 120)) w1.heap.size 120 [.int .i64 k,.int .i64 hh]:=heap_alloc_new _ _
  have hl1:=hb1.size
  clear hb1
  go_wp2_with fail
  refine(HBL.out _).mono ?_;rintro e w3 ⟨rfl,hb3⟩
  have hr3:=hr2.below hb3 hr2.lt
  have hb3':=hb2.trans (hb3.mono hb2.size)
  have HR3:=Lib.hid hr3
  have HB3:=Lib.hid hb3'
  have HL1:=Lib.hid hl1
  clear hb2 hr2 hb3 hr3 hb3' hl1
  go_wp2_with fail
  refine(HTK.out _ HB3.out).mono ?_;rintro e w4 ⟨rfl,h4,hk4⟩
  have hr4:=hk4 _ _ _ HR3.out (HNG.out _ HL1.out)
  obtain⟨G',k1,k2',k3'⟩:=h4
  have hsb:¬G' w1.heap.size:=fun hg=>(k3' _ hg).elim (HNG.out _ HL1.out) fun h=>by have:=HR3.out.lt;omega
  have k2:Far G w w4:=(Far.of_below HB3.out G).trans k2' fun b hb=>.inl hb
  have k3:∀k,G' k→G k∨w.heap.size≤k:=fun k hk=>(k3' k hk).imp id fun h=>Nat.le_trans HB3.out.size h
  clear k2' k3'
  have hb5:=(Below.refl w4.heap.size w4).alloc (Nat.le_refl _) (.cells #[.int .i64 0,.int .i64 0] 106)
  have hr5:=hr4.below hb5 hr4.lt
  have hre5:Row (w4.alloc (.cells #[.int .i64 0,.int .i64 0] 106)) w4.heap.size 106 [.int .i64 0,.int .i64 0]:=heap_alloc_new _ _
  have k5:=k1.below hb5
  have hw4:=k2.size
  go_wp2
  generalize w4.alloc (.cells #[.int .i64 0,.int .i64 0] 106)=w5 at*
  have Q1:=Lib.hid (HLQ.out w5 G' k5)
  have Q2:=Lib.hid (HSQ.out w5 G' k5)
  have c0:w5.cell? ⟨p.w,0,none⟩=some (.pointer (some ⟨p.d,0,none⟩)):=k5.row.cell 0
  have c1:w5.cell? ⟨p.w,1,none⟩=some (.pointer (some ⟨p.a,0,none⟩)):=k5.row.cell 1
  have HEND:Hid (∀q,SysTo w G p F n (w5.drewN q)):=fun q=>SysTo.ahead (SysTo.ahead ⟨G',k1,k2,k3⟩ hb5) (below_drewN (Below.refl _ _) q)
  clear k1 k2 k3 k5 hb5 hr5 hre5 hr4 hk4 HBL HTK HS HLQ HSQ HR3 HB3
  go_quiet ((with_reducible first|exact Q1.out _|exact Q2.out _))
  go_wp2
  go_ret2
  exact⟨rfl,HEND.out _⟩
 ·have gl:left<F.D.size:=by simpa using he7
  clear he7
  go_enter Tryz.func52,Tryz.ntmps52
  go_wp2_with fail
  refine HS.out.mono ?_;rintro e w1 ⟨rfl,hb1⟩
  have hb2:=hb1.alloc hb1.size (.cells #[.int .i64 k,.int .i64 hh] 120)
  have hr2:Row (w1.alloc (.cells #[.int .i64 k,.int .i64 hh] 120)) w1.heap.size 120 [.int .i64 k,.int .i64 hh]:=heap_alloc_new _ _
  have hl1:=hb1.size
  clear hb1
  go_wp2_with fail
  refine(HBL.out _).mono ?_;rintro e w3 ⟨rfl,hb3⟩
  have hr3:=hr2.below hb3 hr2.lt
  have hb3':=hb2.trans (hb3.mono hb2.size)
  have HR3:=Lib.hid hr3
  have HB3:=Lib.hid hb3'
  have HL1:=Lib.hid hl1
  clear hb2 hr2 hb3 hr3 hb3' hl1
  go_wp2_with fail
  refine(HTK.out _ HB3.out).mono ?_;rintro e w4 ⟨rfl,h4,hk4⟩
  have hr4:=hk4 _ _ _ HR3.out (HNG.out _ HL1.out)
  obtain⟨G',k1,k2',k3'⟩:=h4
  have hsb:¬G' w1.heap.size:=fun hg=>(k3' _ hg).elim (HNG.out _ HL1.out) fun h=>by have:=HR3.out.lt;omega
  have k2:Far G w w4:=(Far.of_below HB3.out G).trans k2' fun b hb=>.inl hb
  have k3:∀k,G' k→G k∨w.heap.size≤k:=fun k hk=>(k3' k hk).imp id fun h=>Nat.le_trans HB3.out.size h
  clear k2' k3'
  have hb5:=(Below.refl w4.heap.size w4).alloc (Nat.le_refl _) (.cells #[.int .i64 0,.int .i64 0] 106)
  have hr5:=hr4.below hb5 hr4.lt
  have hre5:Row (w4.alloc (.cells #[.int .i64 0,.int .i64 0] 106)) w4.heap.size 106 [.int .i64 0,.int .i64 0]:=heap_alloc_new _ _
  have k5:=k1.below hb5
  have hw4:=k2.size
  go_wp2
  generalize w4.alloc (.cells #[.int .i64 0,.int .i64 0] 106)=w5 at*
  have Q1:=Lib.hid (HLQ.out w5 G' k5)
  have Q2:=Lib.hid (HSQ.out w5 G' k5)
  have c0:w5.cell? ⟨p.w,0,none⟩=some (.pointer (some ⟨p.d,0,none⟩)):=k5.row.cell 0
  have c1:w5.cell? ⟨p.w,1,none⟩=some (.pointer (some ⟨p.a,0,none⟩)):=k5.row.cell 1
  have HEND:Hid (∀q,SysTo w G p F n (w5.drewN q)):=fun q=>SysTo.ahead (SysTo.ahead ⟨G',k1,k2,k3⟩ hb5) (below_drewN (Below.refl _ _) q)
  clear k1 k2 k3 k5 hb5 hr5 hre5 hr4 hk4 HBL HTK HS HLQ HSQ HR3 HB3
  go_quiet ((with_reducible first|exact Q1.out _|exact Q2.out _))
  go_wp2
  go_ret2
  exact⟨rfl,HEND.out _⟩
theorem sys_grant_no{w:World}{G:Nat→Prop}{p:Wp}{F:Fs}{n:Nat}(h:Sys w G p F n)(m:Nat)(hm:F.A.room-F.A.used<m):Calls Tryz.prog 61 #[.pointer (some ⟨p.a,0,none⟩),.int .i64 m] w fun e w'=>e=.returned (.tuple #[.pointer none,.int .i64 7])∧w'=w:=by
 obtain⟨Ga,ha,_⟩:=h.arn
 have h1:=grant_no p.a F.A Ga (m:Int) w ha (.inr (by omega))
 rw[if_neg (by omega)]at h1
 exact h1
theorem sys_grant{w:World}{G:Nat→Prop}{p:Wp}{F:Fs}{n:Nat}(h:Sys w G p F n)(m:Nat)(hm:m≤F.A.room-F.A.used)(h8:m≤256):Calls Tryz.prog 61 #[.pointer (some ⟨p.a,0,none⟩),.int .i64 m] w fun e w'=>∃b g,e=.returned (.tuple #[.pointer (some ⟨b,0,none⟩),.int .i64 0])∧
  (∃G',Sys w' G' p {F with A:=grant F.A b m} n∧Far G w w'∧(∀k,G' k→G k∨w.heap.size≤k)∧¬G' b∧¬G' g)∧Row w' b 132 [.slice (some ⟨g,0,none⟩) m m]∧Row w' g 133 ((List.replicate m 0).map vw)∧w.heap.size≤b∧w.heap.size≤g:=by
 obtain⟨Ga,ha,hg,_⟩:=h.arn
 refine(grant_any p.a F.A Ga m w ha hm (by omega)).mono ?_
 rintro e w' ⟨b,g,Ga',he,h1,h2,h3,h4,h5,h6⟩
 refine⟨b,g,he,hg w' b g m ⟨Ga',h1,h2,h3,h4,h5,h6⟩,h2,?_,h4,h5⟩
 rw[List.map_replicate];exact h3
theorem fwrite_room{w:World}{G:Nat→Prop}{p:Wp}{F:Fs}{n:Nat}(h:Sys w G p F n)(width bound:Int)(ha:WArgs F width bound)(S1:Sp)(a:Nat)(htk:takeN F.S (blocksN (holdsI F.D.size width) bound.toNat)=(S1,a,blocksN (holdsI F.D.size width) bound.toNat,0))(hgb:giveN S1 a (blocksN (holdsI F.D.size width) bound.toNat)=F.S)(hal:a≤2000000)(hroom:F.A.room-F.A.used<F.D.size):Calls Tryz.prog 52 #[.pointer (some ⟨p.w,0,none⟩),.int .i64 width,.int .i64 bound] w fun e w'=>e=.returned (.tuple #[.pointer none,.int .i64 7])∧SysTo w G p F n w':=by
 have hsz:=h.size
 have hh254:holdsI F.D.size width≤254:=Nat.le_trans (holds_le _ _) (by omega)
 obtain⟨ha0,hab0,hab1⟩:=ha
 obtain⟨bn,rfl⟩:∃bn:Nat,bound=(bn:Int):=⟨bound.toNat,by omega⟩
 rw[Int.toNat_natCast]at htk
 obtain⟨k,rfl,hk0,hk5,hhk⟩:=holds_pos ha0
 have hbm:blocksN (holdsI F.D.size k) bn≤100000000:=Nat.le_trans (blocks_le _ _) (by omega)
 have HS:=Lib.hid (shape_any h k)
 have HBL:Hid (∀W,Calls Tryz.prog 60 #[.agg #[.int .i64 k,.int .i64 (holdsI F.D.size k:Nat)],.int .i64 bn] W fun e w'=>e=.returned (.int .i64 (blocksN (holdsI F.D.size k) bn:Nat))∧Below W.heap.size W w'):=fun W=>blks_any k (holdsI F.D.size k) bn W (by omega) hh254 (by omega)
 have HTK:Hid (∀W,Below w.heap.size w W→Calls Tryz.prog 70 #[.pointer (some ⟨p.w,0,none⟩),.int .i64 (blocksN (holdsI F.D.size k) bn:Nat)] W fun e w'=>e=.returned (.tuple #[.agg #[.int .i64 a,.int .i64 (blocksN (holdsI F.D.size k) bn:Nat)],.int .i64 0])∧SysTo W G p {F with S:=S1} n w'∧∀g t cs,Row W g t cs→¬G g→Row w' g t cs):=fun W hb=>by
  have h1:=ftake_any (h.below hb) (blocksN (holdsI F.D.size k) bn) hbm
  rw[htk]at h1
  exact h1.mono fun e w' ⟨he,h2⟩=>⟨he,h2,fun g t cs hr hg=>h2.row hr hg⟩
 have HNG:Hid (∀k,w.heap.size≤k→¬G k):=fun k hk hg=>by have:=h.lt hg;omega
 rw[Int.toNat_natCast]at hgb
 obtain⟨F1,hF1⟩:∃F1:Fs,F1={F with S:=S1}:=⟨_,rfl⟩
 rw[←hF1]at HTK
 have HGQ:Hid (∀W G',Sys W G' p F1 n→∀q,Calls Tryz.prog 61 #[.pointer (some ⟨p.a,0,none⟩),.int .i64 F.D.size] (W.drewN q) fun e w''=>e=.returned (.tuple #[.pointer none,.int .i64 7])∧∃k,w''=W.drewN k):=fun W G' hs q=>Calls.quiet_of_same ((sys_grant_no (hs.below (below_drewN (Below.refl _ _) q)) F.D.size (by rw[hF1];exact hroom)).mono fun _ _ h=>h)
 have HSQ:Hid (∀W G',Sys W G' p F1 n→∀q,Calls Tryz.prog 62 #[.pointer (some ⟨p.d,0,none⟩)] (W.drewN q) fun e w''=>e=.returned (.int .i64 (F.D.size:Int))∧∃k,w''=W.drewN k):=fun W G' hs q=>by
  have h1:=(hs.below (below_drewN (Below.refl _ _) q)).dsize_any
  rw[hF1]at h1
  exact Calls.quiet_of_same (h1.mono fun _ _ h=>h)
 have HGV:Hid (∀W G',Sys W G' p F1 n→Calls Tryz.prog 72 #[.pointer (some ⟨p.w,0,none⟩),.agg #[.int .i64 a,.int .i64 (blocksN (holdsI F.D.size k) bn:Nat)]] W fun e w'=>e=.returned (.tuple #[])∧SysTo W G' p F n w'):=fun W G' hs=>by
  have h1:=fgive_any hs a (blocksN (holdsI F.D.size k) bn) (by omega) hbm
  rw[hF1]at h1
  simp only[hgb]at h1
  exact h1
 have g0:(((holdsI F.D.size (k:Int):Nat):Int)==0)=false:=by simpa using ha0
 have g1:decide ((bn:Int)<0)=false:=by simp
 have g2:decide ((bn:Int)>100000000)=false:=by simp;omega
 clear hF1 htk h ha0 hab0 hhk hh254 hgb hroom
 generalize blocksN (holdsI F.D.size k) bn=nb at*
 generalize holdsI F.D.size k=hh at*
 go_enter Tryz.func52,Tryz.ntmps52
 go_wp2_with fail
 refine HS.out.mono ?_;rintro e w1 ⟨rfl,hb1⟩
 have hb2:=hb1.alloc hb1.size (.cells #[.int .i64 k,.int .i64 hh] 120)
 have hr2:Row (w1.alloc (.cells #[.int .i64 k,.int .i64 hh] 120)) w1.heap.size 120 [.int .i64 k,.int .i64 hh]:=heap_alloc_new _ _
 have hl1:=hb1.size
 clear hb1
 go_wp2_with fail
 refine(HBL.out _).mono ?_;rintro e w3 ⟨rfl,hb3⟩
 have hr3:=hr2.below hb3 hr2.lt
 have hb3':=hb2.trans (hb3.mono hb2.size)
 have HR3:=Lib.hid hr3
 have HB3:=Lib.hid hb3'
 have HL1:=Lib.hid hl1
 clear hb2 hr2 hb3 hr3 hb3' hl1
 go_wp2_with fail
 refine(HTK.out _ HB3.out).mono ?_;rintro e w4 ⟨rfl,h4,hk4⟩
 have hr4:=hk4 _ _ _ HR3.out (HNG.out _ HL1.out)
 obtain⟨G',k1,k2',k3'⟩:=h4
 have hsb:¬G' w1.heap.size:=fun hg=>(k3' _ hg).elim (HNG.out _ HL1.out) fun h=>by have:=HR3.out.lt;omega
 have k2:Far G w w4:=(Far.of_below HB3.out G).trans k2' fun b hb=>.inl hb
 have k3:∀k,G' k→G k∨w.heap.size≤k:=fun k hk=>(k3' k hk).imp id fun h=>Nat.le_trans HB3.out.size h
 clear k2' k3'
 have hb5:=(Below.refl w4.heap.size w4).alloc (Nat.le_refl _) (.cells #[.int .i64 a,.int .i64 nb] 106)
 have hr5:=hr4.below hb5 hr4.lt
 have hre5:Row (w4.alloc (.cells #[.int .i64 a,.int .i64 nb] 106)) w4.heap.size 106 [.int .i64 a,.int .i64 nb]:=heap_alloc_new _ _
 have k5:=k1.below hb5
 have hw4:=k2.size
 go_wp2
 generalize w4.alloc (.cells #[.int .i64 a,.int .i64 nb] 106)=w5 at*
 have Q1:=Lib.hid (HGQ.out w5 G' k5)
 have Q2:=Lib.hid (HSQ.out w5 G' k5)
 have c0:w5.cell? ⟨p.w,0,none⟩=some (.pointer (some ⟨p.d,0,none⟩)):=k5.row.cell 0
 have c1:w5.cell? ⟨p.w,1,none⟩=some (.pointer (some ⟨p.a,0,none⟩)):=k5.row.cell 1
 have e0:w5.cell? ⟨w4.heap.size,0,none⟩=some (.int .i64 a):=hre5.cell 0
 have e1:w5.cell? ⟨w4.heap.size,1,none⟩=some (.int .i64 nb):=hre5.cell 1
 have HGE:Hid (∀q,Calls Tryz.prog 72 #[.pointer (some ⟨p.w,0,none⟩),.agg #[.int .i64 a,.int .i64 nb]] (w5.drewN q) fun e w'=>e=.returned (.tuple #[])∧SysTo w G p F n w'):=fun q=>by
  refine(HGV.out _ G' (k5.below (below_drewN (Below.refl _ _) q))).mono ?_
  rintro e w' ⟨he,h6⟩
  refine⟨he,?_⟩
  obtain⟨G'',m1,m2,m3⟩:=h6
  have k2':Far G w (w5.drewN q):=(k2.trans (Far.of_below hb5 fun _=>False) fun _ hf=>hf.elim).drewN q
  exact⟨G'',m1,k2'.trans m2 k3,fun k hk=>(m3 k hk).elim (fun h=>k3 k h) fun h=>.inr (Nat.le_trans k2'.size h)⟩
 clear k1 k2 k3 k5 hb5 hr5 hre5 hr4 hk4 HBL HTK HS HGQ HSQ HR3 HB3 HGV
 go_quiet ((with_reducible first|exact Q1.out _|exact Q2.out _))
 clear Q1 Q2 c0 c1
 go_wp2_with fail
 refine(HGE.out _).mono ?_;rintro e w6 ⟨rfl,h6⟩
 have H6:=Lib.hid h6
 clear h6 HGE
 go_wp2
 go_ret2
 exact⟨rfl,H6.out⟩
def NewW(w:World)(G:Nat→Prop)(p:Wp)(F:Fs)(n:Nat)(S1:Sp)(t:Wt)(x:Nat)(w':World):Prop:=
 w.heap.size≤x∧w.heap.size≤t.b∧w.heap.size≤t.g∧∃G',Sys w' G' p {F with S:=S1,A:=grant F.A t.b F.D.size} n∧WOpen w' x p t F.D.size∧WOut G' x t∧Far G w w'∧∀k,G' k→G k∨w.heap.size≤k
def WriteOk(w:World)(G:Nat→Prop)(p:Wp)(F:Fs)(n:Nat)(S1:Sp)(a k h bn nb:Nat)(e:Ending)(w':World):Prop:=
 ∃x b g,e=.returned (.tuple #[.pointer (some ⟨x,0,none⟩),.int .i64 0])∧NewW w G p F n S1 ⟨k,h,bn,a,nb,b,g,[]⟩ x w'
theorem fwrite_ok{w:World}{G:Nat→Prop}{p:Wp}{F:Fs}{n:Nat}(h:Sys w G p F n)(width bound:Int)(ha:WArgs F width bound)(S1:Sp)(a:Nat)(htk:takeN F.S (blocksN (holdsI F.D.size width) bound.toNat)=(S1,a,blocksN (holdsI F.D.size width) bound.toNat,0))(hroom:F.D.size≤F.A.room-F.A.used):
  Calls Tryz.prog 52 #[.pointer (some ⟨p.w,0,none⟩),.int .i64 width,.int .i64 bound] w (WriteOk w G p F n S1 a width.toNat (holdsI F.D.size width) bound.toNat (blocksN (holdsI F.D.size width) bound.toNat)):=by
 have hsz:=h.size
 have hh254:holdsI F.D.size width≤254:=Nat.le_trans (holds_le _ _) (by omega)
 obtain⟨ha0,hab0,hab1⟩:=ha
 obtain⟨bn,rfl⟩:∃bn:Nat,bound=(bn:Int):=⟨bound.toNat,by omega⟩
 rw[Int.toNat_natCast]at htk
 obtain⟨k,rfl,hk0,hk5,hhk⟩:=holds_pos ha0
 have hbm:blocksN (holdsI F.D.size k) bn≤100000000:=Nat.le_trans (blocks_le _ _) (by omega)
 have HS:=Lib.hid (shape_any h k)
 have HBL:Hid (∀W,Calls Tryz.prog 60 #[.agg #[.int .i64 k,.int .i64 (holdsI F.D.size k:Nat)],.int .i64 bn] W fun e w'=>e=.returned (.int .i64 (blocksN (holdsI F.D.size k) bn:Nat))∧Below W.heap.size W w'):=fun W=>blks_any k (holdsI F.D.size k) bn W (by omega) hh254 (by omega)
 have HTK:Hid (∀W,Below w.heap.size w W→Calls Tryz.prog 70 #[.pointer (some ⟨p.w,0,none⟩),.int .i64 (blocksN (holdsI F.D.size k) bn:Nat)] W fun e w'=>e=.returned (.tuple #[.agg #[.int .i64 a,.int .i64 (blocksN (holdsI F.D.size k) bn:Nat)],.int .i64 0])∧SysTo W G p {F with S:=S1} n w'∧∀g t cs,Row W g t cs→¬G g→Row w' g t cs):=fun W hb=>by
  have h1:=ftake_any (h.below hb) (blocksN (holdsI F.D.size k) bn) hbm
  rw[htk]at h1
  exact h1.mono fun e w' ⟨he,h2⟩=>⟨he,h2,fun g t cs hr hg=>h2.row hr hg⟩
 have HNG:Hid (∀k,w.heap.size≤k→¬G k):=fun k hk hg=>by have:=h.lt hg;omega
 simp only[Int.toNat_natCast]
 obtain⟨F1,hF1⟩:∃F1:Fs,F1={F with S:=S1}:=⟨_,rfl⟩
 rw[←hF1]at HTK
 obtain⟨size,hsize⟩:∃size,size=F.D.size:=⟨_,rfl⟩
 have HGR:Hid (∀W G',Sys W G' p F1 n→Calls Tryz.prog 61 #[.pointer (some ⟨p.a,0,none⟩),.int .i64 size] W.drew fun e w'=>∃b g,e=.returned (.tuple #[.pointer (some ⟨b,0,none⟩),.int .i64 0])∧
   (∃G'',Sys w' G'' p {F with S:=S1,A:=grant F.A b F.D.size} n∧Far G' W w'∧(∀k,G'' k→G' k∨W.heap.size≤k)∧¬G'' b∧¬G'' g)∧Row w' b 132 [.slice (some ⟨g,0,none⟩) size size]∧Row w' g 133 ((List.replicate size 0).map vw)∧W.heap.size≤b∧W.heap.size≤g):=fun W G' hs=>by
  refine(sys_grant (hs.below (below_drew (Below.refl _ _))) size (by rw[hF1,hsize];exact hroom) (by omega)).mono ?_
  rintro e w' ⟨b,g,he,⟨G'',h1,h2,h3,h4⟩,h5⟩
  rw[hF1,hsize]at h1
  exact⟨b,g,he,⟨G'',h1,⟨h2.os,h2.tape,h2.output,h2.size,h2.block⟩,h3,h4⟩,h5⟩
 have HSQ:Hid (∀W G',Sys W G' p F1 n→Calls Tryz.prog 62 #[.pointer (some ⟨p.d,0,none⟩)] W.drew fun e w''=>e=.returned (.int .i64 (size:Int))∧w''=W.drew):=fun W G' hs=>by
  have h1:=(hs.below (below_drew (Below.refl _ _))).dsize_any
  rw[hF1]at h1
  rw[hsize];exact h1
 have HNEW:Hid (∀w6 w7 b g G'',Sys w6 G'' p {F with S:=S1,A:=grant F.A b F.D.size} n→Far G w w6→(∀k,G'' k→G k∨w.heap.size≤k)→¬G'' b→¬G'' g→Row w6 b 132 [.slice (some ⟨g,0,none⟩) size size]→Row w6 g 133 ((List.replicate size 0).map vw)→w.heap.size≤b→w.heap.size≤g→
   w7=w6.alloc (.cells #[.int .i64 k,.int .i64 (holdsI F.D.size k:Nat),.pointer (some ⟨p.w,0,none⟩),.int .i64 bn,.int .i64 0,.int .i64 a,.int .i64 (blocksN (holdsI F.D.size k) bn:Nat),.pointer (some ⟨b,0,none⟩)] 142)→
   NewW w G p F n S1 ⟨k,holdsI F.D.size k,bn,a,blocksN (holdsI F.D.size k) bn,b,g,[]⟩ w6.heap.size w7):=by
  intro w6 w7 b g G'' k1 k2 k3 k4 k5 k6 k7 k8 k9 e7
  subst e7
  have hb:=(Below.refl w6.heap.size w6).alloc (Nat.le_refl _) (.cells #[.int .i64 k,.int .i64 (holdsI F.D.size k:Nat),.pointer (some ⟨p.w,0,none⟩),.int .i64 bn,.int .i64 0,.int .i64 a,.int .i64 (blocksN (holdsI F.D.size k) bn:Nat),.pointer (some ⟨b,0,none⟩)] 142)
  refine⟨k2.size,k8,k9,G'',k1.below hb,⟨List.replicate size 0,⟨heap_alloc_new _ _,by have k6':=k6.below hb k6.lt;rw[hsize]at k6';exact k6',k7.below hb k7.lt,by rw[←hsize];simp,?_⟩,held_nil _ _ _⟩,⟨fun hg=>by have:=k1.lt hg;omega,k4,k5⟩,k2.trans (Far.of_below hb fun _=>False) fun _ hf=>hf.elim,k3⟩
  intro y hy
  rw[List.mem_replicate]at hy;omega
 have g0:(((holdsI F.D.size (k:Int):Nat):Int)==0)=false:=by simpa using ha0
 have g1:decide ((bn:Int)<0)=false:=by simp
 have g2:decide ((bn:Int)>100000000)=false:=by simp;omega
 have HPOST:Hid (∀w7 x b g,NewW w G p F n S1 ⟨k,holdsI F.D.size k,bn,a,blocksN (holdsI F.D.size k) bn,b,g,[]⟩ x w7→WriteOk w G p F n S1 a k (holdsI F.D.size k) bn (blocksN (holdsI F.D.size k) bn) (.returned (.tuple #[.pointer (some ⟨x,0,none⟩),.int .i64 0])) w7):=fun w7 x b g h1=>⟨x,b,g,rfl,h1⟩
 clear hF1 hsize htk h ha0 hab0 hhk hh254 hroom
 generalize WriteOk w G p F n S1 a k (holdsI F.D.size k) bn (blocksN (holdsI F.D.size k) bn)=POST at*
 generalize blocksN (holdsI F.D.size k) bn=nb at*
 generalize holdsI F.D.size k=hh at*
 go_enter Tryz.func52,Tryz.ntmps52
 go_wp2_with fail
 refine HS.out.mono ?_;rintro e w1 ⟨rfl,hb1⟩
 have hb2:=hb1.alloc hb1.size (.cells #[.int .i64 k,.int .i64 hh] 120)
 have hr2:Row (w1.alloc (.cells #[.int .i64 k,.int .i64 hh] 120)) w1.heap.size 120 [.int .i64 k,.int .i64 hh]:=heap_alloc_new _ _
 have hl1:=hb1.size
 clear hb1
 go_wp2_with fail
 refine(HBL.out _).mono ?_;rintro e w3 ⟨rfl,hb3⟩
 have hr3:=hr2.below hb3 hr2.lt
 have hb3':=hb2.trans (hb3.mono hb2.size)
 have HR3:=Lib.hid hr3
 have HB3:=Lib.hid hb3'
 have HL1:=Lib.hid hl1
 clear hb2 hr2 hb3 hr3 hb3' hl1
 go_wp2_with fail
 refine(HTK.out _ HB3.out).mono ?_;rintro e w4 ⟨rfl,h4,hk4⟩
 have hr4:=hk4 _ _ _ HR3.out (HNG.out _ HL1.out)
 obtain⟨G',k1,k2',k3'⟩:=h4
 have hsb:¬G' w1.heap.size:=fun hg=>(k3' _ hg).elim (HNG.out _ HL1.out) fun h=>by have:=HR3.out.lt;omega
 have k2:Far G w w4:=(Far.of_below HB3.out G).trans k2' fun b hb=>.inl hb
 have k3:∀k,G' k→G k∨w.heap.size≤k:=fun k hk=>(k3' k hk).imp id fun h=>Nat.le_trans HB3.out.size h
 clear k2' k3'
 have hb5:=(Below.refl w4.heap.size w4).alloc (Nat.le_refl _) (.cells #[.int .i64 a,.int .i64 nb] 106)
 have hr5:=hr4.below hb5 hr4.lt
 have hre5:Row (w4.alloc (.cells #[.int .i64 a,.int .i64 nb] 106)) w4.heap.size 106 [.int .i64 a,.int .i64 nb]:=heap_alloc_new _ _
 have k5:=k1.below hb5
 have hw4:=k2.size
 go_wp2
 have HE5:=Lib.hid hre5
 have HR5:=Lib.hid hr5
 have HB5:=Lib.hid hb5
 generalize w4.alloc (.cells #[.int .i64 a,.int .i64 nb] 106)=w5 at*
 have Q1:=Lib.hid (HGR.out w5 G' k5)
 have Q2:=Lib.hid (HSQ.out w5 G' k5)
 have HF5:Hid (Far G w w5):=k2.trans (Far.of_below hb5 fun _=>False) fun _ hf=>hf.elim
 have HG5:=Lib.hid k3
 have c0:w5.drew.cell? ⟨p.w,0,none⟩=some (.pointer (some ⟨p.d,0,none⟩)):=k5.row.cell 0
 have c1:w5.drew.cell? ⟨p.w,1,none⟩=some (.pointer (some ⟨p.a,0,none⟩)):=k5.row.cell 1
 have HCL:Hid (∀W G'' F2,Sys W G'' p F2 n→W.cell? ⟨p.w,0,none⟩=some (.pointer (some ⟨p.d,0,none⟩))∧W.cell? ⟨p.w,1,none⟩=some (.pointer (some ⟨p.a,0,none⟩))):=fun W G'' F2 hs=>⟨hs.row.cell 0,hs.row.cell 1⟩
 have HNE:Hid (¬G' w4.heap.size):=fun hg=>by have:=k1.lt hg;omega
 have HSB:=Lib.hid hsb
 clear k1 k2 k3 k5 hb5 hr5 hre5 hr4 hk4 HBL HTK HS HGR HSQ HR3 HB3 hsb
 go_region_held3 (fun w'=>w'.cell? ⟨p.w,0,none⟩=some (.pointer (some ⟨p.d,0,none⟩))∧w'.cell? ⟨p.w,1,none⟩=some (.pointer (some ⟨p.a,0,none⟩))) (first|with_reducible exact⟨c0,c1⟩|with_reducible exact d1)
  (first
   |(go_at_call 62;(with_reducible refine Q2.out.mono ?_);rintro e w8 ⟨rfl,rfl⟩)
   |(go_at_call 61;(with_reducible refine Q1.out.mono ?_);rintro e w6 ⟨b,g,rfl,⟨G6,k1,k2,k3,k4,k5⟩,k6,k7,k8,k9⟩;have d1:=HCL.out _ _ _ k1))
 have hs6:=k2.row HE5.out HNE.out
 have hs7:=k2.row HR5.out HSB.out
 have e0:w6.cell? ⟨w4.heap.size,0,none⟩=some (.int .i64 a):=hs6.cell 0
 have e1:w6.cell? ⟨w4.heap.size,1,none⟩=some (.int .i64 nb):=hs6.cell 1
 have e2:w6.cell? ⟨w1.heap.size,0,none⟩=some (.int .i64 k):=hs7.cell 0
 have e3:w6.cell? ⟨w1.heap.size,1,none⟩=some (.int .i64 hh):=hs7.cell 1
 have HN:=Lib.hid (HNEW.out w6 _ b g G6 k1 (HF5.out.trans k2 HG5.out) (fun k hk=>(k3 k hk).elim (fun h=>HG5.out k h) fun h=>.inr (Nat.le_trans HF5.out.size h)) k4 k5 k6 k7 (Nat.le_trans HF5.out.size k8) (Nat.le_trans HF5.out.size k9) rfl)
 clear k1 k2 k3 k4 k5 k6 k7 k8 k9 hs6 hs7 Q1 Q2 HNEW HE5 HR5 HB5 HF5 HG5 HCL HNE HSB d1 c0 c1
 go_wp2
 exact HPOST.out _ _ b g HN.out
def WriteTo(w:World)(G:Nat→Prop)(p:Wp)(F:Fs)(n:Nat)(width bound:Int)(e:Ending)(w':World):Prop:=
 (∃er,e=.returned (.tuple #[.pointer none,.int .i64 er])∧WErr F width bound er∧SysTo w G p F n w')∨
 (∃x t S',e=.returned (.tuple #[.pointer (some ⟨x,0,none⟩),.int .i64 0])∧WArgs F width bound∧F.D.size≤F.A.room-F.A.used∧(t.k:Int)=width∧(t.bound:Int)=bound∧t.h=holdsI F.D.size width∧t.l=[]∧t.blocks=blocksN t.h t.bound∧Taken F.S S' t.first t.blocks∧WtOk t F.D.size∧NewW w G p F n S' t x w')
theorem fwrite_any{w:World}{G:Nat→Prop}{p:Wp}{F:Fs}{n:Nat}(h:Sys w G p F n)(width bound:Int):Calls Tryz.prog 52 #[.pointer (some ⟨p.w,0,none⟩),.int .i64 width,.int .i64 bound] w (WriteTo w G p F n width bound):=by
 by_cases ha:WArgs F width bound
 ·obtain⟨ha0,hab0,hab1⟩:=id ha
  obtain⟨k,hk,hk0,hk5,hhk⟩:=holds_pos ha0
  have hsz:=h.size
  have hsok:=h.sok
  have hh254:holdsI F.D.size width≤254:=Nat.le_trans (holds_le _ _) (by omega)
  rcases takeN_spec h.sok (blocksN (holdsI F.D.size width) bound.toNat)with⟨S1,a,e,ht,hg,hal⟩|⟨e,hm,hno⟩
  ·by_cases hr:F.D.size≤F.A.room-F.A.used
   ·refine(fwrite_ok h width bound ha S1 a e hr).mono ?_
    rintro e w' ⟨x,b,g,he,hN⟩
    refine .inr ⟨x,⟨width.toNat,holdsI F.D.size width,bound.toNat,a,blocksN (holdsI F.D.size width) bound.toNat,b,g,[]⟩,S1,he,ha,hr,?_,?_,rfl,rfl,rfl,ht,⟨⟨?_,?_⟩,⟨by show 0<holdsI F.D.size width;omega,?_,hh254⟩,hsz,⟨?_,Nat.zero_le _⟩,⟨rfl,by show blocksN (holdsI F.D.size width) bound.toNat≤2000000;omega⟩,by show a≤2000000;omega⟩,hN⟩
    ·show ((width.toNat:Nat):Int)=width;omega
    ·show ((bound.toNat:Nat):Int)=bound;omega
    ·show 0<width.toNat;omega
    ·show width.toNat≤5;omega
    ·show holdsI F.D.size width*width.toNat≤F.D.size-2
     rw[hk]at hhk⊢;rw[Int.toNat_natCast];exact hhk
    ·show bound.toNat≤100000000;omega
   ·exact(fwrite_room h width bound ha S1 a e hg (by omega) (by omega)).mono fun e w' ⟨he,h1⟩=>.inl ⟨7,he,.inr (.inl ⟨rfl,ha,by omega⟩),h1⟩
  ·refine(fwrite_none h width bound ha e (decide (F.A.room-F.A.used<F.D.size)) rfl).mono ?_
   rintro e w' ⟨he,h1⟩
   by_cases hr:F.A.room-F.A.used<F.D.size
   ·rw[decide_eq_true hr,if_pos rfl]at he
    exact .inl ⟨7,he,.inr (.inl ⟨rfl,ha,hr⟩),h1⟩
   ·rw[decide_eq_false hr,if_neg (by decide)]at he
    exact .inl ⟨5,he,.inr (.inr ⟨rfl,ha,by omega,hm,hno⟩),h1⟩
 ·exact(fwrite_bad h width bound ha).mono fun e w' ⟨he,hb⟩=>.inl ⟨1,he,.inl ⟨rfl,ha⟩,SysTo.of_below h hb⟩
structure Rt where
 k:Nat
 h:Nat
 first:Nat
 blocks:Nat
 count:Nat
 pos:Nat
 b:Nat
 g:Nat
def rdC(p:Wp)(r:Rt):List Value:=[.int .i64 r.k,.int .i64 r.h,.pointer (some ⟨p.w,0,none⟩),.int .i64 r.first,.int .i64 r.blocks,.int .i64 r.k,.int .i64 r.count,.int .i64 r.pos,.pointer (some ⟨r.b,0,none⟩)]
structure RtOk (r:Rt) (sz:Nat):Prop where
 k:0<r.k∧r.k≤5
 h:0<r.h∧r.h*r.k≤sz-2∧r.h≤254
 sz:8≤sz∧sz≤256
 count:r.count≤100000000∧r.pos≤r.count
 first:r.first≤2000000
structure RMem (w:World) (x:Nat) (p:Wp) (r:Rt) (sz:Nat) (ws:List Nat):Prop where
 row:Row w x 126 (rdC p r)
 buf:Row w r.b 132 [.slice (some ⟨r.g,0,none⟩) sz sz]
 words:Row w r.g 133 (ws.map vw)
 len:ws.length=sz
 u64:U64s ws
structure ROut (G:Nat→Prop) (x:Nat) (r:Rt):Prop where
 x:¬G x
 b:¬G r.b
 g:¬G r.g
def RShut(w:World)(x:Nat)(p:Wp)(r:Rt):Prop:=Row w x 126 (rdC p r)∧Row w r.b 132 [.slice none 0 0]
section
variable {w w' : World} {x : Nat} {p : Wp} {r : Rt} {sz : Nat} {ws : List Nat}
theorem RMem.far{R:Nat→Prop}(h:RMem w x p r sz ws)(hf:Far R w w')(h1:¬R x)(h2:¬R r.b)(h3:¬R r.g):RMem w' x p r sz ws:=⟨hf.row h.row h1,hf.row h.buf h2,hf.row h.words h3,h.len,h.u64⟩
theorem RMem.below(h:RMem w x p r sz ws)(hb:Below w.heap.size w w'):RMem w' x p r sz ws:=h.far (Far.of_below hb fun _=>False) (fun h=>h) (fun h=>h) (fun h=>h)
theorem RMem.lt(h:RMem w x p r sz ws):x<w.heap.size∧r.b<w.heap.size∧r.g<w.heap.size:=⟨h.row.lt,h.buf.lt,h.words.lt⟩
theorem RMem.apart(h:RMem w x p r sz ws):x≠r.b∧x≠r.g∧r.b≠r.g:=
 ⟨fun e=>absurd (h.row.typed (e▸h.buf)) (by decide),fun e=>absurd (h.row.typed (e▸h.words)) (by decide),fun e=>absurd (h.buf.typed (e▸h.words)) (by decide)⟩
end
theorem fread_nil(a b c d:Int)(w:World):Calls Tryz.prog 39 #[.pointer none,.agg #[.int .i64 a,.int .i64 b,.int .i64 c,.int .i64 d]] w fun e w'=>e=.returned (.tuple #[.pointer none,.int .i64 1])∧Below w.heap.size w w':=by
 have hb0:=(Below.refl w.heap.size w).alloc (Nat.le_refl _) (.cells #[.int .i64 a,.int .i64 b,.int .i64 c,.int .i64 d] 31)
 have hr0:Row (w.alloc (.cells #[.int .i64 a,.int .i64 b,.int .i64 c,.int .i64 d] 31)) w.heap.size 31 [.int .i64 a,.int .i64 b,.int .i64 c,.int .i64 d]:=heap_alloc_new _ _
 have HS:=Lib.hid (shape_nil c (w.alloc (.cells #[.int .i64 a,.int .i64 b,.int .i64 c,.int .i64 d] 31)))
 have HB:=Lib.hid hb0
 clear hb0
 go_enter Tryz.func39,Tryz.ntmps39
 go_wp2_with fail
 refine HS.out.mono ?_;rintro e w1 ⟨rfl,hb⟩
 have HB2:=Lib.hid (HB.out.trans (hb.mono HB.out.size))
 have HB3:Hid (∀q,Below w.heap.size w ((w1.alloc (.cells #[.int .i64 c,.int .i64 0] 120)).drewN q)):=fun q=>below_drewN (HB2.out.alloc HB2.out.size _) q
 clear hb HB HB2 hr0
 go_wp2
 go_quiet (fail)
 go_wp2
 go_ret2
 exact⟨rfl,HB3.out _⟩
section
variable {w : World} {x : Nat} {p : Wp} {r : Rt}
theorem rclosed_any{A:Option Addr}{m c:Nat}(hr:Row w x 126 (rdC p r))(hb:Row w r.b 132 [.slice A m c]):Calls Tryz.prog 63 #[.pointer (some ⟨x,0,none⟩)] w fun e w'=>e=.returned (.bool (!decide (0<m)))∧w'=w:=by
 have c7:w.cell? ⟨x,8,none⟩=some (.pointer (some ⟨r.b,0,none⟩)):=hr.cell 8
 have HS:=Lib.hid (stnd_any hb)
 clear hb hr
 go_enter Tryz.func63,Tryz.ntmps63
 go_wp2_with fail
 refine HS.out.mono ?_;rintro e w1 ⟨rfl,rfl⟩
 go_wp2
 go_ret
 exact⟨ret_bool (by simp),rfl⟩
end
def REnd(w:World)(G:Nat→Prop)(x:Nat)(p:Wp)(F:Fs)(n:Nat)(r:Rt)(w':World):Prop:=
 ∃G',Sys w' G' p {F with A:=release F.A r.b F.D.size} n∧RShut w' x p r∧Far (fun k=>G k∨k=r.b) w w'∧∀k,G' k→G k∨w.heap.size≤k
theorem rclose_any{w:World}{G:Nat→Prop}{p:Wp}{F:Fs}{n x:Nat}{r:Rt}{ws:List Nat}(h:Sys w G p F n)(hm:RMem w x p r F.D.size ws)(ho:ROut G x r)(hst:wordsAt F.A.st r.b=some F.D.size):
  Calls Tryz.prog 40 #[.pointer (some ⟨x,0,none⟩)] w fun e w'=>(e=.returned (.tuple #[])∧REnd w G x p F n r w'):=by
 have hsz:=h.size
 have hc:=rclosed_any hm.row hm.buf
 rw[decide_eq_true (show 0<F.D.size by omega)]at hc
 have HC:=Lib.hid hc
 have hbe:=below_drew (Below.refl w.heap.size w)
 obtain⟨hxb,hxg,hbg⟩:=hm.apart
 have HRL:Hid (Calls Tryz.prog 64 #[.pointer (some ⟨p.a,0,none⟩),.pointer (some ⟨r.b,0,none⟩)] w.drew fun e w'=>e=.returned (.bool true)∧REnd w G x p F n r w'):=by
  refine(sys_release (h.below hbe) hst).mono ?_
  rintro e w' ⟨he,h2⟩
  obtain⟨G',k1,k2,k3,k4⟩:=h2.behind hbe
  refine⟨he,G',k1,⟨k2.row hm.row ?_,k4⟩,k2,k3⟩
  rintro(h5|h5)
  ·exact ho.x h5
  ·exact hxb h5
 have c2:w.drew.cell? ⟨x,2,none⟩=some (.pointer (some ⟨p.w,0,none⟩)):=hm.row.cell 2
 have c8:w.drew.cell? ⟨x,8,none⟩=some (.pointer (some ⟨r.b,0,none⟩)):=hm.row.cell 8
 have cp:w.drew.cell? ⟨p.w,1,none⟩=some (.pointer (some ⟨p.a,0,none⟩)):=h.row.cell 1
 have HCELL:Hid (∀w',REnd w G x p F n r w'→w'.cell? ⟨x,2,none⟩=some (.pointer (some ⟨p.w,0,none⟩))∧w'.cell? ⟨x,8,none⟩=some (.pointer (some ⟨r.b,0,none⟩))∧w'.cell? ⟨p.w,1,none⟩=some (.pointer (some ⟨p.a,0,none⟩))):=fun w' ⟨G',k1,k2,_⟩=>⟨k2.1.cell 2,k2.1.cell 8,k1.row.cell 1⟩
 generalize REnd w G x p F n r=POST at*
 generalize r.b=b at*
 clear hc h hm ho hst hsz hbe hxb hxg hbg
 go_enter Tryz.func40,Tryz.ntmps40
 go_wp2_with fail
 refine HC.out.mono ?_;rintro e w1 ⟨rfl,rfl⟩
 go_wp2
 go_region_held3 (fun w'=>w'.cell? ⟨x,2,none⟩=some (.pointer (some ⟨p.w,0,none⟩))∧w'.cell? ⟨x,8,none⟩=some (.pointer (some ⟨b,0,none⟩))∧w'.cell? ⟨p.w,1,none⟩=some (.pointer (some ⟨p.a,0,none⟩))) (first|with_reducible exact⟨c2,c8,cp⟩|with_reducible exact q2)
  (first
   |(go_at_call 64;(with_reducible refine HRL.out.mono ?_);rintro e w2 ⟨rfl,h2⟩;have q2:=HCELL.out w2 h2))
 have H2:=Lib.hid h2
 clear h2 q2
 go_wp2
 go_end0
 exact⟨rfl,H2.out⟩
theorem rclose_def(u:FrameMode){w:World}{G:Nat→Prop}{p:Wp}{F:Fs}{n x:Nat}{r:Rt}{ws:List Nat}(h:Sys w G p F n)(hm:RMem w x p r F.D.size ws)(ho:ROut G x r)(hst:wordsAt F.A.st r.b=some F.D.size):
  CallsD Tryz.prog 40 #[.pointer (some ⟨x,0,none⟩)] u w fun e u' w'=>u'=u∧(e=.returned (.tuple #[])∧REnd w G x p F n r w'):=by
 have hsz:=h.size
 have hc:=rclosed_any hm.row hm.buf
 rw[decide_eq_true (show 0<F.D.size by omega)]at hc
 have HC:=Lib.hid hc
 have hbe:=below_drew (Below.refl w.heap.size w)
 obtain⟨hxb,hxg,hbg⟩:=hm.apart
 have HRL:Hid (Calls Tryz.prog 64 #[.pointer (some ⟨p.a,0,none⟩),.pointer (some ⟨r.b,0,none⟩)] w.drew fun e w'=>e=.returned (.bool true)∧REnd w G x p F n r w'):=by
  refine(sys_release (h.below hbe) hst).mono ?_
  rintro e w' ⟨he,h2⟩
  obtain⟨G',k1,k2,k3,k4⟩:=h2.behind hbe
  refine⟨he,G',k1,⟨k2.row hm.row ?_,k4⟩,k2,k3⟩
  rintro(h5|h5)
  ·exact ho.x h5
  ·exact hxb h5
 have c2:w.drew.cell? ⟨x,2,none⟩=some (.pointer (some ⟨p.w,0,none⟩)):=hm.row.cell 2
 have c8:w.drew.cell? ⟨x,8,none⟩=some (.pointer (some ⟨r.b,0,none⟩)):=hm.row.cell 8
 have cp:w.drew.cell? ⟨p.w,1,none⟩=some (.pointer (some ⟨p.a,0,none⟩)):=h.row.cell 1
 have HCELL:Hid (∀w',REnd w G x p F n r w'→w'.cell? ⟨x,2,none⟩=some (.pointer (some ⟨p.w,0,none⟩))∧w'.cell? ⟨x,8,none⟩=some (.pointer (some ⟨r.b,0,none⟩))∧w'.cell? ⟨p.w,1,none⟩=some (.pointer (some ⟨p.a,0,none⟩))):=fun w' ⟨G',k1,k2,_⟩=>⟨k2.1.cell 2,k2.1.cell 8,k1.row.cell 1⟩
 generalize REnd w G x p F n r=POST at*
 generalize r.b=b at*
 clear hc h hm ho hst hsz hbe hxb hxg hbg
 go_enter_d Tryz.func40,Tryz.ntmps40
 go_wp2_with fail
 refine HC.out.mono ?_;rintro e w1 ⟨rfl,rfl⟩
 go_wp2
 go_region_held3 (fun w'=>w'.cell? ⟨x,2,none⟩=some (.pointer (some ⟨p.w,0,none⟩))∧w'.cell? ⟨x,8,none⟩=some (.pointer (some ⟨b,0,none⟩))∧w'.cell? ⟨p.w,1,none⟩=some (.pointer (some ⟨p.a,0,none⟩))) (first|with_reducible exact⟨c2,c8,cp⟩|with_reducible exact q2)
  (first
   |(go_at_call 64;(with_reducible refine HRL.out.mono ?_);rintro e w2 ⟨rfl,h2⟩;have q2:=HCELL.out w2 h2))
 have H2:=Lib.hid h2
 clear h2 q2
 go_wp2
 go_end0
 exact⟨rfl,H2.out⟩
theorem rclose_def_shut(u:FrameMode){w:World}{p:Wp}{x:Nat}{r:Rt}(hs:RShut w x p r):
  CallsD Tryz.prog 40 #[.pointer (some ⟨x,0,none⟩)] u w fun e u' w'=>u'=u∧(e=.returned (.tuple #[])∧w'=w):=by
 have hc:=rclosed_any hs.1 hs.2
 rw[decide_eq_false (Nat.lt_irrefl 0)]at hc
 have HC:=Lib.hid hc
 clear hc hs
 go_enter_d Tryz.func40,Tryz.ntmps40
 go_wp2_with fail
 refine HC.out.mono ?_;rintro e w1 ⟨rfl,rfl⟩
 go_wp2
 go_end0
 exact⟨rfl,rfl⟩
def NewR(w:World)(G:Nat→Prop)(p:Wp)(F:Fs)(n:Nat)(r:Rt)(x:Nat)(w':World):Prop:=
 w.heap.size≤x∧w.heap.size≤r.b∧w.heap.size≤r.g∧∃G',Sys w' G' p {F with A:=grant F.A r.b F.D.size} n∧(∃ws,RMem w' x p r F.D.size ws)∧ROut G' x r∧Far G w w'∧∀k,G' k→G k∨w.heap.size≤k
def ReadOk(w:World)(G:Nat→Prop)(p:Wp)(F:Fs)(n:Nat)(k h first nb count:Nat)(e:Ending)(w':World):Prop:=
 ∃x b g,e=.returned (.tuple #[.pointer (some ⟨x,0,none⟩),.int .i64 0])∧NewR w G p F n ⟨k,h,first,nb,count,0,b,g⟩ x w'
theorem fread_ok{w:World}{G:Nat→Prop}{p:Wp}{F:Fs}{n:Nat}(h:Sys w G p F n)(k hh first nb count:Nat)(hhe:hh=holdsI F.D.size k)(hh0:0<hh)(hnb:nb=blocksN hh count)(hcount:count≤100000000)(hroom:F.D.size≤F.A.room-F.A.used):Calls Tryz.prog 39 #[.pointer (some ⟨p.w,0,none⟩),.agg #[.int .i64 first,.int .i64 nb,.int .i64 k,.int .i64 count]] w (ReadOk w G p F n k hh first nb count):=by
 have hsz:=h.size
 have hh254:hh≤254:=by rw[hhe];exact Nat.le_trans (holds_le _ _) (by omega)
 have hb0:=(Below.refl w.heap.size w).alloc (Nat.le_refl _) (.cells #[.int .i64 first,.int .i64 nb,.int .i64 k,.int .i64 count] 31)
 have hr0:Row (w.alloc (.cells #[.int .i64 first,.int .i64 nb,.int .i64 k,.int .i64 count] 31)) w.heap.size 31 [.int .i64 first,.int .i64 nb,.int .i64 k,.int .i64 count]:=heap_alloc_new _ _
 have hshp:=shape_any (h.below hb0) k
 rw[←hhe]at hshp
 have HS:=Lib.hid hshp
 have HBL:Hid (∀W,Calls Tryz.prog 60 #[.agg #[.int .i64 k,.int .i64 hh],.int .i64 count] W fun e w'=>e=.returned (.int .i64 nb)∧Below W.heap.size W w'):=fun W=>by
  rw[hnb];exact blks_any k hh count W hh0 hh254 hcount
 have HSYS:Hid (∀W,Below w.heap.size w W→Sys W G p F n):=fun W hb=>h.below hb
 have HB0:=Lib.hid hb0
 have HR0:=Lib.hid hr0
 obtain⟨size,hsize⟩:∃size,size=F.D.size:=⟨_,rfl⟩
 have g0:((hh:Int)==0)=false:=by simp;omega
 have g1:decide ((count:Int)<0)=false:=by simp
 have HGR:Hid (∀W,Sys W G p F n→Calls Tryz.prog 61 #[.pointer (some ⟨p.a,0,none⟩),.int .i64 size] W.drew fun e w'=>∃b g,e=.returned (.tuple #[.pointer (some ⟨b,0,none⟩),.int .i64 0])∧
   (∃G'',Sys w' G'' p {F with A:=grant F.A b F.D.size} n∧Far G W w'∧(∀k,G'' k→G k∨W.heap.size≤k)∧¬G'' b∧¬G'' g)∧Row w' b 132 [.slice (some ⟨g,0,none⟩) size size]∧Row w' g 133 ((List.replicate size 0).map vw)∧W.heap.size≤b∧W.heap.size≤g):=fun W hs=>by
  refine(sys_grant (hs.below (below_drew (Below.refl _ _))) size (by rw[hsize];exact hroom) (by omega)).mono ?_
  rintro e w' ⟨b,g,he,⟨G'',h1,h2,h3,h4⟩,h5⟩
  rw[hsize]at h1
  exact⟨b,g,he,⟨G'',h1,⟨h2.os,h2.tape,h2.output,h2.size,h2.block⟩,h3,h4⟩,h5⟩
 have HSQ:Hid (∀W,Sys W G p F n→Calls Tryz.prog 62 #[.pointer (some ⟨p.d,0,none⟩)] W.drew fun e w''=>e=.returned (.int .i64 (size:Int))∧w''=W.drew):=fun W hs=>by
  rw[hsize];exact(hs.below (below_drew (Below.refl _ _))).dsize_any
 have HNG:Hid (∀k,w.heap.size≤k→¬G k):=fun k hk hg=>by have:=h.lt hg;omega
 have HNEW:Hid (∀w6 w7 b g G'',Sys w6 G'' p {F with A:=grant F.A b F.D.size} n→Far G w w6→(∀k,G'' k→G k∨w.heap.size≤k)→¬G'' b→¬G'' g→Row w6 b 132 [.slice (some ⟨g,0,none⟩) size size]→Row w6 g 133 ((List.replicate size 0).map vw)→w.heap.size≤b→w.heap.size≤g→
   w7=w6.alloc (.cells #[.int .i64 k,.int .i64 hh,.pointer (some ⟨p.w,0,none⟩),.int .i64 first,.int .i64 nb,.int .i64 k,.int .i64 count,.int .i64 0,.pointer (some ⟨b,0,none⟩)] 126)→
   NewR w G p F n ⟨k,hh,first,nb,count,0,b,g⟩ w6.heap.size w7):=by
  intro w6 w7 b g G'' k1 k2 k3 k4 k5 k6 k7 k8 k9 e7
  subst e7
  have hb:=(Below.refl w6.heap.size w6).alloc (Nat.le_refl _) (.cells #[.int .i64 k,.int .i64 hh,.pointer (some ⟨p.w,0,none⟩),.int .i64 first,.int .i64 nb,.int .i64 k,.int .i64 count,.int .i64 0,.pointer (some ⟨b,0,none⟩)] 126)
  have k6':=k6.below hb k6.lt
  rw[hsize]at k6'
  refine⟨k2.size,k8,k9,G'',k1.below hb,⟨List.replicate size 0,⟨heap_alloc_new _ _,k6',k7.below hb k7.lt,by rw[←hsize];simp,?_⟩⟩,⟨fun hg=>by have:=k1.lt hg;omega,k4,k5⟩,k2.trans (Far.of_below hb fun _=>False) fun _ hf=>hf.elim,k3⟩
  intro y hy
  rw[List.mem_replicate]at hy;omega
 have HPOST:Hid (∀w7 x b g,NewR w G p F n ⟨k,hh,first,nb,count,0,b,g⟩ x w7→ReadOk w G p F n k hh first nb count (.returned (.tuple #[.pointer (some ⟨x,0,none⟩),.int .i64 0])) w7):=fun w7 x b g h1=>⟨x,b,g,rfl,h1⟩
 have HCL:Hid (∀W G'' F2,Sys W G'' p F2 n→W.cell? ⟨p.w,0,none⟩=some (.pointer (some ⟨p.d,0,none⟩))∧W.cell? ⟨p.w,1,none⟩=some (.pointer (some ⟨p.a,0,none⟩))):=fun W G'' F2 hs=>⟨hs.row.cell 0,hs.row.cell 1⟩
 clear hsize hroom h hshp hb0 hr0 hhe hnb hsz
 generalize ReadOk w G p F n k hh first nb count=POST at*
 go_enter Tryz.func39,Tryz.ntmps39
 go_wp2_with fail
 refine HS.out.mono ?_;rintro e w1 ⟨rfl,hb1⟩
 have hb2:=hb1.alloc hb1.size (.cells #[.int .i64 k,.int .i64 hh] 120)
 have hrs:Row (w1.alloc (.cells #[.int .i64 k,.int .i64 hh] 120)) w1.heap.size 120 [.int .i64 k,.int .i64 hh]:=heap_alloc_new _ _
 have hrf:=HR0.out.below hb2 HR0.out.lt
 have HB2:=Lib.hid (HB0.out.trans (hb2.mono HB0.out.size))
 have HL1:Hid (w.heap.size≤w1.heap.size):=Nat.le_trans HB0.out.size hb1.size
 clear hb1 hb2 HB0 HR0 HS
 have HRS:=Lib.hid hrs
 have HRF:=Lib.hid hrf
 clear hrs hrf
 have k0:∀d os,(Sort.grow (redrawn (w1.alloc (.cells #[.int .i64 k,.int .i64 hh] 120)) d) os).cell? ⟨w1.heap.size,0,none⟩=some (.int .i64 k):=cell_regrown (HRS.out.cell 0)
 have k1:∀d os,(Sort.grow (redrawn (w1.alloc (.cells #[.int .i64 k,.int .i64 hh] 120)) d) os).cell? ⟨w1.heap.size,1,none⟩=some (.int .i64 hh):=cell_regrown (HRS.out.cell 1)
 have k2:∀d os,(Sort.grow (redrawn (w1.alloc (.cells #[.int .i64 k,.int .i64 hh] 120)) d) os).cell? ⟨w.heap.size,1,none⟩=some (.int .i64 nb):=cell_regrown (HRF.out.cell 1)
 have k3:∀d os,(Sort.grow (redrawn (w1.alloc (.cells #[.int .i64 k,.int .i64 hh] 120)) d) os).cell? ⟨w.heap.size,3,none⟩=some (.int .i64 count):=cell_regrown (HRF.out.cell 3)
 have Q1:Hid (∀d os,Calls Tryz.prog 60 #[.agg #[.int .i64 k,.int .i64 hh],.int .i64 count] (Sort.grow (redrawn (w1.alloc (.cells #[.int .i64 k,.int .i64 hh] 120)) d) os) fun e w''=>e=.returned (.int .i64 nb)∧∃p:Regrown,w''=Sort.grow (redrawn (w1.alloc (.cells #[.int .i64 k,.int .i64 hh] 120)) p.d) p.os):=fun d os=>Calls.regrown_of (HBL.out _)
 go_wp2
 refine wp_region_quiet_below (by kernel_rfl) (by kernel_rfl) ?_
 repeat(any_goals(first|go_big_quiet_step (with_reducible exact Q1.out _ _)|quiet_step (with_reducible exact Q1.out _ _)))
 refine wpQuiet_nil ?_
 intro w5 hw5
 obtain⟨⟨dq,osq⟩,hw5⟩:=hw5
 have hbw5:=below_regrown (w1.alloc (.cells #[.int .i64 k,.int .i64 hh] 120)) dq osq
 rw[←hw5]at hbw5
 clear hw5
 have HB5:=Lib.hid (HB2.out.trans (hbw5.mono HB2.out.size))
 have HRS5:=Lib.hid (HRS.out.below hbw5 HRS.out.lt)
 have HRF5:=Lib.hid (HRF.out.below hbw5 HRF.out.lt)
 have k5:=HSYS.out w5 HB5.out
 clear hbw5 Q1 k0 k1 k2 k3 HRS HRF HB2 HBL
 have Q1:=Lib.hid (HGR.out w5 k5)
 have Q2:=Lib.hid (HSQ.out w5 k5)
 have c0:w5.drew.cell? ⟨p.w,0,none⟩=some (.pointer (some ⟨p.d,0,none⟩)):=k5.row.cell 0
 have c1:w5.drew.cell? ⟨p.w,1,none⟩=some (.pointer (some ⟨p.a,0,none⟩)):=k5.row.cell 1
 clear k5 HGR HSQ HSYS
 go_wp2
 go_region_held3 (fun w'=>w'.cell? ⟨p.w,0,none⟩=some (.pointer (some ⟨p.d,0,none⟩))∧w'.cell? ⟨p.w,1,none⟩=some (.pointer (some ⟨p.a,0,none⟩))) (first|with_reducible exact⟨c0,c1⟩|with_reducible exact d1)
  (first
   |(go_at_call 62;(with_reducible refine Q2.out.mono ?_);rintro e w8 ⟨rfl,rfl⟩)
   |(go_at_call 61;(with_reducible refine Q1.out.mono ?_);rintro e w6 ⟨b,g,rfl,⟨G6,k1,k2,k3,k4,k5⟩,k6,k7,k8,k9⟩;have d1:=HCL.out _ _ _ k1))
 have hs6:=k2.row HRF5.out (HNG.out _ (Nat.le_refl _))
 have hs7:=k2.row HRS5.out (HNG.out _ HL1.out)
 have e0:w6.cell? ⟨w.heap.size,0,none⟩=some (.int .i64 first):=hs6.cell 0
 have e1:w6.cell? ⟨w.heap.size,1,none⟩=some (.int .i64 nb):=hs6.cell 1
 have e2:w6.cell? ⟨w.heap.size,2,none⟩=some (.int .i64 k):=hs6.cell 2
 have e3:w6.cell? ⟨w.heap.size,3,none⟩=some (.int .i64 count):=hs6.cell 3
 have e4:w6.cell? ⟨w1.heap.size,0,none⟩=some (.int .i64 k):=hs7.cell 0
 have e5:w6.cell? ⟨w1.heap.size,1,none⟩=some (.int .i64 hh):=hs7.cell 1
 have HN:=Lib.hid (HNEW.out w6 _ b g G6 k1 ((Far.of_below HB5.out G).trans k2 fun b hb=>.inl hb) (fun k hk=>(k3 k hk).imp_right fun h=>Nat.le_trans HB5.out.size h) k4 k5 k6 k7 (Nat.le_trans HB5.out.size k8) (Nat.le_trans HB5.out.size k9) rfl)
 clear k1 k2 k3 k4 k5 k6 k7 k8 k9 hs6 hs7 Q1 Q2 HNEW HB5 HRF5 HRS5 HCL d1 c0 c1 HNG
 go_wp2
 exact HPOST.out _ _ b g HN.out
end Go.Proofs.YtfpjmhnmpjdbiaaGreat
