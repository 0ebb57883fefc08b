import Derived.Test.YtdgkpkdinfklaabGreatGW
import Derived.Test.YtdgkpkdinfklaabGreatGK
import Derived.Deep.RegionWith
namespace Go.Proofs.YtdgkpkdinfklaabGreat
open Go.RowKit
theorem Tryz.infoIntP:(Tryz.prog.info? 3).map (fun i=>(i.zero,i.size,i.bytes))=some (some (.int .i64 0),1,8):=by kernel_rfl
def meetB(f g:Nat→Bool):Bool:=(List.range 5).any fun i=>f i&&g i
def opMK(a b:MK):Bool:=(!meetB (hOf a) (hOf b))&&((a.thread != b.thread)&&((a.num==b.num)&&(a.kind==2||b.kind==2)))
theorem nm_mem(f:Nat→Bool)(k:Nat)(x:UInt8):x∈nm f k↔∃i,i<k∧f i=true∧x=UInt8.ofNat (65+i):=by
 induction k with
 | zero=>simp[nm]
 | succ k ih=>
  rw[nm,List.mem_append,ih];constructor
  ·rintro(⟨i,h1,h2,h3⟩|h)
   ·exact⟨i,by omega,h2,h3⟩
   ·cases hf:f k with
    | true=>rw[hf,if_pos rfl,List.mem_singleton]at h;exact⟨k,by omega,hf,h⟩
    | false=>rw[hf,if_neg (by decide)]at h;cases h
  ·rintro⟨i,h1,h2,h3⟩
   by_cases e:i=k
   ·subst e;right;rw[h2,if_pos rfl,List.mem_singleton];exact h3
   ·left;exact⟨i,by omega,h2,h3⟩
theorem inU_mem'{l:List UInt8}{c:UInt8}:inU l c=true↔c∈l:=by simp[inU]
theorem meet_nm(f g:Nat→Bool):((nm f 5).any (inU (nm g 5)))=meetB f g:=by
 rw[Bool.eq_iff_iff,List.any_eq_true,meetB,List.any_eq_true];constructor
 ·rintro⟨x,hx,hy⟩;rw[nm_mem]at hx;rw[inU_mem',nm_mem]at hy;obtain⟨i,hi,h1,rfl⟩:=hx;obtain⟨j,hj,h2,e⟩:=hy;have e':=congrArg (fun u:UInt8=>(u.toNat:Int)) e;simp only[ofNat_toNat i hi,ofNat_toNat j hj]at e';have:i=j:=by omega
  subst this;exact⟨i,by simpa using hi,by simp[h1,h2]⟩
 ·rintro⟨i,hi,h⟩;simp at hi h;exact⟨UInt8.ofNat (65+i),(nm_mem f 5 _).2 ⟨i,hi,h.1,rfl⟩,inU_mem'.2 ((nm_mem g 5 _).2 ⟨i,hi,h.2,rfl⟩)⟩
theorem bool5:∀(R T N A B:Bool),(R&&(T&&(N&&(A||B))))=false→R=false∨(R=true∧T=false)∨(R=true∧T=true∧N=false)∨(R=true∧T=true∧N=true∧A=false∧B=false):=by
 intro R T N A B;cases R<;>cases T<;>cases N<;>cases A<;>cases B<;>simp
def opAt(l:List MK)(i k:Nat):Bool:=match l[i]?,l[k]? with
 | some a,some b=>opMK a b
 | _,_=>false
def prI(l:List MK)(i:Nat):Nat→List Nat
 | 0=>[]
 | c+1=>prI l i c++(if opAt l i (i+1+c)then [i,i+1+c]else [])
def prL(l:List MK):Nat→List Nat
 | 0=>[]
 | i+1=>prL l i++prI l i (l.length-(i+1))
def idV(l:List Nat):List Value:=l.map fun(n:Nat)=>.int .i64 (n:Int)
theorem prI_len(l:List MK)(i c:Nat):(prI l i c).length≤2*c:=by
 induction c with
 | zero=>exact Nat.le_refl _
 | succ c ih=>rw[prI];split<;>simp<;>omega
theorem prL_len(l:List MK)(i:Nat)(h:l.length≤1000):(prL l i).length≤2000*i:=by
 induction i with
 | zero=>exact Nat.le_refl _
 | succ i ih=>have:=prI_len l i (l.length-(i+1));rw[prL,List.length_append];omega
set_option maxHeartbeats 400000 in
theorem apart_any(a b:ByteArray)(w:World)(ha:a.size≤100000)(hb:b.size≤100000) :
  Calls Tryz.prog 46 #[.string a,.string b] w fun e w'=>e=.returned (.bool (!a.data.toList.any (inU b.data.toList)))∧w'=w:=by
 obtain⟨R,hR⟩:∃R,R=!a.data.toList.any (inU b.data.toList):=⟨_,rfl⟩;rw[←hR];have HRR:Hid (R=!a.data.toList.any (inU b.data.toList)):=hR;clear hR
 go_enter Tryz.func46,Tryz.ntmps46
 go_wp2
 go_loop [5] (fun i=>∃k:Nat,k≤a.size∧i=.int .i64 k∧(a.data.toList.take k).any (inU b.data.toList)=false) (fun i=>a.size-(intOf i).toNat)
 case atStart=>exact⟨0,Nat.zero_le _,rfl,rfl⟩
 case round=>
  obtain⟨k,hk,rfl,hr⟩:=hrel;have HR:Hid ((a.data.toList.take k).any (inU b.data.toList)=false):=hr;clear hr
  by_cases hlt:k<a.size
  ·cases hi:inU b.data.toList a[k]with
   | true=>
    have HF:Hid (R=false):=by
     show R=false;rw[HRR.out];have:a.data.toList.any (inU b.data.toList)=true:=by
      rw[List.any_eq_true];exact⟨a[k],by simp[ByteArray.getElem_eq_getElem_data],hi⟩
     rw[this];rfl
    go_wp2_with fail
    refine(in_any b _ _ (by unfold maxLen;omega)).mono ?_;rintro e w' ⟨rfl,rfl⟩;rw[hi];go_wp2;go_ret;rw[HF.out];exact⟨rfl,rfl⟩
   | false=>
    have HN:Hid ((a.data.toList.take (k+1)).any (inU b.data.toList)=false):=by
     show(a.data.toList.take (k+1)).any (inU b.data.toList)=false;rw[take_snoc a k hlt,List.any_append,HR.out];simpa using hi
    go_wp2_with fail
    refine(in_any b _ _ (by unfold maxLen;omega)).mono ?_;rintro e w' ⟨rfl,rfl⟩;rw[hi];go_wp2
    go_round
    case rel=>exact⟨k+1,by omega,by go_num,HN.out⟩
    case measure=>simp[intOf];omega
  ·have HF:Hid (R=true):=by
    show R=true;have:a.data.toList.take k=a.data.toList:=List.take_of_length_le (by simp;omega);have h:=HR.out;rw[this]at h;rw[HRR.out,h];rfl
   go_wp2;go_ret;rw[HF.out];exact⟨rfl,rfl⟩
def PairsIs(w w':World)(s:ByteArray)(v:Value)(a:Int):Prop:=
 ∃b,ChkIs s a b∧((a≠0∧v=.slice none 0 0)∨(a=0∧s.size≤240∧∃mks x c,Acc s.data.toList mks∧mks.length≤1000∧v=.slice x (prL (accL mks) (accL mks).length).length c∧w'.ownsRow w.heap.size 3 1 (.slice x (prL (accL mks) (accL mks).length).length c) (prL (accL mks) (accL mks).length).length (idV (prL (accL mks) (accL mks).length))))
theorem accL_len(mks:List MK):(accL mks).length≤mks.length:=List.length_filter_le _ _
set_option maxHeartbeats 3200000 in
set_option maxRecDepth 100000 in
theorem refPairs_any(s:ByteArray)(w:World)(hs:s.size≤maxLen) :
  Calls Tryz.prog 29 #[.string s] w fun e w'=>∃v a,e=.returned (.tuple #[v,.int .i64 a])∧PairsIs w w' s v a∧Below w.heap.size w w':=by
 obtain⟨i0,hi0,hz0,hz1,hz2⟩:=info_parts Tryz.infoIntP
 go_enter Tryz.func29,Tryz.ntmps29
 go_wp2_with fail
 refine(refCheck_any s w hs).mono ?_;rintro e w0 ⟨a,b,rfl,hc,hw0⟩;rw[hw0];clear hw0
 by_cases ha:a=0
 ·subst ha;have hok:s.size≤240∧∃mks,Acc s.data.toList mks:=by
   rcases hc with⟨_,h,_⟩|⟨hl,⟨q,_,h,_⟩|⟨m,hm,h,_⟩⟩
   ·exact absurd h (by decide)
   ·exact absurd h (by decide)
   ·exact⟨hl,m,hm⟩
  obtain⟨hz,mks,hacc⟩:=hok;have hcnt:=acc_count hacc;rw[len_eq]at hcnt;have HC:Hid (ChkIs s 0 b):=hc;have HA:Hid (Acc s.data.toList mks):=hacc;clear hc hacc
  go_wp2_with fail
  refine(list_any s mks w hz HA.out).mono ?_;rintro e w1 ⟨⟨x,c,rfl,hown⟩,hb1⟩;have HR:Hid (w1.ownsRow w.heap.size 47 5 (.slice x (accL mks).length c) (accL mks).length (accsV (accL mks))):=hown;have HB1:Hid (Below w.heap.size w w1):=hb1;clear hown hb1;obtain⟨L,hL⟩:∃L,L=accL mks:=⟨_,rfl⟩;have hL1:L.length≤1000:=by have:=accL_len mks;rw[hL];omega
  have HL:Hid (L=accL mks):=hL;rw[←hL]at HR ⊢;clear hL;obtain⟨n,hn⟩:∃n,n=L.length:=⟨_,rfl⟩;have HN:Hid (n=L.length):=hn;rw[←hn]at HR hL1 ⊢;clear hn;go_wp2
  go_loopw [7,8] (fun v iv wr=>∃i:Nat,i≤n∧iv=.int .i64 i∧wr.ownsRow w1.heap.size 3 1 v (prL L i).length (idV (prL L i))∧Below w1.heap.size w1 wr) (fun _ iv _=>n-(intOf iv).toNat)
  case atStart=>exact⟨0,Nat.zero_le _,rfl,World.ownsRow_nil _ _ _ _,Below.refl _ _⟩
  case round=>
   obtain⟨i,hi,rfl,hown,hbe⟩:=hrel;have HO:Hid (wr.ownsRow w1.heap.size 3 1 u7 (prL L i).length (idV (prL L i))):=hown;have HB:Hid (Below w1.heap.size w1 wr):=hbe;have hpl:=prL_len L i (by rw[←HN.out];exact hL1);clear hown hbe
   by_cases hlt:i<n
   ·obtain⟨ma,hma⟩:∃m,L[i]?=some m:=⟨L[i]'(by rw[←HN.out];exact hlt),List.getElem?_eq_getElem _⟩;have HMA:Hid (L[i]?=some ma):=hma;clear hma;have hii:decide ((i:Int)<(n:Int))=true:=by simp;omega
    obtain⟨wa,rfl⟩:∃wa,wa=wr:=⟨_,rfl⟩;go_wp2
    go_loopw [7,9] (fun v kv wr=>∃q:Nat,i+1+q≤n∧kv=.int .i64 (i+1+q:Nat)∧wr.ownsRow w1.heap.size 3 1 v (prL L i++prI L i q).length (idV (prL L i++prI L i q))∧Below w1.heap.size w1 wr) (fun _ kv _=>n-(intOf kv).toNat)
    case atStart=>exact⟨0,by omega,by go_num,by simpa[prI]using HO.out,HB.out⟩
    case round=>
     obtain⟨q,hq,rfl,hown,hbe⟩:=hrel;obtain⟨k,hk⟩:∃k,k=i+1+q:=⟨_,rfl⟩;rw[←hk]at hq ⊢;have HKK:Hid (k=i+1+q):=hk;have HO2:Hid (wr.ownsRow w1.heap.size 3 1 u7 (prL L i++prI L i q).length (idV (prL L i++prI L i q))):=hown;have HB2:Hid (Below w1.heap.size w1 wr):=hbe;have hsz:=hbe.size;have hlen:(prL L i++prI L i q).length≤3000000:=by
      have:=prI_len L i q;rw[List.length_append];omega
     clear hown
     by_cases hkn:k<n
     ·obtain⟨mb,hmb⟩:∃m,L[k]?=some m:=⟨L[k]'(by rw[←HN.out];exact hkn),List.getElem?_eq_getElem _⟩;have HOP:Hid (opAt L i (i+1+q)=opMK ma mb):=by
       show opAt L i (i+1+q)=opMK ma mb;rw[←hk,opAt,HMA.out,hmb]
      have hrow:=ownsRow_later HR.out hbe;obtain⟨g,cap',hv,_,_⟩:=HR.out.form (by omega);cases hv;have p0:=accAt hrow HN.out i ma HMA.out 0 (by decide) _ rfl;have p2:=accAt hrow HN.out i ma HMA.out 2 (by decide) _ rfl;have p3:=accAt hrow HN.out i ma HMA.out 3 (by decide) _ rfl;have p4:=accAt hrow HN.out i ma HMA.out 4 (by decide) _ rfl;have r0:=accAt hrow HN.out k mb hmb 0 (by decide) _ rfl;have r2:=accAt hrow HN.out k mb hmb 2 (by decide) _ rfl;have r3:=accAt hrow HN.out k mb hmb 3 (by decide) _ rfl;have r4:=accAt hrow HN.out k mb hmb 4 (by decide) _ rfl;rw[Nat.add_zero]at p0 r0;obtain⟨sa,hsa⟩:∃str:ByteArray,str=⟨(nm (hOf ma) 5).toArray⟩:=⟨_,rfl⟩;obtain⟨sb,hsb⟩:∃str:ByteArray,str=⟨(nm (hOf mb) 5).toArray⟩:=⟨_,rfl⟩;have hA:(!sa.data.toList.any (inU sb.data.toList))=!meetB (hOf ma) (hOf mb):=by
       rw[hsa,hsb,←meet_nm]
      have hsa5:sa.size≤100000:=by
       have:=nm_len (hOf ma) 5;rw[←len_eq,hsa];simp;omega
      have hsb5:sb.size≤100000:=by
       have:=nm_len (hOf mb) 5;rw[←len_eq,hsb];simp;omega
      rw[←hsa]at p4;rw[←hsb]at r4;have HAP:Hid (∀wx,Calls Tryz.prog 46 #[.string sa,.string sb] wx fun e w'=>e=.returned (.bool (!meetB (hOf ma) (hOf mb)))∧w'=wx):=by
       intro wx;have:=apart_any sa sb wx hsa5 hsb5;rw[hA]at this;exact this
      clear hrow hmb hbe hsa hsb hA hsa5 hsb5;obtain⟨R,hR⟩:∃R,R=!meetB (hOf ma) (hOf mb):=⟨_,rfl⟩;rw[←hR]at HAP;have HOPE:Hid (opMK ma mb=(R&&((ma.thread != mb.thread)&&((ma.num==mb.num)&&(ma.kind==2||mb.kind==2))))):=by
       show opMK ma mb=_;rw[hR];rfl
      clear hR;have hik:i<k:=by omega
      clear hk;have hkn':(k:Int)<(n:Int):=by omega
      have hin':(i:Int)<(n:Int):=by omega
      have hkd:decide ((k:Int)<(n:Int))=true:=by simp;omega
      by_cases hop:opMK ma mb=true
      ·have hop':=hop;rw[HOPE.out]at hop';simp only[Bool.and_eq_true]at hop';obtain⟨h1,h2,h3,h4⟩:=hop';have HPN:Hid (prL L i++prI L i (q+1)=(prL L i++prI L i q)++[i,k]):=by
        show _=_;rw[prI,HOP.out,hop,if_pos rfl,←HKK.out,List.append_assoc]
       rw[h1]at HAP;clear hop HOPE h1;have KC:(ma.kind==2)=true∨((ma.kind==2)=false∧(mb.kind==2)=true):=by
        cases hz:(ma.kind==2)with
        | true=>exact .inl rfl
        | false=>rw[hz]at h4;exact .inr ⟨rfl,by simpa using h4⟩
       clear h4;obtain⟨P,hP⟩:∃P,P=prL L i++prI L i q:=⟨_,rfl⟩;rw[←hP]at HO2 hlen HPN;clear hP;have HE1:Hid (idV (P++[i,k])=idV P++[.int .i64 (i:Int),.int .i64 (k:Int)]):=by show _=_;simp[idV]
       rcases KC with kc|⟨kc,kd⟩
       all_goals
        go_wp2
        go_quiet ((go_at_call 46;exact Calls.quiet_of_same (HAP.out _)))
        go_wp2
        go_quiet (fail)
        go_wp2_with (at_builtin;refine wpList_append_own _ rfl (.tmp 87) (.tmp 89) 30 rfl w1.heap.size 3 i0 _ 1 8 Tryz.underlying30 hi0 hz0 hz1 hz2 rfl (by decide) u7 P.length (idV P) rfl ((ownsRow_later HO2.out (below_drewN' _ _ _)).alloc _) ⟨wr.heap.size,0,none⟩ 1 1 [.int .i64 (i:Int)] rfl rfl ?hnews ?h1 ?h63 ?hby ?hbase ?next)
        case hnews=>exact World.news_of_block (heap_alloc_new _ _)
        case h1=>intro u hu;simp at hu;subst hu;rfl
        case h63=>unfold maxLen;omega
        case hby=>omega
        case hbase=>simp;omega
        case next=>
         intro v1 w2 hown1 hgrow1 _;have HO3:Hid (w2.ownsRow w1.heap.size 3 1 v1 (P.length+1) (idV P++[.int .i64 (i:Int)])):=hown1;have HB3:Hid (Below w1.heap.size w1 w2):=((HB2.out.trans (below_drewN' _ _ _)).alloc (by simp;omega) _).grown hgrow1 (by simp;omega) (fun q hq=>(HO2.out.lt q hq).1);have hsz2:=HB3.out.size;clear hown1 hgrow1
         go_wp2_with (at_builtin;refine wpList_append_own _ rfl (.tmp 91) (.tmp 93) 30 rfl w1.heap.size 3 i0 _ 1 8 Tryz.underlying30 hi0 hz0 hz1 hz2 rfl (by decide) v1 (P.length+1) (idV P++[.int .i64 (i:Int)]) rfl (HO3.out.alloc _) ⟨w2.heap.size,0,none⟩ 1 1 [.int .i64 (k:Int)] rfl rfl ?hnews ?h1 ?h63 ?hby ?hbase ?next)
         case hnews=>exact World.news_of_block (heap_alloc_new _ _)
         case h1=>intro u hu;simp at hu;subst hu;rfl
         case h63=>unfold maxLen;omega
         case hby=>omega
         case hbase=>simp;omega
         case next=>
          intro v2 w3 hown2 hgrow2 _;have HB4:Hid (Below w1.heap.size w1 w3):=(HB3.out.alloc (by omega) _).grown hgrow2 (by simp;omega) (fun q hq=>(HO3.out.lt q hq).1);have HO4:Hid (w3.ownsRow w1.heap.size 3 1 v2 (prL L i++prI L i (q+1)).length (idV (prL L i++prI L i (q+1)))):=by
           show World.ownsRow _ _ _ _ _ _ _;rw[HPN.out,HE1.out,List.length_append];exact hown2
          clear hown2 hgrow2;go_wp2;have hkk:=HKK.out;exact⟨⟨q+1,by omega,by rw[hkk];go_num,HO4.out,HB4.out⟩,by simp[intOf];omega⟩
      ·have hop':opMK ma mb=false:=by simpa using hop
       have HPN:Hid (prL L i++prI L i (q+1)=prL L i++prI L i q):=by
        show _=_;rw[prI,HOP.out,hop'];simp
       rw[HOPE.out]at hop';have KC:R=false∨(R=true∧(ma.thread != mb.thread)=false)∨(R=true∧(ma.thread != mb.thread)=true∧(ma.num==mb.num)=false)∨(R=true∧(ma.thread != mb.thread)=true∧(ma.num==mb.num)=true∧(ma.kind==2)=false∧(mb.kind==2)=false):=by
        exact bool5 _ _ _ _ _ hop'
       clear hop hop' HOPE;rcases KC with k1|⟨k1,k2⟩|⟨k1,k2,k3⟩|⟨k1,k2,k3,k4,k5⟩
       all_goals
        rw[k1]at HAP;clear k1;go_wp2
        go_quiet ((go_at_call 46;exact Calls.quiet_of_same (HAP.out _)))
        go_wp2
        go_quiet (fail)
        go_wp2;have hkk:=HKK.out;exact⟨⟨q+1,by omega,by rw[hkk];go_num,by rw[HPN.out];exact ownsRow_later HO2.out (below_drewN' _ _ _),HB2.out.trans (below_drewN' _ _ _)⟩,by simp[intOf];omega⟩
     ·have hqn:q=n-(i+1):=by omega
      subst hqn;have HPN:Hid (wr.ownsRow w1.heap.size 3 1 u7 (prL L (i+1)).length (idV (prL L (i+1)))):=by
       show World.ownsRow _ _ _ _ _ _ _;rw[prL,←HN.out];exact HO2.out
      clear hbe;go_wp2;exact⟨⟨i+1,by omega,by go_num,HPN.out,HB2.out⟩,by simp[intOf];omega⟩
   ·have hin:i=n:=by omega
    subst hin;have hform:∃a c,u7=.slice a (prL L i).length c:=by
     rcases HO.out.2 with⟨hv,h0⟩|⟨g,cap,cur,hv,_⟩
     ·exact⟨none,0,by rw[hv,h0]⟩
     ·exact⟨_,_,hv⟩
    obtain⟨a',c',rfl⟩:=hform;have HH:Hid (PairsIs w wr s (.slice a' (prL L i).length c') 0):=by
     refine⟨b,HC.out,.inr ⟨rfl,hz,mks,a',c',HA.out,by omega,?_,?_⟩⟩
     ·rw[←HL.out,←HN.out]
     ·rw[←HL.out,←HN.out];exact ownsRow_lower HO.out HB1.out.size
    have HBF:Hid (Below w.heap.size w wr):=HB1.out.trans (HB.out.mono HB1.out.size);go_wp2
    go_ret2
    exact⟨_,0,rfl,HH.out,HBF.out⟩
 ·have ha':(a != 0)=true:=by simpa using ha
  have HH:Hid (PairsIs w w s (.slice none 0 0) a):=⟨b,hc,.inl ⟨ha,rfl⟩⟩;clear hc ha;go_wp2
  go_ret2
  exact⟨_,a,rfl,HH.out,Below.refl _ _⟩
theorem Tryz.infoStepP:(Tryz.prog.info? 88).map (fun i=>(i.zero,i.size,i.bytes))=some (some (.agg #[.int .i64 0,.int .i64 0,.int .i64 0,.int .i64 0,.bool false,.int .i64 0,.int .i64 0,.bool false,.bool false,.bool false,.bool false,.bool false]),12,64):=by kernel_rfl
def hOfT(s:ST):Nat→Bool
 | 0=>s.h0
 | 1=>s.h1
 | 2=>s.h2
 | 3=>s.h3
 | _=>s.h4
theorem hOfT_mk(s:ST):hOfT s=hOf (mkAcc s):=by
 funext i
 match i with
 | 0=>rfl
 | 1=>rfl
 | 2=>rfl
 | 3=>rfl
 | _+4=>rfl
def accS(F:List ST):List ST:=F.filter fun s=>s.kind==1||s.kind==2
theorem accS_mks(F:List ST):accL (mksS F)=(accS F).map mkAcc:=by
 induction F with
 | nil=>rfl
 | cons s r ih=>
  have hc:mksS (s::r)=(match mkS s with|some m=>[m]|none=>[])++mksS r:=by
   rw[mksS,List.filterMap_cons];cases mkS s<;>rfl
  rw[hc,accL,List.filter_append];have ih':List.filter isAcc (mksS r)=(accS r).map mkAcc:=ih;rw[ih']
  by_cases h6:s.kind=6
  ·have h12:(s.kind==1||s.kind==2)=false:=by simp;omega
   have:accS (s::r)=accS r:=by rw[accS,List.filter_cons];simp only[h12];rfl
   rw[this];simp[mkS,h6,isAcc]
  ·by_cases h1:s.kind=1∨s.kind=2
   ·have h12:(s.kind==1||s.kind==2)=true:=by simpa using h1
    have h3:s.kind≠3:=by omega
    have:accS (s::r)=s::accS r:=by rw[accS,List.filter_cons];simp only[h12];rfl
    rw[this];simp[mkS,h6,h1,isAcc,h3,mkAcc,List.filter_cons]
   ·have h12:(s.kind==1||s.kind==2)=false:=by simpa using h1
    have:accS (s::r)=accS r:=by rw[accS,List.filter_cons];simp only[h12];rfl
    rw[this];simp[mkS,h6,h1]
theorem accS_snoc{F:List ST}{k:Nat}{m:ST}(h:F[k]?=some m):accS (F.take (k+1))=accS (F.take k)++(if (m.kind==1||m.kind==2)=true then [m]else []):=by
 obtain⟨hk,rfl⟩:=List.getElem?_eq_some_iff.1 h;rw[List.take_succ_eq_append_getElem hk,accS,List.filter_append]
 congr 1
 rw[List.filter_cons,List.filter_nil]
set_option maxHeartbeats 800000 in
theorem conflict_any(a b:ST)(w:World) :
  Calls Tryz.prog 90 #[.agg #[.int .i64 a.kind,.int .i64 a.place,.int .i64 a.thread,.int .i64 a.num,.bool a.mend,.int .i64 a.nx,.int .i64 a.el,.bool a.h0,.bool a.h1,.bool a.h2,.bool a.h3,.bool a.h4],.agg #[.int .i64 b.kind,.int .i64 b.place,.int .i64 b.thread,.int .i64 b.num,.bool b.mend,.int .i64 b.nx,.int .i64 b.el,.bool b.h0,.bool b.h1,.bool b.h2,.bool b.h3,.bool b.h4]] w fun e w'=>e=.returned (.bool ((a.thread != b.thread)&&((a.num==b.num)&&(a.kind==2||b.kind==2))))∧Below w.heap.size w w':=by
 have B1:Hid (∀o o',Below w.heap.size w ((w.alloc o).alloc o')):=fun o o'=>((Below.refl _ _).alloc (Nat.le_refl _) o).alloc (by simp) o'
 go_enter Tryz.func90,Tryz.ntmps90
 by_cases ht:a.thread=b.thread
 ·have h1:(a.thread==b.thread)=true:=by simpa using ht
  have h2:(a.thread != b.thread)=false:=by simpa using ht
  rw[h2];clear ht;go_wp2;go_ret;exact⟨rfl,B1.out _ _⟩
 ·have h1:(a.thread==b.thread)=false:=by simpa using ht
  have h2:(a.thread != b.thread)=true:=by simpa using ht
  rw[h2];clear ht
  by_cases hn:a.num=b.num
  ·have h3:(a.num != b.num)=false:=by simpa using hn
   have h4:(a.num==b.num)=true:=by simpa using hn
   rw[h4];clear hn;cases hk:(a.kind==2)with
   | true=>
    go_wp2;go_ret;exact⟨rfl,B1.out _ _⟩
   | false=>
    go_wp2;go_ret;exact⟨rfl,B1.out _ _⟩
  ·have h3:(a.num != b.num)=true:=by simpa using hn
   have h4:(a.num==b.num)=false:=by simpa using hn
   rw[h4];clear hn;go_wp2;go_ret;exact⟨rfl,B1.out _ _⟩
set_option maxHeartbeats 1600000 in
theorem open_any(a b:ST)(w:World) :
  Calls Tryz.prog 66 #[.agg #[.int .i64 a.kind,.int .i64 a.place,.int .i64 a.thread,.int .i64 a.num,.bool a.mend,.int .i64 a.nx,.int .i64 a.el,.bool a.h0,.bool a.h1,.bool a.h2,.bool a.h3,.bool a.h4],.agg #[.int .i64 b.kind,.int .i64 b.place,.int .i64 b.thread,.int .i64 b.num,.bool b.mend,.int .i64 b.nx,.int .i64 b.el,.bool b.h0,.bool b.h1,.bool b.h2,.bool b.h3,.bool b.h4]] w fun e w'=>e=.returned (.bool (opMK (mkAcc a) (mkAcc b)))∧Below w.heap.size w w':=by
 have B1:Hid (∀o o',Below w.heap.size w ((w.alloc o).alloc o')):=fun o o'=>((Below.refl _ _).alloc (Nat.le_refl _) o).alloc (by simp) o'
 obtain⟨C,hC⟩:∃C,C=((a.thread != b.thread)&&((a.num==b.num)&&(a.kind==2||b.kind==2))):=⟨_,rfl⟩;have HR:Hid (opMK (mkAcc a) (mkAcc b)=(!meetB (hOfT a) (hOfT b)&&C)):=by
  show _=_;rw[hC,hOfT_mk,hOfT_mk];rfl
 obtain⟨R,hR⟩:∃R,R=opMK (mkAcc a) (mkAcc b):=⟨_,rfl⟩;rw[←hR]at HR ⊢;have HC:Hid (∀wx,Calls Tryz.prog 90 #[.agg #[.int .i64 a.kind,.int .i64 a.place,.int .i64 a.thread,.int .i64 a.num,.bool a.mend,.int .i64 a.nx,.int .i64 a.el,.bool a.h0,.bool a.h1,.bool a.h2,.bool a.h3,.bool a.h4],.agg #[.int .i64 b.kind,.int .i64 b.place,.int .i64 b.thread,.int .i64 b.num,.bool b.mend,.int .i64 b.nx,.int .i64 b.el,.bool b.h0,.bool b.h1,.bool b.h2,.bool b.h3,.bool b.h4]] wx fun e w'=>e=.returned (.bool C)∧Below wx.heap.size wx w'):=by
  intro wx;rw[hC];exact conflict_any a b wx
 clear hC hR;have HBa:Hid (∀o o',Blk ((w.alloc (.cells #[.int .i64 a.kind,.int .i64 a.place,.int .i64 a.thread,.int .i64 a.num,.bool a.mend,.int .i64 a.nx,.int .i64 a.el,.bool a.h0,.bool a.h1,.bool a.h2,.bool a.h3,.bool a.h4] o)).alloc o') w.heap.size (stV a) o):=fun o o'=>Blk.alloc (heap_alloc_new _ _) _
 have HBb:Hid (∀o o',Blk ((w.alloc o).alloc (.cells #[.int .i64 b.kind,.int .i64 b.place,.int .i64 b.thread,.int .i64 b.num,.bool b.mend,.int .i64 b.nx,.int .i64 b.el,.bool b.h0,.bool b.h1,.bool b.h2,.bool b.h3,.bool b.h4] o')) (w.heap.size+1) (stV b) o'):=fun o o'=>by
  have e:(w.alloc o).heap.size=w.heap.size+1:=by simp
  rw[←e];exact heap_alloc_new _ _
 go_enter Tryz.func66,Tryz.ntmps66
 go_wp2_with fail
 refine(HC.out _).mono ?_;rintro e w1 ⟨rfl,hb1⟩;have hba:=(HBa.out _ _).chg (chg_of_below hb1 []) (by simp);have hbb:=(HBb.out _ _).chg (chg_of_below hb1 []) (by simp);have HA:Hid (Blk w1 w.heap.size (stV a) 88):=hba;have HB:Hid (Blk w1 (w.heap.size+1) (stV b) 88):=hbb;have HW:Hid (Below w.heap.size w w1):=(B1.out _ _).trans (hb1.mono (by simp;omega));clear hba hbb hb1;cases C with
 | false=>
  go_wp2;go_ret;refine⟨?_,HW.out⟩;rw[HR.out];simp
 | true=>
  go_wp2
  go_loopw [5] (fun iv wr=>∃(i q:Nat),i≤5∧iv=.int .i64 i∧wr=w1.drewN q∧((List.range i).any fun i=>hOfT a i&&hOfT b i)=false) (fun iv _=>5-(intOf iv).toNat)
  case atStart=>exact⟨0,0,by omega,rfl,rfl,rfl⟩
  case round=>
   obtain⟨i,q,hi,rfl,rfl,hno⟩:=hrel;have HNO:Hid (((List.range i).any fun i=>hOfT a i&&hOfT b i)=false):=hno;clear hno
   by_cases hi5:i<5
   ·have ca:w1.cell? ⟨w.heap.size,7+i,none⟩=some (.bool (hOfT a i)):=by
     refine HA.out.cell (7+i) _ ?_;have:i=0∨i=1∨i=2∨i=3∨i=4:=by omega
     rcases this with rfl|rfl|rfl|rfl|rfl<;>rfl
    have cb:w1.cell? ⟨w.heap.size+1,7+i,none⟩=some (.bool (hOfT b i)):=by
     refine HB.out.cell (7+i) _ ?_;have:i=0∨i=1∨i=2∨i=3∨i=4:=by omega
     rcases this with rfl|rfl|rfl|rfl|rfl<;>rfl
    have HSN:Hid (((List.range (i+1)).any fun i=>hOfT a i&&hOfT b i)=(hOfT a i&&hOfT b i)):=by
     show _=_;rw[List.range_succ,List.any_append,HNO.out];simp
    have hi5':(i:Int)<5:=by omega
    cases h1:hOfT a i with
    | false=>
     rw[h1]at ca HSN;have HN2:Hid (((List.range (i+1)).any fun i=>hOfT a i&&hOfT b i)=false):=by
      show _=_;rw[HSN.out];rfl
     clear h1 HSN;go_wp2;exact⟨⟨i+1,q,by omega,by go_num,rfl,HN2.out⟩,by simp[intOf];omega⟩
    | true=>
     cases h2:hOfT b i with
     | false=>
      rw[h1,h2]at HSN;rw[h1]at ca;rw[h2]at cb;have HN2:Hid (((List.range (i+1)).any fun i=>hOfT a i&&hOfT b i)=false):=by
       show _=_;rw[HSN.out];rfl
      clear h1 h2 HSN;go_wp2;exact⟨⟨i+1,q,by omega,by go_num,rfl,HN2.out⟩,by simp[intOf];omega⟩
     | true=>
      have HT:Hid (meetB (hOfT a) (hOfT b)=true):=by
       show _=_;rw[meetB,List.any_eq_true];exact⟨i,by simpa using hi5,by rw[h1,h2];rfl⟩
      rw[h1]at ca;rw[h2]at cb;clear h1 h2 HSN;go_wp2;go_ret;refine⟨?_,HW.out.trans (below_drewN' _ _ _)⟩;rw[HR.out,HT.out];rfl
   ·have hi':i=5:=by omega
    subst hi';go_wp2;go_ret;refine⟨?_,HW.out.trans (below_drewN' _ _ _)⟩;rw[HR.out,meetB,HNO.out];rfl
set_option maxHeartbeats 1600000 in
set_option maxRecDepth 100000 in
theorem locksAcc_any(B:Nat)(am:Option Addr)(cm:Nat)(F:List ST)(w:World)(h:w.ownsRow B 88 12 (.slice am F.length cm) F.length (stsV F))(hlen:F.length≤1000) :
  Calls Tryz.prog 65 #[.slice am F.length cm] w fun e w'=>(∃x c,e=.returned (.slice x (accS F).length c)∧w'.ownsRow w.heap.size 88 12 (.slice x (accS F).length c) (accS F).length (stsV (accS F)))∧Below w.heap.size w w':=by
 obtain⟨i0,hi0,hz0,hz1,hz2⟩:=info_parts Tryz.infoStepP;have HM:Hid (w.ownsRow B 88 12 (.slice am F.length cm) F.length (stsV F)):=h;clear h;obtain⟨n,hn⟩:∃n,n=F.length:=⟨_,rfl⟩;have HN:Hid (n=F.length):=hn;rw[←hn]at hlen ⊢;clear hn
 go_enter Tryz.func65,Tryz.ntmps65
 go_wp2
 go_loopw [3,4] (fun v iv wr=>∃k:Nat,k≤n∧iv=.int .i64 k∧wr.ownsRow w.heap.size 88 12 v (accS (F.take k)).length (stsV (accS (F.take k)))∧Below w.heap.size w wr) (fun _ iv _=>n-(intOf iv).toNat)
 case atStart=>exact⟨0,Nat.zero_le _,rfl,World.ownsRow_nil _ _ _ _,Below.refl _ _⟩
 case round=>
  obtain⟨k,hk,rfl,hown,hbe⟩:=hrel;have HO:Hid (wr.ownsRow w.heap.size 88 12 u3 (accS (F.take k)).length (stsV (accS (F.take k)))):=hown;have HB:Hid (Below w.heap.size w wr):=hbe;have hsz:=hbe.size;have hll:(accS (F.take k)).length≤k:=Nat.le_trans (List.length_filter_le _ _) (List.length_take_le _ _);have hm':=ownsRow_later HM.out hbe;clear hown hbe
  by_cases hlt:k<n
  ·obtain⟨m,hm⟩:∃m,F[k]?=some m:=⟨F[k]'(by rw[←HN.out];exact hlt),List.getElem?_eq_getElem _⟩;obtain⟨g,cap',hv,hb,_⟩:=HM.out.form (by rw[←HN.out];omega);cases hv;have q0:=markAt (n:=0) hm' k m hm 0 (by decide) _ rfl rfl;have q1:=markAt (n:=0) hm' k m hm 1 (by decide) _ rfl rfl;have q2:=markAt (n:=0) hm' k m hm 2 (by decide) _ rfl rfl;have q3:=markAt (n:=0) hm' k m hm 3 (by decide) _ rfl rfl;have q4:=markAt (n:=0) hm' k m hm 4 (by decide) _ rfl rfl;have q5:=markAt (n:=0) hm' k m hm 5 (by decide) _ rfl rfl;have q6:=markAt (n:=0) hm' k m hm 6 (by decide) _ rfl rfl;have q7:=markAt (n:=0) hm' k m hm 7 (by decide) _ rfl rfl;have q8:=markAt (n:=0) hm' k m hm 8 (by decide) _ rfl rfl;have q9:=markAt (n:=0) hm' k m hm 9 (by decide) _ rfl rfl;have q10:=markAt (n:=0) hm' k m hm 10 (by decide) _ rfl rfl;have q11:=markAt (n:=0) hm' k m hm 11 (by decide) _ rfl rfl;rw[Nat.add_zero]at q0;have hs:=accS_snoc hm;clear hm';have HMM:Hid (F[k]?=some m):=hm;clear hm
   go_wp2_with fail
   refine(isAccess_any m _).mono ?_;rintro e w0 ⟨rfl,hb0⟩;have hm0:=ownsRow_later HM.out (HB.out.trans (hb0.mono hsz));have HO0:Hid (w0.ownsRow w.heap.size 88 12 u3 (accS (F.take k)).length (stsV (accS (F.take k)))):=ownsRow_later HO.out hb0;have B0:Hid (Below w.heap.size w w0):=HB.out.trans (hb0.mono hsz);have hsz0:=B0.out.size;clear hb0 q0 q1 q2 q3 q4 q5 q6 q7 q8 q9 q10 q11;cases h12:(m.kind==1||m.kind==2)with
   | false=>
    have HS:Hid (accS (F.take (k+1))=accS (F.take k)):=by
     show _=_;rw[hs,h12];simp
    clear hs hm0;go_wp2
    go_roundw
    case rel=>exact⟨k+1,by omega,by go_num,by rw[HS.out];exact HO0.out,B0.out⟩
    case measure=>simp[intOf];omega
   | true=>
    have HS:Hid (accS (F.take (k+1))=accS (F.take k)++[m]):=by
     show _=_;rw[hs,h12];simp
    have q0:=markAt (n:=0) hm0 k m HMM.out 0 (by decide) _ rfl rfl;have q1:=markAt (n:=0) hm0 k m HMM.out 1 (by decide) _ rfl rfl;have q2:=markAt (n:=0) hm0 k m HMM.out 2 (by decide) _ rfl rfl;have q3:=markAt (n:=0) hm0 k m HMM.out 3 (by decide) _ rfl rfl;have q4:=markAt (n:=0) hm0 k m HMM.out 4 (by decide) _ rfl rfl;have q5:=markAt (n:=0) hm0 k m HMM.out 5 (by decide) _ rfl rfl;have q6:=markAt (n:=0) hm0 k m HMM.out 6 (by decide) _ rfl rfl;have q7:=markAt (n:=0) hm0 k m HMM.out 7 (by decide) _ rfl rfl;have q8:=markAt (n:=0) hm0 k m HMM.out 8 (by decide) _ rfl rfl;have q9:=markAt (n:=0) hm0 k m HMM.out 9 (by decide) _ rfl rfl;have q10:=markAt (n:=0) hm0 k m HMM.out 10 (by decide) _ rfl rfl;have q11:=markAt (n:=0) hm0 k m HMM.out 11 (by decide) _ rfl rfl;rw[Nat.add_zero]at q0;clear hs hm0 h12;obtain⟨L,hL⟩:∃L,L=accS (F.take k):=⟨_,rfl⟩;rw[←hL]at HO0 HS hll;clear hL
    go_wp2_with (at_builtin;refine wpList_append_own _ rfl (.tmp 16) (.tmp 21) 48 rfl w.heap.size 88 i0 _ 12 64 Tryz.underlying48 hi0 hz0 hz1 hz2 rfl (by decide) u3 L.length (stsV L) rfl (HO0.out.alloc _) ⟨w0.heap.size,0,none⟩ 1 1 [.int .i64 m.kind,.int .i64 m.place,.int .i64 m.thread,.int .i64 m.num,.bool m.mend,.int .i64 m.nx,.int .i64 m.el,.bool m.h0,.bool m.h1,.bool m.h2,.bool m.h3,.bool m.h4] rfl rfl ?hnews ?h1 ?h63 ?hby ?hbase ?next)
    case hnews=>exact World.news_of_block (heap_alloc_new _ _)
    case h1=>intro u hu;simp at hu;rcases hu with rfl|rfl|rfl|rfl|rfl|rfl|rfl|rfl|rfl|rfl|rfl|rfl<;>rfl
    case h63=>unfold maxLen;omega
    case hby=>omega
    case hbase=>simp;omega
    case next=>
     intro v' w2 hown2 hgrow _;have B3:Hid (Below w.heap.size w w2):=(B0.out.alloc (by omega) _).grown hgrow (by simp;omega) (fun q hq=>(HO0.out.lt q hq).1);have HO2:Hid (w2.ownsRow w.heap.size 88 12 v' (accS (F.take (k+1))).length (stsV (accS (F.take (k+1))))):=by
      show World.ownsRow _ _ _ _ _ _ _;rw[HS.out,stsV_append,List.length_append];exact hown2
     clear hown2 hgrow;go_wp2
     go_roundw
     case rel=>exact⟨k+1,by omega,by go_num,HO2.out,B3.out⟩
     case measure=>simp[intOf];omega
  ·have hkn:F.take k=F:=List.take_of_length_le (by rw[←HN.out];omega);have HO':Hid (wr.ownsRow w.heap.size 88 12 u3 (accS F).length (stsV (accS F))):=by
    have:=HO.out;rw[hkn]at this;exact this
   clear hkn HO hll hm';have hform:∃a c,u3=.slice a (accS F).length c:=by
    rcases HO'.out.2 with⟨hv,h0⟩|⟨g,cap,cur,hv,_⟩
    ·exact⟨none,0,by rw[hv,h0]⟩
    ·exact⟨_,_,hv⟩
   obtain⟨a,c,rfl⟩:=hform;go_wp2;go_ret;exact⟨⟨a,c,rfl,HO'.out⟩,HB.out⟩
set_option maxHeartbeats 1600000 in
set_option maxRecDepth 100000 in
theorem Open_any(B:Nat)(am:Option Addr)(cm:Nat)(F:List ST)(w:World)(h:w.ownsRow B 88 12 (.slice am F.length cm) F.length (stsV F))(hlen:F.length≤1000) :
  Calls Tryz.prog 45 #[.slice am F.length cm] w fun e w'=>(∃x c,e=.returned (.slice x (prL (accL (mksS F)) (accL (mksS F)).length).length c)∧w'.ownsRow w.heap.size 3 1 (.slice x (prL (accL (mksS F)) (accL (mksS F)).length).length c) (prL (accL (mksS F)) (accL (mksS F)).length).length (idV (prL (accL (mksS F)) (accL (mksS F)).length)))∧Below w.heap.size w w':=by
 obtain⟨i0,hi0,hz0,hz1,hz2⟩:=info_parts Tryz.infoIntP;have HE:Hid (accL (mksS F)=(accS F).map mkAcc):=accS_mks F;have hal:(accS F).length≤1000:=Nat.le_trans (List.length_filter_le _ _) hlen;obtain⟨L,hL⟩:∃L,L=accL (mksS F):=⟨_,rfl⟩;have HL:Hid (L=(accS F).map mkAcc):=by show _=_;rw[hL];exact HE.out
 rw[←hL];clear hL HE
 go_enter Tryz.func45,Tryz.ntmps45
 go_wp2_with fail
 refine(locksAcc_any B am cm F w h hlen).mono ?_;rintro e w1 ⟨⟨x,c,rfl,hown⟩,hb1⟩;obtain⟨G,hG⟩:∃G,G=accS F:=⟨_,rfl⟩;rw[←hG]at HL hal hown ⊢;have HR:Hid (w1.ownsRow w.heap.size 88 12 (.slice x G.length c) G.length (stsV G)):=hown;have HB1:Hid (Below w.heap.size w w1):=hb1;clear hown hb1 hG h;obtain⟨n,hn⟩:∃n,n=G.length:=⟨_,rfl⟩;have HN:Hid (n=G.length):=hn;have HNL:Hid (L.length=n):=by show _=_;rw[HL.out,hn];simp
 rw[←hn]at hal ⊢;clear hn;go_wp2
 go_loopw [4,5] (fun v iv wr=>∃i:Nat,i≤n∧iv=.int .i64 i∧wr.ownsRow w1.heap.size 3 1 v (prL L i).length (idV (prL L i))∧Below w1.heap.size w1 wr) (fun _ iv _=>n-(intOf iv).toNat)
 case atStart=>exact⟨0,Nat.zero_le _,rfl,World.ownsRow_nil _ _ _ _,Below.refl _ _⟩
 case round=>
  obtain⟨i,hi,rfl,hown,hbe⟩:=hrel;have HO:Hid (wr.ownsRow w1.heap.size 3 1 u4 (prL L i).length (idV (prL L i))):=hown;have HB:Hid (Below w1.heap.size w1 wr):=hbe;have hpl:=prL_len L i (by rw[HNL.out];exact hal);clear hown hbe
  by_cases hlt:i<n
  ·obtain⟨ma,hma⟩:∃m,G[i]?=some m:=⟨G[i]'(by rw[←HN.out];exact hlt),List.getElem?_eq_getElem _⟩;have HMA:Hid (G[i]?=some ma):=hma;clear hma;have hii:decide ((i:Int)<(n:Int))=true:=by simp;omega
   obtain⟨wa,rfl⟩:∃wa,wa=wr:=⟨_,rfl⟩;go_wp2
   go_loopw [4,6] (fun v kv wr=>∃q:Nat,i+1+q≤n∧kv=.int .i64 (i+1+q:Nat)∧wr.ownsRow w1.heap.size 3 1 v (prL L i++prI L i q).length (idV (prL L i++prI L i q))∧Below w1.heap.size w1 wr) (fun _ kv _=>n-(intOf kv).toNat)
   case atStart=>exact⟨0,by omega,by go_num,by simpa[prI]using HO.out,HB.out⟩
   case round=>
    obtain⟨q,hq,rfl,hown,hbe⟩:=hrel;obtain⟨k,hk⟩:∃k,k=i+1+q:=⟨_,rfl⟩;rw[←hk]at hq ⊢;have HKK:Hid (k=i+1+q):=hk;have HO2:Hid (wr.ownsRow w1.heap.size 3 1 u4 (prL L i++prI L i q).length (idV (prL L i++prI L i q))):=hown;have HB2:Hid (Below w1.heap.size w1 wr):=hbe;have hsz:=hbe.size;have hlen2:(prL L i++prI L i q).length≤3000000:=by
     have:=prI_len L i q;rw[List.length_append];omega
    clear hown
    by_cases hkn:k<n
    ·obtain⟨mb,hmb⟩:∃m,G[k]?=some m:=⟨G[k]'(by rw[←HN.out];exact hkn),List.getElem?_eq_getElem _⟩;have HOP:Hid (opAt L i (i+1+q)=opMK (mkAcc ma) (mkAcc mb)):=by
      show opAt L i (i+1+q)=_;have e1:L[i]?=some (mkAcc ma):=by rw[HL.out,List.getElem?_map,HMA.out];rfl
      have e2:L[k]?=some (mkAcc mb):=by rw[HL.out,List.getElem?_map,hmb];rfl
      rw[←hk,opAt,e1,e2]
     have hrow:=ownsRow_later HR.out hbe;obtain⟨g,cap',hv,_,_⟩:=HR.out.form (by rw[←HN.out];omega);rw[←HN.out]at hv;cases hv;have p0:=markAt (n:=0) hrow i ma HMA.out 0 (by decide) _ rfl rfl;have p1:=markAt (n:=0) hrow i ma HMA.out 1 (by decide) _ rfl rfl;have p2:=markAt (n:=0) hrow i ma HMA.out 2 (by decide) _ rfl rfl;have p3:=markAt (n:=0) hrow i ma HMA.out 3 (by decide) _ rfl rfl;have p4:=markAt (n:=0) hrow i ma HMA.out 4 (by decide) _ rfl rfl;have p5:=markAt (n:=0) hrow i ma HMA.out 5 (by decide) _ rfl rfl;have p6:=markAt (n:=0) hrow i ma HMA.out 6 (by decide) _ rfl rfl;have p7:=markAt (n:=0) hrow i ma HMA.out 7 (by decide) _ rfl rfl;have p8:=markAt (n:=0) hrow i ma HMA.out 8 (by decide) _ rfl rfl;have p9:=markAt (n:=0) hrow i ma HMA.out 9 (by decide) _ rfl rfl;have p10:=markAt (n:=0) hrow i ma HMA.out 10 (by decide) _ rfl rfl;have p11:=markAt (n:=0) hrow i ma HMA.out 11 (by decide) _ rfl rfl;have r0:=markAt (n:=0) hrow k mb hmb 0 (by decide) _ rfl rfl;have r1:=markAt (n:=0) hrow k mb hmb 1 (by decide) _ rfl rfl;have r2:=markAt (n:=0) hrow k mb hmb 2 (by decide) _ rfl rfl;have r3:=markAt (n:=0) hrow k mb hmb 3 (by decide) _ rfl rfl;have r4:=markAt (n:=0) hrow k mb hmb 4 (by decide) _ rfl rfl;have r5:=markAt (n:=0) hrow k mb hmb 5 (by decide) _ rfl rfl;have r6:=markAt (n:=0) hrow k mb hmb 6 (by decide) _ rfl rfl;have r7:=markAt (n:=0) hrow k mb hmb 7 (by decide) _ rfl rfl;have r8:=markAt (n:=0) hrow k mb hmb 8 (by decide) _ rfl rfl;have r9:=markAt (n:=0) hrow k mb hmb 9 (by decide) _ rfl rfl;have r10:=markAt (n:=0) hrow k mb hmb 10 (by decide) _ rfl rfl;have r11:=markAt (n:=0) hrow k mb hmb 11 (by decide) _ rfl rfl;rw[Nat.add_zero]at p0 r0;have hik:i<k:=by omega
     clear hrow hmb hbe hk;have hkn':(k:Int)<(n:Int):=by omega
     have hin':(i:Int)<(n:Int):=by omega
     have hkd:decide ((k:Int)<(n:Int))=true:=by simp;omega
     obtain⟨P,hP⟩:∃P,P=prL L i++prI L i q:=⟨_,rfl⟩;have HP:Hid (P=prL L i++prI L i q):=hP;rw[←hP]at HO2 hlen2;clear hP;have HPN:Hid (prL L i++prI L i (q+1)=P++(if opMK (mkAcc ma) (mkAcc mb)then [i,k]else [])):=by
      show _=_;rw[prI,HOP.out,HP.out,←HKK.out,List.append_assoc]
     have OA:Hid (∀wx,Calls Tryz.prog 66 #[.agg #[.int .i64 ma.kind,.int .i64 ma.place,.int .i64 ma.thread,.int .i64 ma.num,.bool ma.mend,.int .i64 ma.nx,.int .i64 ma.el,.bool ma.h0,.bool ma.h1,.bool ma.h2,.bool ma.h3,.bool ma.h4],.agg #[.int .i64 mb.kind,.int .i64 mb.place,.int .i64 mb.thread,.int .i64 mb.num,.bool mb.mend,.int .i64 mb.nx,.int .i64 mb.el,.bool mb.h0,.bool mb.h1,.bool mb.h2,.bool mb.h3,.bool mb.h4]] wx fun e w'=>e=.returned (.bool (opMK (mkAcc ma) (mkAcc mb)))∧Below wx.heap.size wx w'):=fun wx=>open_any ma mb wx
     obtain⟨R,hR⟩:∃R,R=opMK (mkAcc ma) (mkAcc mb):=⟨_,rfl⟩;rw[←hR]at HPN OA;clear hR HOP
     go_wp2_with fail
     go_region_with (
      go_at_call 66
      refine(OA.out _).mono ?_
      rintro e w2 ⟨rfl,hb2⟩)
     all_goals
      have HB3:Hid (Below w1.heap.size w1 w2):=HB2.out.trans ((below_drewN' _ _ 1).trans (hb2.mono (by simp;omega)));have HO3:Hid (w2.ownsRow w1.heap.size 3 1 u4 P.length (idV P)):=ownsRow_later (ownsRow_later HO2.out (below_drewN' _ _ 1)) hb2;have hsz3:=HB3.out.size;clear hb2 p0 p1 p2 p3 p4 p5 p6 p7 p8 p9 p10 p11 r0 r1 r2 r3 r4 r5 r6 r7 r8 r9 r10 r11;cases R with
      | false=>
       have HPN2:Hid (prL L i++prI L i (q+1)=P):=by
        show _=_;rw[HPN.out];simp
       go_wp2;have hkk:=HKK.out;exact⟨⟨q+1,by omega,by rw[hkk];go_num,by rw[HPN2.out];exact HO3.out,HB3.out⟩,by simp[intOf];omega⟩
      | true=>
       have HPN2:Hid (idV (prL L i++prI L i (q+1))=idV P++[.int .i64 (i:Int),.int .i64 (k:Int)]∧(prL L i++prI L i (q+1)).length=P.length+2):=by
        show _∧_;rw[HPN.out];simp[idV]
       go_wp2_with (at_builtin;refine wpList_append_own _ rfl (.tmp 32) (.tmp 35) 30 rfl w1.heap.size 3 i0 _ 1 8 Tryz.underlying30 hi0 hz0 hz1 hz2 rfl (by decide) u4 P.length (idV P) rfl (HO3.out.alloc _) ⟨w2.heap.size,0,none⟩ 2 2 [.int .i64 (i:Int),.int .i64 (k:Int)] rfl rfl (World.news_of_block (heap_alloc_new _ _)) ?h1 ?h63 ?hby ?hbase ?next)
       case h1=>exact⟨rfl,rfl⟩
       case h63=>unfold maxLen;omega
       case hby=>omega
       case hbase=>omega
       case next=>
        intro v2 w3 hown2 hgrow2 _;have HB4:Hid (Below w1.heap.size w1 w3):=(HB3.out.alloc (by omega) _).grown hgrow2 (by simp;omega) (fun q hq=>(HO3.out.lt q hq).1);have HO4:Hid (w3.ownsRow w1.heap.size 3 1 v2 (prL L i++prI L i (q+1)).length (idV (prL L i++prI L i (q+1)))):=by
         show World.ownsRow _ _ _ _ _ _ _;rw[HPN2.out.1,HPN2.out.2];exact hown2
        clear hown2 hgrow2;go_wp2;have hkk:=HKK.out;exact⟨⟨q+1,by omega,by rw[hkk];go_num,HO4.out,HB4.out⟩,by simp[intOf];omega⟩
    ·have hqn:q=n-(i+1):=by omega
     subst hqn;have HPN:Hid (wr.ownsRow w1.heap.size 3 1 u4 (prL L (i+1)).length (idV (prL L (i+1)))):=by
      show World.ownsRow _ _ _ _ _ _ _;rw[prL,HNL.out];exact HO2.out
     clear hbe;go_wp2;exact⟨⟨i+1,by omega,by go_num,HPN.out,HB2.out⟩,by simp[intOf];omega⟩
  ·have hin:i=n:=by omega
   subst hin;have hform:∃a c,u4=.slice a (prL L i).length c:=by
    rcases HO.out.2 with⟨hv,h0⟩|⟨g,cap,cur,hv,_⟩
    ·exact⟨none,0,by rw[hv,h0]⟩
    ·exact⟨_,_,hv⟩
   obtain⟨a',c',rfl⟩:=hform;have HH:Hid (wr.ownsRow w.heap.size 3 1 (.slice a' (prL L L.length).length c') (prL L L.length).length (idV (prL L L.length))):=by
    show World.ownsRow _ _ _ _ _ _ _;rw[HNL.out];exact ownsRow_lower HO.out HB1.out.size
   have HBF:Hid (Below w.heap.size w wr):=HB1.out.trans (HB.out.mono HB1.out.size);go_wp2;go_ret;exact⟨⟨a',c',by rw[HNL.out];rfl,HH.out⟩,HBF.out⟩
theorem Tryz.infoInts:(Tryz.prog.info? 30).map (fun i=>(i.zero,i.size,i.bytes))=some (some (.slice none 0 0),1,24):=by kernel_rfl
def imsV(k c:Nat):List Value:=List.replicate c (.int .i64 (1048576+(k:Int)))
structure BB(w:World)(bk:Nat)(gs:List (Option Addr×Nat))(ga:Option Addr)(gc:Nat)(fs:List (Option Addr×Nat))(aa:Option Addr)(ca:Nat):Prop where
 lt:bk<w.heap.size
 c0:w.cell? ⟨bk,0,none⟩=some (.slice ga gs.length gc)
 c1:w.cell? ⟨bk,1,none⟩=some (.slice aa fs.length ca)
 f0:w.frozen? ⟨bk,0,none⟩=false
 f1:w.frozen? ⟨bk,1,none⟩=false
 irow:w.ownsRow (bk+1) 30 1 (.slice ga gs.length gc) gs.length (gs.map fun f=>.slice f.1 f.2 f.2)
 arow:w.ownsRow (bk+1) 45 1 (.slice aa fs.length ca) fs.length (fs.map fun f=>.slice f.1 f.2 f.2)
 ieach:∀k f,gs[k]?=some f→w.ownsRow (bk+1) 3 1 (.slice f.1 f.2 f.2) f.2 (imsV k f.2)
 aeach:∀k f,fs[k]?=some f→w.ownsRow (bk+1) 47 5 (.slice f.1 f.2 f.2) f.2 (bmsV k f.2)
theorem BB.below{w w':World}{bk:Nat}{gs ga gc fs aa ca}(h:BB w bk gs ga gc fs aa ca)(hb:Below w.heap.size w w'):BB w' bk gs ga gc fs aa ca:=
 ⟨by have:=hb.size;have:=h.lt;omega,(hb.cell (p:=⟨bk,0,none⟩) h.lt).trans h.c0,(hb.cell (p:=⟨bk,1,none⟩) h.lt).trans h.c1,(hb.frozen (p:=⟨bk,0,none⟩) h.lt).trans h.f0,(hb.frozen (p:=⟨bk,1,none⟩) h.lt).trans h.f1,ownsRow_later h.irow hb,ownsRow_later h.arow hb,fun k f hf=>ownsRow_later (h.ieach k f hf) hb,fun k f hf=>ownsRow_later (h.aeach k f hf) hb⟩
theorem BB.start(w:World):BB (w.alloc (.cells #[.slice none 0 0,.slice none 0 0] 29)) w.heap.size [] none 0 [] none 0:=by
 refine⟨by simp,?_,?_,World.frozen?_alloc_at _ _ _ _ rfl,World.frozen?_alloc_at _ _ _ _ rfl,World.ownsRow_nil _ _ _ _,World.ownsRow_nil _ _ _ _,fun k f hf=>by simp at hf,fun k f hf=>by simp at hf⟩
 all_goals (rw[World.cell?_alloc_at _ _ _ _ rfl];rfl)
def Apart(gs:List (Option Addr×Nat))(v:Value):Prop:=∀f∈gs,v.ownBlock=none∨v.ownBlock≠(Value.slice f.1 f.2 f.2).ownBlock
theorem apart_of{w:World}{bk B:Nat}{gs ga gc fs aa ca}(h:BB w bk gs ga gc fs aa ca)(hB:w.heap.size≤B){v:Value}(hv:∀g,v.ownBlock=some g→B≤g):Apart gs v:=by
 intro f hf;obtain⟨i,hi⟩:=List.getElem?_of_mem hf;cases hb:v.ownBlock with
 | none=>exact .inl rfl
 | some g=>
  right;intro e;have h1:=((h.ieach i f hi).lt g e.symm).2;have h2:=hv g hb;omega
theorem BB.stored{w w':World}{bk:Nat}{gs ga gc fs aa ca}(h:BB w bk gs ga gc fs aa ca){g B c n:Nat}{x:Nat}{xs:List Value}(hg:w.grownBy w' (some g))(hr:w.ownsRow B 3 1 (.slice (some ⟨g,x,none⟩) n c) n xs)(hB:bk<B)
  (hap:Apart gs (.slice (some ⟨g,x,none⟩) n c)):BB w' bk gs ga gc fs aa ca:=by
 have hob:(Value.slice (some ⟨g,x,none⟩) n c).ownBlock=some g:=rfl;have hgB:B≤g:=(hr.lt g hob).1;have flip:∀{v:Value},(v.ownBlock=none∨v.ownBlock≠(Value.slice (some ⟨g,x,none⟩) n c).ownBlock)→(v.ownBlock=none∨v.ownBlock≠some g):=fun h=>by rw[hob]at h;exact h
 refine⟨by have:=hg.size;have:=h.lt;omega,?_,?_,?_,?_,?_,?_,?_,?_⟩
 ·exact(hg.cell_far ⟨bk,0,none⟩ h.lt (by simp;omega)).trans h.c0
 ·exact(hg.cell_far ⟨bk,1,none⟩ h.lt (by simp;omega)).trans h.c1
 ·exact(hg.frozen_far ⟨bk,0,none⟩ h.lt (by simp;omega)).trans h.f0
 ·exact(hg.frozen_far ⟨bk,1,none⟩ h.lt (by simp;omega)).trans h.f1
 ·exact h.irow.kept hg (flip (rows_apart h.irow hr (by decide)))
 ·exact h.arow.kept hg (flip (rows_apart h.arow hr (by decide)))
 ·intro k f hf;refine(h.ieach k f hf).kept hg ?_;rcases hap f (List.mem_of_getElem? hf)with h1|h1
  ·rw[hob]at h1;cases h1
  ·right;rw[←hob];exact fun e=>h1 e.symm
 ·intro k f hf;exact(h.aeach k f hf).kept hg (flip (rows_apart (h.aeach k f hf) hr (by decide)))
theorem BB.added{W w1:World}{bk:Nat}{gs:List (Option Addr×Nat)}{ga:Option Addr}{gc:Nat}{fs aa ca}{x:Option Addr}{c g cap:Nat}{o:Obj}(h:BB W bk gs ga gc fs aa ca)
  (hf:W.ownsRow (bk+1) 3 1 (.slice x c c) c (imsV gs.length c))
  (hown:w1.ownsRow (bk+1) 30 1 (.slice (some ⟨g,0,none⟩) (gs.length+1) cap) (gs.length+1) ((gs.map fun f=>.slice f.1 f.2 f.2)++[.slice x c c]))
  (hgrow:(W.alloc o).grownBy w1 (Value.slice ga gs.length gc).ownBlock) :
  BB (w1.setCell ⟨bk,0,none⟩ (.slice (some ⟨g,0,none⟩) (gs.length+1) cap)) bk (gs++[(x,c)]) (some ⟨g,0,none⟩) cap fs aa ca:=by
 have hlt:=h.lt;have hne:some bk≠(Value.slice ga gs.length gc).ownBlock:=low_ne h.irow;have k0:=(hgrow.cell_far ⟨bk,0,none⟩ (by simp;omega) hne).trans ((World.cell?_alloc_past _ _ _ hlt).trans h.c0);have k1:=(hgrow.cell_far ⟨bk,1,none⟩ (by simp;omega) hne).trans ((World.cell?_alloc_past _ _ _ hlt).trans h.c1);have z0:=(hgrow.frozen_far ⟨bk,0,none⟩ (by simp;omega) hne).trans ((World.frozen?_alloc_past _ _ _ hlt).trans h.f0);have z1:=(hgrow.frozen_far ⟨bk,1,none⟩ (by simp;omega) hne).trans ((World.frozen?_alloc_past _ _ _ hlt).trans h.f1);have hb1:bk<w1.heap.size:=by have:=hgrow.size;simp at this;omega
 have hel:∀k f,(gs++[(x,c)])[k]?=some f→w1.ownsRow (bk+1) 3 1 (.slice f.1 f.2 f.2) f.2 (imsV k f.2):=by
  intro k f hk;have hW:W.ownsRow (bk+1) 3 1 (.slice f.1 f.2 f.2) f.2 (imsV k f.2):=by
   by_cases hkl:k<gs.length
   ·rw[List.getElem?_append_left hkl]at hk;exact h.ieach k f hk
   ·rw[List.getElem?_append_right (by omega)]at hk;have hk0:k-gs.length=0:=by
     have:=(List.getElem?_eq_some_iff.1 hk).1;simp at this;omega
    rw[hk0]at hk;simp at hk;subst hk;have:k=gs.length:=by omega
    subst this;exact hf
  exact(hW.alloc o).kept hgrow (rows_apart hW h.irow (by decide))
 have har:w1.ownsRow (bk+1) 45 1 (.slice aa fs.length ca) fs.length (fs.map fun f=>.slice f.1 f.2 f.2):=(h.arow.alloc o).kept hgrow (rows_apart h.arow h.irow (by decide));have hae:∀k f,fs[k]?=some f→w1.ownsRow (bk+1) 47 5 (.slice f.1 f.2 f.2) f.2 (bmsV k f.2):=fun k f hk=>((h.aeach k f hk).alloc o).kept hgrow (rows_apart (h.aeach k f hk) h.irow (by decide))
 clear hgrow hf h;refine⟨by simpa[World.setCell]using hb1,?_,by go_simp,by go_simp,by go_simp,?_,?_,?_,?_⟩
 ·rw[List.length_append];exact cell_same k0
 ·rw[List.length_append,List.map_append];exact ownsRow_setCell_below hown (by simp) _
 ·exact ownsRow_setCell_below har (by simp) _
 ·intro k f hk;exact ownsRow_setCell_below (hel k f hk) (by simp) _
 ·intro k f hk;exact ownsRow_setCell_below (hae k f hk) (by simp) _
def IFilled(xs:List Value)(N k:Nat):Prop:=∀i,i<k→xs[i]?=some (.int .i64 (1048576+(N:Int)))
theorem ifilled_all{xs:List Value}{N c:Nat}(h:IFilled xs N c)(hl:xs.length=c):xs=imsV N c:=by
 apply List.ext_getElem?;intro q
 by_cases hq:q<c
 ·rw[h q hq,imsV,List.getElem?_replicate,if_pos hq]
 ·rw[List.getElem?_eq_none (by omega),List.getElem?_eq_none (by simp[imsV];omega)]
theorem ifilled_step{xs:List Value}{N k c:Nat}(h:IFilled xs N k)(hl:xs.length=c)(hk:k<c):IFilled (xs.set k (.int .i64 (1048576+(N:Int)))) N (k+1):=by
 intro i hi;rw[List.getElem?_set]
 by_cases e:k=i
 ·subst e;rw[if_pos rfl,if_pos (by omega)]
 ·rw[if_neg e];exact h i (by omega)
def TookOut(w w':World)(bk:Nat)(gs:List (Option Addr×Nat))(ga:Option Addr)(gc:Nat)(fs:List (Option Addr×Nat))(aa:Option Addr)(ca:Nat)(x:Option Addr)(n0 c:Nat):Prop:=
 (∃ga' gc',BB w' bk (gs++[(x,c)]) ga' gc' fs aa ca)∧Below bk w w' ∧
 (∀v n ys,w.ownsRow (bk+1) 3 1 v n ys→(v.ownBlock=none∨v.ownBlock≠(Value.slice x n0 c).ownBlock)→w'.ownsRow (bk+1) 3 1 v n ys) ∧
 (∀q,q<w.heap.size→q≠bk→some q≠(Value.slice x n0 c).ownBlock→some q≠(Value.slice ga gs.length gc).ownBlock→w'.heap[q]?=w.heap[q]?)
set_option maxHeartbeats 3200000 in
set_option maxRecDepth 100000 in
theorem bookTake_nil(bk:Nat)(gs:List (Option Addr×Nat))(ga:Option Addr)(gc:Nat)(fs:List (Option Addr×Nat))(aa:Option Addr)(ca:Nat)(w:World)(h:BB w bk gs ga gc fs aa ca)(hb:(gs.length+1)*24≤140737488355328) :
  Calls Tryz.prog 31 #[.pointer (some ⟨bk,0,none⟩),.slice none 0 0] w fun e w'=>e=.returned (.tuple #[])∧TookOut w w' bk gs ga gc fs aa ca none 0 0:=by
 obtain⟨i0,hi,hz0,hz1,hz2⟩:=info_parts Tryz.infoInts;have HK:Hid (BB w bk gs ga gc fs aa ca):=h;have c0:=h.c0;have f0:=h.f0;have hlt:=h.lt;clear h;obtain⟨n,hn⟩:∃n,n=gs.length:=⟨_,rfl⟩;have HN:Hid (n=gs.length):=hn;rw[←hn]at c0 hb;have HR:Hid (w.ownsRow (bk+1) 30 1 (.slice ga n gc) n (gs.map fun f=>.slice f.1 f.2 f.2)):=by rw[hn];exact HK.out.irow
 clear hn
 go_enter Tryz.func31,Tryz.ntmps31
 go_wp2;refine wp_loop_rounds 1 ?_;rw[rounds_succ]
 go_wp2_with (at_builtin;refine wpList_append_lies _ (by rfl) (.tmp 29) (.tmp 31) 26 (by rfl) (bk+1) 30 i0 _ 1 24 Tryz.underlying26 hi hz0 hz1 hz2 rfl (by decide) (.slice ga n gc) n (gs.map fun f=>.slice f.1 f.2 f.2) (by rfl) (HR.out.alloc _) ⟨w.heap.size,0,none⟩ 1 1 [.slice none 0 0] (by rfl) rfl ?hnews ?h1 (by decide) ?h63 ?hby ?hbase (w.heap.size+1) ?hH ?next)
 case hnews=>exact World.news_of_block (heap_alloc_new _ _)
 case h1=>intro u hu;simp at hu;subst hu;rfl
 case h63=>unfold maxLen;omega
 case hby=>omega
 case hbase=>simp;omega
 case hH=>simp
 case next=>
  intro g cap w1 hown hgrow hat hlt1;have nb:some bk≠(Value.slice ga n gc).ownBlock:=low_ne HR.out;have k1:=(hgrow.cell_far ⟨bk,0,none⟩ (by simp;omega) nb).trans ((World.cell?_alloc_past _ _ _ hlt).trans c0);have z1:=(hgrow.frozen_far ⟨bk,0,none⟩ (by simp;omega) nb).trans ((World.frozen?_alloc_past _ _ _ hlt).trans f0);have hbel:Hid (Below bk w w1):=((Below.refl bk w).alloc (by omega) _).grown hgrow (by simp;omega) (fun q hq=>by have:=(HR.out.lt q hq).1;omega);have BQ:Hid (BB (w1.setCell ⟨bk,0,none⟩ (.slice (some ⟨g,0,none⟩) (n+1) cap)) bk (gs++[(none,0)]) (some ⟨g,0,none⟩) cap fs aa ca):=by
   show BB (w1.setCell ⟨bk,0,none⟩ (.slice (some ⟨g,0,none⟩) (n+1) cap)) bk (gs++[(none,0)]) (some ⟨g,0,none⟩) cap fs aa ca;rw[HN.out]at hown hgrow ⊢;exact HK.out.added (World.ownsRow_nil _ _ _ _) hown hgrow
  have KP:Hid (∀v m ys,w.ownsRow (bk+1) 3 1 v m ys→(w1.setCell ⟨bk,0,none⟩ (.slice (some ⟨g,0,none⟩) (n+1) cap)).ownsRow (bk+1) 3 1 v m ys):=fun v m ys hr=>
   ownsRow_setCell_below ((hr.alloc _).kept hgrow (rows_apart hr HR.out (by decide))) (by simp) _
  have FR:Hid (∀q,q<w.heap.size→q≠bk→some q≠(Value.slice ga n gc).ownBlock→(w1.setCell ⟨bk,0,none⟩ (.slice (some ⟨g,0,none⟩) (n+1) cap)).heap[q]?=w.heap[q]?):=fun q h1 h2 h3=>by
   rw[heap_setCell_other _ _ _ _ (by simpa using h2),hgrow.block q (by simp;omega) h3,Below.heap_alloc _ _ _ h1]
  clear hown hgrow hat nb;go_wp2;go_end0;exact⟨rfl,⟨_,_,BQ.out⟩,hbel.out.setCell (by simp) _,fun v m ys hr _=>KP.out v m ys hr,fun q h1 h2 _ h3=>FR.out q h1 h2 (by rw[HN.out];exact h3)⟩
set_option maxHeartbeats 3200000 in
set_option maxRecDepth 100000 in
theorem bookTake_some(bk B g n0 c:Nat)(xs:List Value)(gs:List (Option Addr×Nat))(ga:Option Addr)(gc:Nat)(fs:List (Option Addr×Nat))(aa:Option Addr)(ca:Nat)(w:World)(h:BB w bk gs ga gc fs aa ca)(hb:(gs.length+1)*24≤140737488355328)
  (hl:w.ownsRow B 3 1 (.slice (some ⟨g,0,none⟩) n0 c) n0 xs)(hB:bk<B)(hap:Apart gs (.slice (some ⟨g,0,none⟩) n0 c)) :
  Calls Tryz.prog 31 #[.pointer (some ⟨bk,0,none⟩),.slice (some ⟨g,0,none⟩) n0 c] w fun e w'=>e=.returned (.tuple #[])∧TookOut w w' bk gs ga gc fs aa ca (some ⟨g,0,none⟩) n0 c:=by
 obtain⟨i0,hi,hz0,hz1,hz2⟩:=info_parts Tryz.infoInts;have HK:Hid (BB w bk gs ga gc fs aa ca):=h;obtain⟨ys,hys,hn0⟩:=row_full hl;have hgB:B≤g:=(hl.lt g rfl).1;have hcm:=row_cap hys;unfold maxLen at hcm;clear hl h;have HAP:Hid (Apart gs (.slice (some ⟨g,0,none⟩) c c)):=hap;clear hap;obtain⟨n,hn⟩:∃n,n=gs.length:=⟨_,rfl⟩;have HN:Hid (n=gs.length):=hn;rw[←hn]at hb;have hn24:n≤140737488355328:=by omega
 clear hn;have HYS:Hid (w.ownsRow B 3 1 (.slice (some ⟨g,0,none⟩) c c) c ys):=hys;clear hys
 go_enter Tryz.func31,Tryz.ntmps31
 go_wp2
 go_loopw [5] (fun i wr=>∃(k:Nat) (zs:List Value),k≤c∧i=.int .i64 k∧wr.ownsRow B 3 1 (.slice (some ⟨g,0,none⟩) c c) c zs∧IFilled zs n k∧BB wr bk gs ga gc fs aa ca∧Below bk w wr∧w.grownBy wr (some g)) (fun i _=>c-(intOf i).toNat)
 case atStart=>exact⟨0,ys,Nat.zero_le _,rfl,HYS.out,fun i hi=>by omega,HK.out,Below.refl _ _,⟨rfl,rfl,rfl,Nat.le_refl _,fun _ _ _=>rfl⟩⟩
 case round=>
  obtain⟨k,zs,hk,rfl,hzs,hfill,hbk,hbe,hgr⟩:=hrel;have c0:=hbk.c0;have f0:=hbk.f0;have hlt:=hbk.lt;rw[←HN.out]at c0;have HGR:Hid (w.grownBy wr (some g)):=hgr;clear hgr
  by_cases hkc:k<c
  ·have hzl:zs.length=c:=by simpa using hzs.1
   obtain⟨e0,y0⟩:∃v,wr.cell? ⟨g,k,none⟩=some v:=⟨_,(hzs.cellAt k (by omega)).trans (List.getElem?_eq_getElem (by omega))⟩;have x0:=hzs.frozenAt k;obtain⟨st,gr⟩:=hzs.stored k (.int .i64 (1048576+(n:Int)));have hbk2:=hbk.stored gr hzs hB HAP.out;have hbe2:=hbe.trans (Below.trans_grown gr (show bk≤g by omega) (by omega));have hf2:=ifilled_step (N:=n) hfill hzl hkc;have hg2:=grown_twice HGR.out gr;have ST:Hid (_∧_):=⟨st,hf2⟩;have BK2:Hid (_∧_):=⟨hbk2,hbe2⟩;have HG2:Hid _:=hg2;clear st gr hbk2 hbe2 hf2 hzs hfill hbk hbe hzl hg2;go_wp2;exact⟨⟨k+1,_,by omega,by go_num,ST.out.1,ST.out.2,BK2.out.1,BK2.out.2,HG2.out⟩,by simp[intOf];omega⟩
  ·have hkc':k=c:=by omega
   subst hkc';have hzz:=ifilled_all hfill (by simpa using hzs.1);have HF:Hid (wr.ownsRow (bk+1) 3 1 (.slice (some ⟨g,0,none⟩) k k) k (imsV gs.length k)):=by
    show wr.ownsRow (bk+1) 3 1 (.slice (some ⟨g,0,none⟩) k k) k (imsV gs.length k);rw[←HN.out,←hzz];exact ownsRow_lower hzs (by omega)
   have HBK:Hid (BB wr bk gs ga gc fs aa ca):=hbk;have HBE:Hid (Below bk w wr):=hbe;have HR:Hid (wr.ownsRow (bk+1) 30 1 (.slice ga n gc) n (gs.map fun f=>.slice f.1 f.2 f.2)):=by
    show wr.ownsRow (bk+1) 30 1 (.slice ga n gc) n (gs.map fun f=>.slice f.1 f.2 f.2);rw[HN.out];exact hbk.irow
   clear hzz hzs hfill hbk hbe
   go_wp2_with (at_builtin;refine wpList_append_lies _ (by rfl) (.tmp 29) (.tmp 31) 26 (by rfl) (bk+1) 30 i0 _ 1 24 Tryz.underlying26 hi hz0 hz1 hz2 rfl (by decide) (.slice ga n gc) n (gs.map fun f=>.slice f.1 f.2 f.2) (by rfl) (HR.out.alloc _) ⟨wr.heap.size,0,none⟩ 1 1 [.slice (some ⟨g,0,none⟩) k k] (by rfl) rfl ?hnews ?h1 (by decide) ?h63 ?hby ?hbase (wr.heap.size+1) ?hH ?next)
   case hnews=>exact World.news_of_block (heap_alloc_new _ _)
   case h1=>intro u hu;simp at hu;subst hu;rfl
   case h63=>unfold maxLen;omega
   case hby=>omega
   case hbase=>simp;omega
   case hH=>simp
   case next=>
    intro g2 cap w1 hown hgrow hat hlt1;have nb:some bk≠(Value.slice ga n gc).ownBlock:=low_ne HR.out;have k1:=(hgrow.cell_far ⟨bk,0,none⟩ (by simp;omega) nb).trans ((World.cell?_alloc_past _ _ _ hlt).trans c0);have z1:=(hgrow.frozen_far ⟨bk,0,none⟩ (by simp;omega) nb).trans ((World.frozen?_alloc_past _ _ _ hlt).trans f0);have hbel:Hid (Below bk w w1):=(HBE.out.alloc (by omega) _).grown hgrow (by simp;omega) (fun q hq=>by have:=(HR.out.lt q hq).1;omega);have BQ:Hid (BB (w1.setCell ⟨bk,0,none⟩ (.slice (some ⟨g2,0,none⟩) (n+1) cap)) bk (gs++[(some ⟨g,0,none⟩,k)]) (some ⟨g2,0,none⟩) cap fs aa ca):=by
     show BB (w1.setCell ⟨bk,0,none⟩ (.slice (some ⟨g2,0,none⟩) (n+1) cap)) bk (gs++[(some ⟨g,0,none⟩,k)]) (some ⟨g2,0,none⟩) cap fs aa ca;rw[HN.out]at hown hgrow ⊢;exact HBK.out.added HF.out hown hgrow
    have KP:Hid (∀v m ys,w.ownsRow (bk+1) 3 1 v m ys→(v.ownBlock=none∨v.ownBlock≠some g)→(w1.setCell ⟨bk,0,none⟩ (.slice (some ⟨g2,0,none⟩) (n+1) cap)).ownsRow (bk+1) 3 1 v m ys):=fun v m ys hr hne=>by
     have h1:=hr.kept HGR.out hne;exact ownsRow_setCell_below ((h1.alloc _).kept hgrow (rows_apart h1 HR.out (by decide))) (by simp) _
    have FR:Hid (∀q,q<w.heap.size→q≠bk→some q≠some g→some q≠(Value.slice ga n gc).ownBlock→(w1.setCell ⟨bk,0,none⟩ (.slice (some ⟨g2,0,none⟩) (n+1) cap)).heap[q]?=w.heap[q]?):=fun q h1 h2 h4 h3=>by
     have hs:=HGR.out.size;rw[heap_setCell_other _ _ _ _ (by simpa using h2),hgrow.block q (by simp;omega) h3,Below.heap_alloc _ _ _ (by omega),HGR.out.block q h1 h4]
    clear hown hgrow hat nb;go_wp2;go_end0;exact⟨rfl,⟨_,_,BQ.out⟩,hbel.out.setCell (by simp) _,fun v m ys hr hne=>KP.out v m ys hr hne,fun q h1 h2 h4 h3=>FR.out q h1 h2 h4 (by rw[HN.out];exact h3)⟩
theorem bookTake_any(bk B n0 c:Nat)(x:Option Addr)(xs:List Value)(gs:List (Option Addr×Nat))(ga:Option Addr)(gc:Nat)(fs:List (Option Addr×Nat))(aa:Option Addr)(ca:Nat)(w:World)(h:BB w bk gs ga gc fs aa ca)(hb:(gs.length+1)*24≤140737488355328)
  (hl:w.ownsRow B 3 1 (.slice x n0 c) n0 xs)(hB:bk<B)(hap:Apart gs (.slice x n0 c)) :
  Calls Tryz.prog 31 #[.pointer (some ⟨bk,0,none⟩),.slice x n0 c] w fun e w'=>e=.returned (.tuple #[])∧TookOut w w' bk gs ga gc fs aa ca x n0 c:=by
 have hl':=hl;rcases hl.2 with⟨hv,hn⟩|⟨g,cap,cur,hv,_⟩
 ·cases hv;exact bookTake_nil bk gs ga gc fs aa ca w h hb
 ·cases hv;exact bookTake_some bk B g n0 c xs gs ga gc fs aa ca w h hb hl' hB hap
set_option maxHeartbeats 3200000 in
set_option maxRecDepth 100000 in
theorem holds_bb(bk:Nat)(gs:List (Option Addr×Nat))(ga:Option Addr)(gc:Nat)(fs:List (Option Addr×Nat))(aa:Option Addr)(ca:Nat)(w:World)(h:BB w bk gs ga gc fs aa ca)(hgs:gs.length≤140737488355328)(hfs:fs.length≤140737488355328) :
  Calls Tryz.prog 6 #[.pointer (some ⟨bk,0,none⟩)] w fun e w'=>e=.returned (.bool true)∧Below w.heap.size w w':=by
 have HK:Hid (BB w bk gs ga gc fs aa ca):=h;clear h;obtain⟨m,hm⟩:∃m,m=gs.length:=⟨_,rfl⟩;have HM:Hid (m=gs.length):=hm;rw[←hm]at hgs;clear hm;obtain⟨n,hn⟩:∃n,n=fs.length:=⟨_,rfl⟩;have HN:Hid (n=fs.length):=hn;rw[←hn]at hfs;clear hn
 go_enter Tryz.func6,Tryz.ntmps6
 go_wp2
 go_loopw [3] (fun i wr=>∃k:Nat,k≤m∧i=.int .i64 k∧Below w.heap.size w wr) (fun i _=>m-(intOf i).toNat)
 case atStart=>exact⟨0,Nat.zero_le _,rfl,Below.refl _ _⟩
 case round=>
  obtain⟨k,hk,rfl,hbe⟩:=hrel;have hK:=HK.out.below hbe;have d0:=hK.c0;rw[←HM.out]at d0;have hsz:=hbe.size
  by_cases hlt:k<m
  ·obtain⟨⟨x,c⟩,hf⟩:∃f,gs[k]?=some f:=⟨gs[k]'(by rw[←HM.out];exact hlt),List.getElem?_eq_getElem _⟩;obtain⟨g,cap',hv,_,_⟩:=hK.irow.form (by rw[←HM.out];omega);have hrow:=hK.irow;cases hv;have qf:wr.cell? ⟨g,k,none⟩=some (.slice x c c):=by
    rw[hrow.cellAt k (by rw[←HM.out];omega)];simp[hf]
   have hone:wr.ownsRow (bk+1) 3 1 (.slice x c c) c (imsV k c):=hK.ieach k (x,c) hf;have HE:Hid (wr.ownsRow (bk+1) 3 1 (.slice x c c) c (imsV k c)):=hone;have hc:=row_cap hone;unfold maxLen at hc;have HB:Hid (Below w.heap.size w wr):=hbe;clear hf hK hrow hone hbe;obtain⟨wa,rfl⟩:∃wa,wa=wr:=⟨_,rfl⟩;go_wp2
   go_loopw [5] (fun i w2=>∃j q:Nat,j≤c∧i=.int .i64 j∧w2=wa.drewN q) (fun i _=>c-(intOf i).toNat)
   case atStart=>exact⟨0,0,Nat.zero_le _,rfl,rfl⟩
   case round=>
    obtain⟨j,q,hj,rfl,rfl⟩:=hrel
    by_cases hjc:j<c
    ·obtain⟨gb,cap2,hv2,_,hgb⟩:=HE.out.form (by omega);have hE:=HE.out;cases hv2;have z0:wa.cell? ⟨gb,j,none⟩=some (.int .i64 (1048576+(k:Int))):=(hE.cellAt j (by omega)).trans (by rw[imsV,List.getElem?_replicate,if_pos hjc]);clear hE;go_wp2;exact⟨⟨j+1,_,by omega,by go_num,rfl⟩,by simp[intOf];omega⟩
    ·go_wp2;exact⟨⟨k+1,by omega,by go_num,HB.out.trans (below_drewN' _ _ _)⟩,by simp[intOf];omega⟩
  ·have HB1:Hid (Below w.heap.size w wr):=hbe;clear hK hbe;obtain⟨wb,rfl⟩:∃wb,wb=wr:=⟨_,rfl⟩;go_wp2
   go_loopw [6] (fun i wr=>∃k:Nat,k≤n∧i=.int .i64 k∧Below w.heap.size w wr) (fun i _=>n-(intOf i).toNat)
   case atStart=>exact⟨0,Nat.zero_le _,rfl,HB1.out⟩
   case round=>
    obtain⟨k,hk,rfl,hbe⟩:=hrel;have hK:=HK.out.below hbe;have d1:=hK.c1;rw[←HN.out]at d1;have hsz:=hbe.size
    by_cases hlt:k<n
    ·obtain⟨⟨x,c⟩,hf⟩:∃f,fs[k]?=some f:=⟨fs[k]'(by rw[←HN.out];exact hlt),List.getElem?_eq_getElem _⟩;obtain⟨g,cap',hv,_,_⟩:=hK.arow.form (by rw[←HN.out];omega);have hrow:=hK.arow;cases hv;have qf:wr.cell? ⟨g,k,none⟩=some (.slice x c c):=by
      rw[hrow.cellAt k (by rw[←HN.out];omega)];simp[hf]
     have hone:wr.ownsRow (bk+1) 47 5 (.slice x c c) c (bmsV k c):=hK.aeach k (x,c) hf;have HE:Hid (wr.ownsRow (bk+1) 47 5 (.slice x c c) c (bmsV k c)):=hone;have hc:=row_cap hone;unfold maxLen at hc;have HB:Hid (Below w.heap.size w wr):=hbe;clear hf hK hrow hone hbe;obtain⟨wa,rfl⟩:∃wa,wa=wr:=⟨_,rfl⟩;go_wp2
     go_loopw [9] (fun i w2=>∃j q:Nat,j≤c∧i=.int .i64 j∧w2=(wa.alloc (.cells #[.int .i64 (-1),.int .i64 k,.int .i64 0,.bool false,.string ⟨#[110,111,110,101]⟩] 47)).drewN q) (fun i _=>c-(intOf i).toNat)
     case atStart=>exact⟨0,0,Nat.zero_le _,rfl,rfl⟩
     case round=>
      obtain⟨j,q,hj,rfl,rfl⟩:=hrel
      by_cases hjc:j<c
      ·obtain⟨gb,cap2,hv2,_,hgb⟩:=HE.out.form (by omega);have hE:=HE.out.alloc (.cells #[.int .i64 (-1),.int .i64 k,.int .i64 0,.bool false,.string ⟨#[110,111,110,101]⟩] 47);cases hv2;have z0:=(hE.cellAt (j*5) (by omega)).trans (bmsV_get k c j 0 hjc (by decide));have z1:=(hE.cellAt (j*5+1) (by omega)).trans (bmsV_get k c j 1 hjc (by decide));have z2:=(hE.cellAt (j*5+2) (by omega)).trans (bmsV_get k c j 2 hjc (by decide));have z3:=(hE.cellAt (j*5+3) (by omega)).trans (bmsV_get k c j 3 hjc (by decide));have z4:=(hE.cellAt (j*5+4) (by omega)).trans (bmsV_get k c j 4 hjc (by decide));simp only[bmV]at z0 z1 z2 z3 z4;simp only[List.getElem?_cons_zero,List.getElem?_cons_succ]at z0 z1 z2 z3 z4;clear hE;go_wp2
       go_quiet (fail)
       go_wp2;exact⟨⟨j+1,_,by omega,by go_num,rfl⟩,by simp[intOf];omega⟩
      ·go_wp2;exact⟨⟨k+1,by omega,by go_num,(HB.out.alloc hsz _).trans (below_drewN' _ _ _)⟩,by simp[intOf];omega⟩
    ·have HB:Hid (Below w.heap.size w wr):=hbe;clear hK hbe;go_wp2;go_ret;exact⟨rfl,HB.out⟩
set_option maxHeartbeats 800000 in
theorem Pairs_any(s:ByteArray)(w:World)(hs:s.size≤maxLen) :
  Calls Tryz.prog 28 #[.string s] w fun e w'=>∃v a,e=.returned (.tuple #[v,.int .i64 a])∧PairsIs w w' s v a∧Below w.heap.size w w':=by
 go_enter Tryz.func28,Tryz.ntmps28
 go_wp2_with fail
 refine(read_any s w hs).mono ?_;intro e w1 hout;obtain⟨hb,v,a,b,rfl,hc,hcase⟩:=hout.says;clear hout;rcases hcase with⟨ha,rfl⟩|⟨rfl,hz,am,cm,F,rfl,hst,_,hown⟩
 ·have ha':(a != 0)=true:=by simpa using ha
  have HH:Hid (PairsIs w w1 s (.slice none 0 0) a):=⟨b,hc,.inl ⟨ha,rfl⟩⟩;clear hc ha;go_wp2
  go_ret2
  exact⟨_,a,rfl,HH.out,hb⟩
 ·have hacc:=hst.acc;have hcnt:=acc_count hacc;have hF:=hst.len;rw[len_eq]at hcnt hF;clear hst;have HC:Hid (ChkIs s 0 b):=hc;have HA:Hid (Acc s.data.toList (mksS F)):=hacc;clear hc hacc
  go_wp2_with fail
  refine(Open_any w.heap.size am cm F w1 hown (by omega)).mono ?_;rintro e w2 ⟨⟨x,c,rfl,hown2⟩,hb2⟩;have HH:Hid (PairsIs w w2 s (.slice x (prL (accL (mksS F)) (accL (mksS F)).length).length c) 0):=⟨b,HC.out,.inr ⟨rfl,hz,mksS F,x,c,HA.out,by omega,rfl,ownsRow_lower hown2 hb.size⟩⟩;have HB:Hid (Below w.heap.size w w2):=hb.trans (hb2.mono hb.size);clear hown hown2 hb hb2;obtain⟨N,hN⟩:∃N,N=(prL (accL (mksS F)) (accL (mksS F)).length).length:=⟨_,rfl⟩;rw[←hN]at HH ⊢;clear hN;go_wp2
  go_ret2
  exact⟨_,0,rfl,HH.out,HB.out⟩
set_option maxHeartbeats 800000 in
theorem sameInts_any(Ba Bb:Nat)(xa xb:Option Addr)(ca cb n:Nat)(l:List Int)(w:World)(hn:n=l.length)(ha:w.ownsRow Ba 3 1 (.slice xa n ca) n (l.map fun q=>.int .i64 q))(hb:w.ownsRow Bb 3 1 (.slice xb n cb) n (l.map fun q=>.int .i64 q)) :
  Calls Tryz.prog 30 #[.slice xa n ca,.slice xb n cb] w fun e w'=>e=.returned (.bool true)∧∃k,w'=w.drewN k:=by
 have HA:Hid (w.ownsRow Ba 3 1 (.slice xa n ca) n (l.map fun q=>.int .i64 q)):=ha;have HB:Hid (w.ownsRow Bb 3 1 (.slice xb n cb) n (l.map fun q=>.int .i64 q)):=hb;have hcap:=row_cap ha;unfold maxLen at hcap;have HN:Hid (n=l.length):=hn;clear ha hb hn
 go_enter Tryz.func30,Tryz.ntmps30
 go_wp2
 go_loopw [5] (fun i wr=>∃k q:Nat,k≤n∧i=.int .i64 k∧wr=w.drewN q) (fun i _=>n-(intOf i).toNat)
 case atStart=>exact⟨0,0,Nat.zero_le _,rfl,rfl⟩
 case round=>
  obtain⟨k,q,hk,rfl,rfl⟩:=hrel
  by_cases hlt:k<n
  ·obtain⟨m,hm⟩:∃m,l[k]?=some m:=⟨l[k]'(by rw[←HN.out];exact hlt),List.getElem?_eq_getElem _⟩;obtain⟨ga,cap',hva,_,_⟩:=HA.out.form (by omega);obtain⟨gb,cap'',hvb,_,_⟩:=HB.out.form (by omega);cases hva;cases hvb;have p0:w.cell? ⟨ga,k,none⟩=some (.int .i64 m):=(HA.out.cellAt k (by omega)).trans (by rw[List.getElem?_map,hm];rfl);have q0:w.cell? ⟨gb,k,none⟩=some (.int .i64 m):=(HB.out.cellAt k (by omega)).trans (by rw[List.getElem?_map,hm];rfl);clear hm;have hkn:(k:Int)<(n:Int):=by omega
   go_wp2
   go_quiet (fail)
   go_wp2;exact⟨⟨k+1,_,by omega,by go_num,rfl⟩,by simp[intOf];omega⟩
  ·go_wp2;go_ret;exact⟨rfl,_,rfl⟩
theorem PairsIs.both{w w1 w2 w3:World}{s:ByteArray}{v v':Value}{a a':Int}(h:PairsIs w w1 s v a)(h':PairsIs w2 w3 s v' a') :
  a=a'∧∃(l:List Int) (x x':Option Addr) (n c c':Nat),n=l.length∧v=.slice x n c∧v'=.slice x' n c'∧w1.ownsRow w.heap.size 3 1 (.slice x n c) n (l.map fun q=>.int .i64 q)∧w3.ownsRow w2.heap.size 3 1 (.slice x' n c') n (l.map fun q=>.int .i64 q):=by
 obtain⟨b,hc,h⟩:=h;obtain⟨b',hc',h'⟩:=h';obtain⟨rfl,rfl⟩:=hc.unique hc';refine⟨rfl,?_⟩;rcases h with⟨h0,rfl⟩|⟨h0,hz,mks,x,c,hacc,hlen,rfl,hown⟩
 ·rcases h' with⟨_,rfl⟩|⟨h1,_⟩
  ·exact⟨[],none,none,0,0,0,rfl,rfl,rfl,World.ownsRow_nil _ _ _ _,World.ownsRow_nil _ _ _ _⟩
  ·exact absurd h1 h0
 ·rcases h' with⟨h1,_⟩|⟨_,_,mks',x',c',hacc',_,rfl,hown'⟩
  ·exact absurd h0 h1
  ·have:=acc_unique hacc hacc';subst this;have e:idV (prL (accL mks) (accL mks).length)=((prL (accL mks) (accL mks).length).map fun(n:Nat)=>(n:Int)).map fun q=>.int .i64 q:=by
    rw[idV,List.map_map];rfl
   rw[e]at hown hown';exact⟨_,x,x',_,c,c',by simp,rfl,rfl,hown,hown'⟩
def BookIn(W0:World)(k:Nat)(W:World):Prop:=(∃gs ga gc fs aa ca,BB W W0.heap.size gs ga gc fs aa ca∧gs.length≤2*k∧fs.length≤k)∧Below W0.heap.size W0 W
set_option maxHeartbeats 3200000 in
set_option maxRecDepth 100000 in
theorem listsP_any(bk:Nat)(s t:ByteArray)(la:Option Addr)(ln lc:Nat)(gs:List (Option Addr×Nat))(ga:Option Addr)(gc:Nat)(fs:List (Option Addr×Nat))(aa:Option Addr)(ca:Nat)(w:World)(hs:s.size≤maxLen)(h:BB w bk gs ga gc fs aa ca)(hb:(gs.length+1)*24≤140737488355328) :
  Calls Tryz.prog 12 #[.pointer (some ⟨bk,0,none⟩),.agg #[.int .i64 5,.string s,.string t,.slice la ln lc]] w fun e w'=>e=.returned (.bool true)∧(∃gs' ga' gc',BB w' bk gs' ga' gc' fs aa ca∧gs'.length=gs.length+1)∧Below bk w w':=by
 have B1:Hid (∀o,Below w.heap.size w (w.alloc o)):=fun o=>(Below.refl _ _).alloc (Nat.le_refl _) o
 have HK:Hid (BB w bk gs ga gc fs aa ca):=h;have hlt:=h.lt;clear h
 go_enter Tryz.func12,Tryz.ntmps12
 go_wp2_with fail
 refine(Pairs_any s _ hs).mono ?_;rintro e w1 ⟨v,a,rfl,hl1,hb1⟩;have hcell:=(hb1.cell (p:=⟨w.heap.size,1,none⟩) (by simp));have HL1:Hid (PairsIs _ w1 s v a):=hl1;have HB1:Hid (Below _ _ w1):=hb1;clear hl1 hb1
 go_wp2_with fail
 refine(refPairs_any s _ hs).mono ?_;rintro e w2 ⟨v',a',rfl,hl2,hb2⟩;obtain⟨ea,l,x,x',n,c,c',hn,rfl,rfl,ho1,ho2⟩:=HL1.out.both hl2;subst ea;have HB2:Hid (Below w1.heap.size w1 w2):=hb2;have HN:Hid (n=l.length):=hn;have HO1:Hid (w2.ownsRow (w.heap.size+1) 3 1 (.slice x n c) n (l.map fun q=>.int .i64 q)):=by
  have:=ownsRow_later ho1 hb2;exact ownsRow_lower this (by simp)
 have HO2:Hid (w2.ownsRow w1.heap.size 3 1 (.slice x' n c') n (l.map fun q=>.int .i64 q)):=ho2;clear hl2 hb2 ho1 ho2 HL1 hn
 go_wp2_with fail
 refine(sameInts_any _ _ x x' c c' n l _ HN.out HO1.out HO2.out).mono ?_;rintro e w3 ⟨rfl,q,rfl⟩;have hbw:Below w.heap.size w (w2.drewN q):=((B1.out _).trans (HB1.out.mono (by simp))).trans ((HB2.out.mono (by have:=HB1.out.size;simp at this;omega)).trans (below_drewN' _ _ _));have HBW:Hid (Below w.heap.size w (w2.drewN q)):=hbw;clear hbw
 go_wp2_with fail
 refine(bookTake_any bk (w.heap.size+1) n c x (l.map fun q=>.int .i64 q) gs ga gc fs aa ca _ (HK.out.below HBW.out) hb HO1.out (by omega) (apart_of HK.out (Nat.le_refl _) (fun g hg=>by have:=(HO1.out.lt g hg).1;omega))).mono ?_;rintro e w4 ⟨rfl,⟨ga',gc',hk4⟩,hb4,_,_⟩;have HK4:Hid (∃gs' ga' gc',BB w4 bk gs' ga' gc' fs aa ca∧gs'.length=gs.length+1):=⟨_,ga',gc',hk4,by simp⟩;have HB4:Hid (Below bk w w4):=(HBW.out.mono (by omega)).trans hb4;clear hk4 hb4
 go_wp2_with fail
 refine(num_any a _).mono ?_;rintro e w5 ⟨rfl,hw5⟩;rw[hw5];clear hw5;go_wp2;go_ret;exact⟨rfl,HK4.out,HB4.out⟩
set_option maxHeartbeats 1600000 in
set_option maxRecDepth 100000 in
theorem plays_pairs(bk:Nat)(s t:ByteArray)(la:Option Addr)(ln lc:Nat)(gs:List (Option Addr×Nat))(ga:Option Addr)(gc:Nat)(fs:List (Option Addr×Nat))(aa:Option Addr)(ca:Nat)(w:World)(hs:s.size≤maxLen)(h:BB w bk gs ga gc fs aa ca)(hb:(gs.length+1)*24≤140737488355328) :
  Calls Tryz.prog 5 #[.pointer (some ⟨bk,0,none⟩),.agg #[.int .i64 5,.string s,.string t,.slice la ln lc]] w fun e w'=>e=.returned (.bool true)∧(∃gs' ga' gc',BB w' bk gs' ga' gc' fs aa ca∧gs'.length=gs.length+1)∧Below bk w w':=by
 have B1:Hid (∀o,Below w.heap.size w (w.alloc o)):=fun o=>(Below.refl _ _).alloc (Nat.le_refl _) o
 have HK:Hid (BB w bk gs ga gc fs aa ca):=h;have hlt:=h.lt;clear h
 go_enter Tryz.func5,Tryz.ntmps5
 go_wp2_with fail
 refine(listsP_any bk s t la ln lc gs ga gc fs aa ca _ hs (HK.out.below (B1.out _)) hb).mono ?_;rintro e w1 ⟨rfl,hk1,hb1⟩;have HK1:Hid (∃gs' ga' gc',BB w1 bk gs' ga' gc' fs aa ca∧gs'.length=gs.length+1):=hk1;have HB1:Hid (Below bk w w1):=((B1.out _).mono (by omega)).trans hb1;clear hk1 hb1;go_wp2;go_ret;exact⟨rfl,HK1.out,HB1.out⟩
end Go.Proofs.YtdgkpkdinfklaabGreat
