import Derived.Test.YtdgkpkdinfklaabGreatGI
import Derived.Test.YtdgkpkdinfklaabGreatGD
import Derived.Test.YtdgkpkdinfklaabGreatGB
namespace Go.Proofs.YtdgkpkdinfklaabGreat
open Go.RowKit
def sv(l:List UInt8):Value:=.string ⟨l.toArray⟩
theorem sv_of(x:ByteArray):Value.string x=sv x.data.toList:=by simp[sv]
theorem sv_eq{x:ByteArray}{l:List UInt8}(h:x.data.toList=l):Value.string x=sv l:=by rw[sv_of,h]
def iv(i:Int):Value:=.int .i64 i
def didV(d:Did):List Value:=[.int .i64 d.pick,.int .i64 d.thread,.int .u8 d.what.toNat,.int .u8 d.of.toNat]
structure PD(w:World)(B:Nat)(P:PS)(at' ah ar as':Option Addr)(ct ch cr cs:Nat):Prop where
 hb:B+1<w.heap.size
 c0:w.cell? ⟨B+1,0,none⟩=some (.slice at' P.todo.length ct)
 c1:w.cell? ⟨B+1,1,none⟩=some (.slice ah P.held.length ch)
 c2:w.cell? ⟨B+1,2,none⟩=some (.slice ar P.regs.length cr)
 c3:w.cell? ⟨B+1,3,none⟩=some (.slice (some ⟨B,0,none⟩) 3 3)
 c4:w.cell? ⟨B+1,4,none⟩=some (sv P.pr)
 c5:w.cell? ⟨B+1,5,none⟩=some (.slice as' P.st.length cs)
 fz:∀i,w.frozen? ⟨B+1,i,none⟩=false
 r0:w.ownsRow (B+2) 9 1 (.slice at' P.todo.length ct) P.todo.length (P.todo.map sv)
 r1:w.ownsRow (B+2) 9 1 (.slice ah P.held.length ch) P.held.length (P.held.map sv)
 r2:w.ownsRow (B+2) 3 1 (.slice ar P.regs.length cr) P.regs.length (P.regs.map iv)
 r3:w.ownsRow B 3 1 (.slice (some ⟨B,0,none⟩) 3 3) 3 (P.gl.map iv)
 r5:w.ownsRow (B+2) 136 4 (.slice as' P.st.length cs) P.st.length (P.st.flatMap didV)
 ap:(Value.slice at' P.todo.length ct).ownBlock=none∨(Value.slice at' P.todo.length ct).ownBlock≠(Value.slice ah P.held.length ch).ownBlock
theorem PD.drewN{w B P at' ah ar as' ct ch cr cs}(h:PD w B P at' ah ar as' ct ch cr cs)(n:Nat):PD (w.drewN n) B P at' ah ar as' ct ch cr cs:=
 ⟨h.hb,h.c0,h.c1,h.c2,h.c3,h.c4,h.c5,h.fz,h.r0,h.r1,h.r2,h.r3,h.r5,h.ap⟩
theorem rowAt{w:World}{B e n:Nat}{a:Option Addr}{c:Nat}{xs:List Value}(h:w.ownsRow B e 1 (.slice a n c) n xs)(k:Nat)(v:Value)(hx:xs[k]?=some v):∃g,a=some ⟨g,0,none⟩∧w.cell? ⟨g,k,none⟩=some v∧w.frozen? ⟨g,k,none⟩=false∧B≤g:=by
 have hk:k<xs.length:=(List.getElem?_eq_some_iff.1 hx).1;have hl:=h.1;obtain⟨g,cap,hv,hg,_⟩:=h.form (by omega);cases hv;exact⟨g,rfl,(h.cellAt k (by omega)).trans hx,h.frozenAt k,hg⟩
theorem findIdx_hit{held:List (List UInt8)}{l:UInt8}{k:Nat}{x:List UInt8}(h0:∀y∈held.take k,inU y l=false)(hx:held[k]?=some x)(h1:inU x l=true):holderP held l=k:=by
 have:held.findIdx? (fun h=>inU h l)=some k:=by
  rw[List.findIdx?_eq_some_iff_getElem];obtain⟨hk,rfl⟩:=List.getElem?_eq_some_iff.1 hx;refine⟨hk,h1,?_⟩;intro j hj;have:=h0 held[j] (by rw[List.mem_take_iff_getElem];exact⟨j,by omega,rfl⟩);simpa using this
 rw[holderP,this]
theorem findIdx_none{held:List (List UInt8)}{l:UInt8}(h0:∀y∈held,inU y l=false):holderP held l=-1:=by
 have:held.findIdx? (fun h=>inU h l)=none:=by
  rw[List.findIdx?_eq_none_iff];intro x hx;exact h0 x hx
 rw[holderP,this]
set_option maxHeartbeats 400000 in
theorem holder_any(l:UInt8)(w:World)(B:Nat)(P:PS)(at' ah ar as':Option Addr)(ct ch cr cs:Nat)(h:PD w B P at' ah ar as' ct ch cr cs)(hn:P.held.length≤4)(hs:∀x∈P.held,x.length≤100000) :
  Calls Tryz.prog 96 #[.pointer (some ⟨B+1,0,none⟩),.int .u8 (l.toNat:Int)] w fun e w'=>e=.returned (.int .i64 (holderP P.held l))∧w'=w:=by
 have H:Hid (PD w B P at' ah ar as' ct ch cr cs):=h;have c1:=h.c1;have hb:=h.hb;clear h;obtain⟨n,hnn⟩:∃n,n=P.held.length:=⟨_,rfl⟩;rw[←hnn]at c1 hn;have HN:Hid (n=P.held.length):=hnn;clear hnn
 go_enter Tryz.func96,Tryz.ntmps96
 go_wp2
 go_loop [5] (fun i=>∃k:Nat,k≤n∧i=.int .i64 k∧∀y∈P.held.take k,inU y l=false) (fun i=>n-(intOf i).toNat)
 case atStart=>exact⟨0,Nat.zero_le _,rfl,by simp⟩
 case round=>
  obtain⟨k,hk,rfl,hr⟩:=hrel;have HR:Hid (∀y∈P.held.take k,inU y l=false):=hr;clear hr
  by_cases hlt:k<n
  ·obtain⟨x,hx⟩:∃x,P.held[k]?=some x:=⟨P.held[k]'(by rw[←HN.out];exact hlt),List.getElem?_eq_getElem _⟩;obtain⟨g,rfl,hc,_⟩:=rowAt H.out.r1 k (sv x) (by rw[List.getElem?_map,hx];rfl);have hlen:=hs x (List.mem_of_getElem? hx);have HX:Hid (P.held[k]?=some x):=hx;clear hx;rw[sv]at hc
   go_wp2_with fail
   refine(in_any _ _ _ (by unfold maxLen;simp[ByteArray.size];omega)).mono ?_;rintro e w' ⟨rfl,rfl⟩;cases hi:inU (ByteArray.mk x.toArray).data.toList l with
   | true=>
    have HF:Hid (holderP P.held l=k):=findIdx_hit HR.out HX.out (by simpa using hi);clear hi;go_wp2;go_ret;rw[HF.out];exact⟨rfl,rfl⟩
   | false=>
    go_wp2
    go_round
    case rel=>
     refine⟨k+1,by omega,by go_num,?_⟩;intro y hy;obtain⟨hk',rfl⟩:=List.getElem?_eq_some_iff.1 HX.out;rw[List.take_succ_eq_append_getElem hk',List.mem_append]at hy;rcases hy with hy|hy
     ·exact HR.out y hy
     ·simp at hy;subst hy;simpa using hi
    case measure=>simp[intOf];omega
  ·have this:P.held.take k=P.held:=List.take_of_length_le (by rw[←HN.out];omega);have HF:Hid (holderP P.held l=-1):=findIdx_none (fun y hy=>HR.out y (by rw[this];exact hy));clear this;go_wp2;go_ret;rw[HF.out];exact⟨rfl,rfl⟩
set_option maxHeartbeats 400000 in
theorem waits_any(t:Nat)(s:List UInt8)(w:World)(B:Nat)(P:PS)(at' ah ar as':Option Addr)(ct ch cr cs:Nat)(h:PD w B P at' ah ar as' ct ch cr cs)(hn:P.held.length≤4)(hs:∀x∈P.held,x.length≤100000)
  (ht:P.todo[t]?=some s)(hl:s.length≤100000)(h2:∀c∈s.head?,c=91∨c=60→2≤s.length) :
  Calls Tryz.prog 72 #[.pointer (some ⟨B+1,0,none⟩),.int .i64 t] w fun e w'=>e=.returned (.int .i64 (waitsL P.held s))∧w'=w:=by
 have H:Hid (PD w B P at' ah ar as' ct ch cr cs):=h;have c0:=h.c0;have hb:=h.hb;have htl:t<P.todo.length:=(List.getElem?_eq_some_iff.1 ht).1;obtain⟨g,rfl,hc,_⟩:=rowAt h.r0 t (sv s) (by rw[List.getElem?_map,ht];rfl);clear h ht;generalize hnt:P.todo.length=nt at c0 htl;clear hnt;cases s with
 | nil=>
  rw[sv]at hc
  go_enter Tryz.func72,Tryz.ntmps72
  go_wp2;go_ret;exact⟨rfl,rfl⟩
 | cons c r=>
  obtain⟨x,hx⟩:∃x:ByteArray,x=⟨(c::r).toArray⟩:=⟨_,rfl⟩;rw[sv,←hx]at hc;have h0:0<x.size:=by rw[hx];simp[ByteArray.size]
  have hxs:x.size≤100000:=by rw[hx];simpa[ByteArray.size]using hl
  have hx0:x[0]=c:=by simp[hx,ByteArray.getElem_eq_getElem_data]
  have hne:x.toList.isEmpty=false:=ne_empty x h0
  by_cases hq:c=91∨c=60
  ·have h2':=h2 c (by simp) hq;cases r with
   | nil=>simp at h2'
   | cons l r=>
    have h1:1<x.size:=by rw[hx];simp[ByteArray.size]
    have hx1:x[1]=l:=by simp[hx,ByteArray.getElem_eq_getElem_data]
    have HW:Hid (waitsL P.held (c::l::r)=holderP P.held l):=by show waitsL _ _=_;rw[waitsL,if_pos hq]
    clear h2 h2' hl hx;rcases hq with rfl|rfl
    ·have e0:(x[0].toNat:Int)=91:=by rw[hx0];rfl
     clear hx0
     go_enter Tryz.func72,Tryz.ntmps72
     go_wp2_with fail
     refine(holder_any l _ B P _ ah ar as' ct ch cr cs H.out hn hs).mono ?_;rintro e w' ⟨rfl,rfl⟩;go_wp2;go_ret;rw[HW.out];exact⟨rfl,rfl⟩
    ·have e0:(x[0].toNat:Int)=60:=by rw[hx0];rfl
     clear hx0
     go_enter Tryz.func72,Tryz.ntmps72
     go_wp2_with fail
     refine(holder_any l _ B P _ ah ar as' ct ch cr cs H.out hn hs).mono ?_;rintro e w' ⟨rfl,rfl⟩;go_wp2;go_ret;rw[HW.out];exact⟨rfl,rfl⟩
  ·have HW:Hid (waitsL P.held (c::r)=-1):=by
    show waitsL _ _=_;unfold waitsL
    split
    ·rename_i a b d e;cases e;rw[if_neg hq]
    ·rfl
   have e0:((x[0].toNat:Int)==91)=false:=by rw[hx0];exact u8g (b:=91) (fun e=>hq (.inl e))
   have e1:((x[0].toNat:Int)==60)=false:=by rw[hx0];exact u8g (b:=60) (fun e=>hq (.inr e))
   have e2:((x[0].toNat:Int) != 91)=true:=by rw[bne,e0];rfl
   have e3:((x[0].toNat:Int) != 60)=true:=by rw[bne,e1];rfl
   clear hx0 hx h2 hl hq
   go_enter Tryz.func72,Tryz.ntmps72
   go_wp2;go_ret;rw[HW.out];exact⟨rfl,rfl⟩
def BdAt(t:ByteArray)(k:Nat)(d:Int):Prop:=d=bd (t.data.toList.take k)
theorem bdAt_open{t:ByteArray}{k:Nat}{d:Int}(h:BdAt t k d)(hk:k<t.size)(e:(t[k].toNat:Int)=123):BdAt t (k+1) (d+1):=by
 have:t[k]=123:=u8t (b:=123) (by rw[e];rfl);rw[BdAt,take_snoc t k hk,bd_append,this,←h];rfl
theorem bdAt_shut{t:ByteArray}{k:Nat}{d:Int}(h:BdAt t k d)(hk:k<t.size)(e:(t[k].toNat:Int)=125):BdAt t (k+1) (d-1):=by
 have:t[k]=125:=u8t (b:=125) (by rw[e];rfl);rw[BdAt,take_snoc t k hk,bd_append,this,←h];rfl
theorem bdAt_any{t:ByteArray}{k:Nat}{d:Int}(h:BdAt t k d)(hk:k<t.size)(e:((t[k].toNat:Int)==123)=false)(e':((t[k].toNat:Int)==125)=false):BdAt t (k+1) d:=by
 rw[BdAt,take_snoc t k hk,bd_append,←h,bd_plain (u8f (b:=123) e) (u8f (b:=125) e')];simp[bd]
theorem blk_depth{X J a r:List UInt8}(h:TD X J a)(t:ByteArray)(ht:t.data.toList=123::(a++125::r))(k:Nat)(hk:k≤a.length):1≤bd (t.data.toList.take (k+1)):=by
 rw[ht,List.take_succ_cons,bd,if_pos rfl,List.take_append,Nat.sub_eq_zero_of_le hk,bd_append];have:=h.bd.2 k;simp[bd];omega
theorem blk_depth_end{X J a r:List UInt8}(h:TD X J a)(t:ByteArray)(ht:t.data.toList=123::(a++125::r)):bd (t.data.toList.take (a.length+1))=1:=by
 rw[ht,List.take_succ_cons,bd,if_pos rfl,List.take_append,Nat.sub_self,List.take_of_length_le (Nat.le_refl _),bd_append,h.bd.1];simp[bd]
set_option maxHeartbeats 800000 in
theorem block_any{X J a r:List UInt8}(h:TD X J a)(t:ByteArray)(w:World)(ht:t.data.toList=123::(a++125::r))(hl:t.size≤100000) :
  Calls Tryz.prog 118 #[.string t] w fun e w'=>e=.returned (.tuple #[sv a,sv r])∧∃q,w'=w.drewN q:=by
 have hsz:t.size=a.length+r.length+2:=by
  rw[←len_eq,ht];simp;omega
 obtain⟨n,hn⟩:∃n,n=a.length:=⟨_,rfl⟩;have HD:Hid (∀k,k≤n→1≤bd (t.data.toList.take (k+1))):=fun k hk=>blk_depth h t ht k (by omega)
 have HE:Hid (bd (t.data.toList.take (n+1))=1):=by rw[hn];exact blk_depth_end h t ht
 have hnt:n+1<t.size:=by omega
 have h00:0<t.size:=by omega
 have h0:t[0].toNat=(123:Int):=by
  have:=byteAt t 0 h00;rw[ht]at this;have:=Option.some.inj this;rw[←this];rfl
 have hlast:t[n+1].toNat=(125:Int):=by
  have:=byteAt t (n+1) hnt;rw[ht]at this;have e:(123::(a++125::r))[n+1]?=some 125:=by rw[hn];simp
  rw[e]at this;have:=Option.some.inj this;rw[←this];rfl
 have HA:Hid (Value.string (t.extract 1 (n+1))=sv a):=by
  apply sv_eq;rw[ByteArray.data_extract,Array.toList_extract,ht,hn];simp
 have HB:Hid (Value.string (t.extract (n+2) t.size)=sv r):=by
  apply sv_eq;rw[tail_data,ht,hn];simp
 clear ht h;clear hsz hn
 go_enter Tryz.func118,Tryz.ntmps118
 go_wp2
 go_loop [4,5] (fun dv i=>∃(k:Nat) (d:Int),k≤n+1∧i=.int .i64 k∧dv=.int .i64 d∧-100000≤d∧d≤k∧BdAt t k d) (fun _ i=>n+2-(intOf i).toNat)
 case atStart=>exact⟨0,0,Nat.zero_le _,rfl,rfl,by omega,by omega,rfl⟩
 case round=>
  obtain⟨k,d,hk,rfl,rfl,hd0,hd,hr⟩:=hrel;have hkt:k<t.size:=by omega
  have HR:Hid (BdAt t k d):=hr;clear hr
  by_cases he:k=n+1
  ·subst he;have:d=1:=(HR.out:d=_).trans HE.out;subst this;go_wp2
   go_quiet (fail)
   go_wp2
   go_ret2
   exact⟨by rw[←HA.out,←HB.out];rfl,_,rfl⟩
  ·have hd1:1≤k→1≤d:=by
    intro h1;obtain⟨j,rfl⟩:∃j,k=j+1:=⟨k-1,by omega⟩;rw[show d=_ from HR.out];exact HD.out j (by omega)
   by_cases e1:(t[k].toNat:Int)=123
   ·have HN:Hid (BdAt t (k+1) (d+1)):=bdAt_open HR.out hkt e1;go_wp2
    go_round
    case rel=>exact⟨k+1,d+1,by omega,by go_num,by go_num,by omega,by omega,HN.out⟩
    case measure=>simp[intOf];omega
   ·by_cases e2:(t[k].toNat:Int)=125
    ·have HN:Hid (BdAt t (k+1) (d-1)):=bdAt_shut HR.out hkt e2;have h1:1≤k:=by
      rcases Nat.eq_zero_or_pos k with rfl|h
      ·exact absurd h0 e1
      ·exact h
     have h2:1≤d-1:=by rw[show d-1=_ from HN.out];exact HD.out k (by omega)
     have h3:¬(d-1=0):=by omega
     go_wp2
     go_round
     case rel=>exact⟨k+1,d-1,by omega,by go_num,by go_num,by omega,by omega,HN.out⟩
     case measure=>simp[intOf];omega
    ·have e1':((t[k].toNat:Int)==123)=false:=by simpa using e1
     have e2':((t[k].toNat:Int)==125)=false:=by simpa using e2
     have HN:Hid (BdAt t (k+1) d):=bdAt_any HR.out hkt e1' e2';clear e1 e2;go_wp2
     go_round
     case rel=>exact⟨k+1,d,by omega,by go_num,by go_num,by omega,by omega,HN.out⟩
     case measure=>simp[intOf];omega
def PM(w:World)(B:Nat)(P:PS):Prop:=∃at' ah ar as' ct ch cr cs,PD w B P at' ah ar as' ct ch cr cs
structure Fr(B:Nat)(w w':World):Prop where
 below:Below B w w'
 keep:∀k c fz,B+1<k→w.heap[k]?=some (.cells c 5 fz)→w'.heap[k]?=some (.cells c 5 fz)
theorem Fr.refl(B:Nat)(w:World):Fr B w w:=⟨Below.refl B w,fun _ _ _ _ h=>h⟩
theorem Fr.trans{B:Nat}{a b c:World}(h:Fr B a b)(k:Fr B b c):Fr B a c:=⟨h.below.trans k.below,fun i x f hi hx=>k.keep i x f hi (h.keep i x f hi hx)⟩
theorem Fr.drew{B:Nat}{a w:World}(h:Fr B a w):Fr B a w.drew:=⟨h.below.drew,h.keep⟩
theorem fr_drewN(B:Nat)(w:World)(n:Nat):Fr B w (w.drewN n):=⟨below_drewN' B w n,fun _ _ _ _ h=>h⟩
theorem Fr.alloc{B:Nat}{a w:World}(h:Fr B a w)(hB:B≤w.heap.size)(o:Obj):Fr B a (w.alloc o):=
 ⟨h.below.alloc hB o,fun k c fz hk hx=>by
  have:=h.keep k c fz hk hx
  rw[Below.heap_alloc w o k (Array.getElem?_eq_some_iff.1 this).1];exact this⟩
theorem Fr.ofRow{B base e size n:Nat}{w w':World}{v:Value}{xs:List Value}(r:w.ownsRow base e size v n xs)(hb:B≤base)(he:e≠5)(hg:w.grownBy w' v.ownBlock)(hB:B+1<w.heap.size):Fr B w w':=by
 refine⟨(Below.refl B w).grown hg (by omega) (fun k hk=>by have:=(r.lt k hk).1;omega),fun k c fz _ hx=>?_⟩;have hk:=(Array.getElem?_eq_some_iff.1 hx).1;rw[hg.block k hk]
 ·exact hx
 ·intro e';rcases r.2 with⟨rfl,_⟩|⟨g,cap,cur,rfl,_,hgg,_⟩
  ·cases e'
  ·have:k=g:=by simpa[Value.ownBlock]using e'
   subst this;rw[hx]at hgg;simp at hgg;exact he hgg.2.1.symm
theorem fr_low{B i:Nat}(w:World)(u:Value):Fr B w (w.setCell ⟨B+1,i,none⟩ u):=
 ⟨(Below.refl B w).setCell (by simp) _,fun k c fz hk hx=>by rw[heap_setCell_other w _ k u (by simp;omega)];exact hx⟩
theorem PD.setTodo{w B P g ah ar as' ct ch cr cs}(h:PD w B P (some ⟨g,0,none⟩) ah ar as' ct ch cr cs)(t:Nat)(s:List UInt8) :
  PD (w.setCell ⟨g,t,none⟩ (sv s)) B { P with todo:=P.todo.set t s } (some ⟨g,0,none⟩) ah ar as' ct ch cr cs∧Fr B w (w.setCell ⟨g,t,none⟩ (sv s)):=by
 obtain⟨hb,c0,c1,c2,c3,c4,c5,fz,r0,r1,r2,r3,r5,ap⟩:=h;obtain⟨a0,hg⟩:=r0.stored t (sv s);have hge:B+2≤g:=(r0.lt g rfl).1;have hne:some (B+1)≠some g:=by intro e;cases e;omega
 have K:=fun i=>hg.cell_far ⟨B+1,i,none⟩ hb hne
 refine⟨⟨by simpa[World.setCell]using hb,?_,(K 1).trans c1,(K 2).trans c2,(K 3).trans c3,(K 4).trans c4,(K 5).trans c5,fun i=>(hg.frozen_far ⟨B+1,i,none⟩ hb hne).trans (fz i),?_,r1.kept hg ?_,r2.kept hg ?_,r3.kept hg ?_,r5.kept hg ?_,?_⟩,Fr.ofRow r0 (by omega) (by decide) hg hb⟩
 ·rw[(K 0),c0];simp
 ·simp only[List.length_set,List.map_set];exact a0
 ·rcases ap with e|e
  ·cases e
  ·exact .inr (fun e'=>e e'.symm)
 ·exact rows_apart r2 r0 (by decide)
 ·right;intro e;have e:B=g:=Option.some.inj e;omega
 ·exact rows_apart r5 r0 (by decide)
 ·simpa using ap
theorem PD.setHeld{w B P at' g ar as' ct ch cr cs}(h:PD w B P at' (some ⟨g,0,none⟩) ar as' ct ch cr cs)(t:Nat)(s:List UInt8) :
  PD (w.setCell ⟨g,t,none⟩ (sv s)) B { P with held:=P.held.set t s } at' (some ⟨g,0,none⟩) ar as' ct ch cr cs∧Fr B w (w.setCell ⟨g,t,none⟩ (sv s)):=by
 obtain⟨hb,c0,c1,c2,c3,c4,c5,fz,r0,r1,r2,r3,r5,ap⟩:=h;obtain⟨a0,hg⟩:=r1.stored t (sv s);have hge:B+2≤g:=(r1.lt g rfl).1;have hne:some (B+1)≠some g:=by intro e;cases e;omega
 have K:=fun i=>hg.cell_far ⟨B+1,i,none⟩ hb hne
 refine⟨⟨by simpa[World.setCell]using hb,(K 0).trans c0,?_,(K 2).trans c2,(K 3).trans c3,(K 4).trans c4,(K 5).trans c5,fun i=>(hg.frozen_far ⟨B+1,i,none⟩ hb hne).trans (fz i),r0.kept hg ?_,?_,r2.kept hg ?_,r3.kept hg ?_,r5.kept hg ?_,?_⟩,Fr.ofRow r1 (by omega) (by decide) hg hb⟩
 ·rw[(K 1),c1];simp
 ·exact ap
 ·simp only[List.length_set,List.map_set];exact a0
 ·exact rows_apart r2 r1 (by decide)
 ·right;intro e;have e:B=g:=Option.some.inj e;omega
 ·exact rows_apart r5 r1 (by decide)
 ·simpa using ap
theorem PD.setReg{w B P at' ah g as' ct ch cr cs}(h:PD w B P at' ah (some ⟨g,0,none⟩) as' ct ch cr cs)(t:Nat)(x:Int) :
  PD (w.setCell ⟨g,t,none⟩ (.int .i64 x)) B { P with regs:=P.regs.set t x } at' ah (some ⟨g,0,none⟩) as' ct ch cr cs∧Fr B w (w.setCell ⟨g,t,none⟩ (.int .i64 x)):=by
 obtain⟨hb,c0,c1,c2,c3,c4,c5,fz,r0,r1,r2,r3,r5,ap⟩:=h;obtain⟨a0,hg⟩:=r2.stored t (iv x);have hge:B+2≤g:=(r2.lt g rfl).1;have hne:some (B+1)≠some g:=by intro e;cases e;omega
 have K:=fun i=>hg.cell_far ⟨B+1,i,none⟩ hb hne
 refine⟨⟨by simpa[World.setCell]using hb,(K 0).trans c0,(K 1).trans c1,?_,(K 3).trans c3,(K 4).trans c4,(K 5).trans c5,fun i=>(hg.frozen_far ⟨B+1,i,none⟩ hb hne).trans (fz i),r0.kept hg ?_,r1.kept hg ?_,?_,r3.kept hg ?_,r5.kept hg ?_,ap⟩,Fr.ofRow r2 (by omega) (by decide) hg hb⟩
 ·have:=K 2;rw[c2]at this;refine this.trans ?_;simp
 ·exact rows_apart r0 r2 (by decide)
 ·exact rows_apart r1 r2 (by decide)
 ·simp only[List.length_set,List.map_set];exact a0
 ·right;intro e;have e:B=g:=Option.some.inj e;omega
 ·exact rows_apart r5 r2 (by decide)
theorem PD.setGl{w B P at' ah ar as' ct ch cr cs}(h:PD w B P at' ah ar as' ct ch cr cs)(t:Nat)(x:Int) :
  PD (w.setCell ⟨B,t,none⟩ (.int .i64 x)) B { P with gl:=P.gl.set t x } at' ah ar as' ct ch cr cs∧Fr B w (w.setCell ⟨B,t,none⟩ (.int .i64 x)):=by
 obtain⟨hb,c0,c1,c2,c3,c4,c5,fz,r0,r1,r2,r3,r5,ap⟩:=h;obtain⟨a0,hg⟩:=r3.stored t (iv x);have hne:some (B+1)≠some B:=by intro e;have:=Option.some.inj e;omega
 have K:=fun i=>hg.cell_far ⟨B+1,i,none⟩ hb hne
 have far:∀{e s n:Nat} {v:Value} {xs:List Value},w.ownsRow (B+2) e s v n xs→v.ownBlock=none∨v.ownBlock≠some B:=fun hr=>by
  right;intro e;have:=(hr.lt _ e).1;omega
 refine⟨⟨by simpa[World.setCell]using hb,(K 0).trans c0,(K 1).trans c1,(K 2).trans c2,(K 3).trans c3,(K 4).trans c4,(K 5).trans c5,fun i=>(hg.frozen_far ⟨B+1,i,none⟩ hb hne).trans (fz i),r0.kept hg (far r0),r1.kept hg (far r1),r2.kept hg (far r2),?_,r5.kept hg (far r5),ap⟩,Fr.ofRow r3 (by omega) (by decide) hg hb⟩;simp only[List.map_set];exact a0
theorem PD.setPr{w B P at' ah ar as' ct ch cr cs}(h:PD w B P at' ah ar as' ct ch cr cs)(s:List UInt8) :
  PD (w.setCell ⟨B+1,4,none⟩ (sv s)) B { P with pr:=s } at' ah ar as' ct ch cr cs∧Fr B w (w.setCell ⟨B+1,4,none⟩ (sv s)):=by
 obtain⟨hb,c0,c1,c2,c3,c4,c5,fz,r0,r1,r2,r3,r5,ap⟩:=h;have z:=fun i=>fz i
 refine⟨⟨by simpa[World.setCell]using hb,by go_simp,by go_simp,by go_simp,by go_simp,cell_same c4,by go_simp,fun i=>by have:=fz i;go_simp,ownsRow_setCell_below r0 (by simp) _,ownsRow_setCell_below r1 (by simp) _,ownsRow_setCell_below r2 (by simp) _,?_,ownsRow_setCell_below r5 (by simp) _,ap⟩,fr_low w _⟩;exact ownsRow_setCell_other r3 (by simp[Value.ownBlock]) _
set_option maxHeartbeats 800000 in
theorem test_loop{X J a:List UInt8}(ha:TD X J a)(r:List UInt8)(t:Nat)(x:Int)(w:World)(B:Nat)(P:PS)(h:PM w B P)
  (ht:P.todo[t]?=some (33::123::(a++125::r)))(hx:P.regs[t]?=some x)(hl:(33::123::(a++125::r)).length≤100000) :
  Calls Tryz.prog 97 #[.pointer (some ⟨B+1,0,none⟩),.int .i64 t] w fun e w'=>e=.returned (.int .u8 (if x != 0 then 116 else 102))∧PM w' B { P with todo:=P.todo.set t (testP (33::123::(a++125::r)) (x != 0)) }∧Fr B w w':=by
 rw[testP_loop ha];obtain⟨at',ah,ar,as',ct,ch,cr,cs,h⟩:=h;have htl:t<P.todo.length:=(List.getElem?_eq_some_iff.1 ht).1;have hrl:t<P.regs.length:=(List.getElem?_eq_some_iff.1 hx).1;obtain⟨g,rfl,hc,hf,hgb⟩:=rowAt h.r0 t (sv (33::123::(a++125::r))) (by rw[List.getElem?_map,ht];rfl);obtain⟨gr,rfl,hcr,_,hgr⟩:=rowAt h.r2 t (iv x) (by rw[List.getElem?_map,hx];rfl);have H:Hid (PD w B P (some ⟨g,0,none⟩) ah (some ⟨gr,0,none⟩) as' ct ch cr cs):=h;have c0:=h.c0;have c2:=h.c2;have hb:=h.hb;clear h ht hx;obtain⟨nt,hnt⟩:∃nt,nt=P.todo.length:=⟨_,rfl⟩;obtain⟨nr,hnr⟩:∃nr,nr=P.regs.length:=⟨_,rfl⟩;rw[←hnt]at c0 htl;rw[←hnr]at c2 hrl;clear hnt hnr;obtain⟨y,hy⟩:∃y:ByteArray,y=⟨(33::123::(a++125::r)).toArray⟩:=⟨_,rfl⟩;have hyd:y.data.toList=33::123::(a++125::r):=by rw[hy]
 rw[sv,←hy]at hc;clear hy;have hys:y.size≤100000:=by rw[←len_eq,hyd];exact hl
 have hy2:2≤y.size:=by rw[←len_eq,hyd];simp
 have hy0:(y[0].toNat:Int)=33:=by
  have:=byteAt y 0 (by omega);rw[hyd]at this;rw[←Option.some.inj this];rfl
 have HY:Hid (y.data.toList=33::123::(a++125::r)):=hyd;have hal:a.length≤100000:=by simp at hl;omega
 rw[iv]at hcr;clear hyd hl
 go_enter Tryz.func97,Tryz.ntmps97
 go_wp2_with fail
 refine(block_any ha (r:=r) (y.extract 1 y.size) _ (by rw[tail_data,HY.out];rfl) (by simp;omega)).mono ?_;rintro e w' ⟨rfl,q,rfl⟩;rw[sv,sv];have H1:Hid (PD (w.drewN q) B P (some ⟨g,0,none⟩) ah (some ⟨gr,0,none⟩) as' ct ch cr cs):=H.out.drewN q;have B1:Hid (Fr B w (w.drewN q)):=fr_drewN B w q;replace c0:(w.drewN q).cell? _=_:=c0;replace c2:(w.drewN q).cell? _=_:=c2;replace hc:(w.drewN q).cell? _=_:=hc;replace hcr:(w.drewN q).cell? _=_:=hcr;replace hf:(w.drewN q).frozen? _=_:=hf;generalize w.drewN q=W at *;obtain⟨xa,hxa⟩:∃xa:ByteArray,xa=⟨a.toArray⟩:=⟨_,rfl⟩;have hxs:xa.size≤100000:=by rw[hxa];simpa[ByteArray.size]using hal
 rw[←hxa];have HXA:Hid (xa.data.toList=a):=by rw[hxa];rfl
 clear hxa
 by_cases hx0:x=0
 ·subst hx0;obtain⟨hp,hbel⟩:=H1.out.setTodo t r;have HP:Hid (PM (W.setCell ⟨g,t,none⟩ (sv r)) B { P with todo:=P.todo.set t r }):=⟨_,_,_,_,_,_,_,_,hp⟩;have HB:Hid (Fr B w (W.setCell ⟨g,t,none⟩ (sv r))):=B1.out.trans hbel;clear hp hbel;go_wp2;go_ret;exact⟨rfl,HP.out,HB.out⟩
 ·have hxb:(x != 0)=true:=by simpa using hx0
  obtain⟨hp,hbel⟩:=H1.out.setTodo t (a++33::123::(a++125::r));have hsv:Value.string (xa++y)=sv (a++33::123::(a++125::r)):=sv_eq (by rw[cat_data,HY.out,HXA.out]);rw[←hsv]at hp hbel;have HP:Hid (PM (W.setCell ⟨g,t,none⟩ (.string (xa++y))) B { P with todo:=P.todo.set t (a++33::123::(a++125::r)) }):=⟨_,_,_,_,_,_,_,_,hp⟩;have HB:Hid (Fr B w (W.setCell ⟨g,t,none⟩ (.string (xa++y)))):=B1.out.trans hbel;clear hp hbel hsv;go_wp2;go_ret;exact⟨rfl,HP.out,HB.out⟩
set_option maxHeartbeats 800000 in
theorem test_branch{X J a:List UInt8}(ha:TD X J a){Y K b:List UInt8}(hk:TD Y K b)(r:List UInt8)(t:Nat)(x:Int)(w:World)(B:Nat)(P:PS)(h:PM w B P)
  (ht:P.todo[t]?=some (63::123::(a++125::123::(b++125::r))))(hx:P.regs[t]?=some x)(hl:(63::123::(a++125::123::(b++125::r))).length≤100000) :
  Calls Tryz.prog 97 #[.pointer (some ⟨B+1,0,none⟩),.int .i64 t] w fun e w'=>e=.returned (.int .u8 (if x != 0 then 116 else 102))∧PM w' B { P with todo:=P.todo.set t (testP (63::123::(a++125::123::(b++125::r))) (x != 0)) }∧Fr B w w':=by
 rw[testP_branch ha hk];obtain⟨at',ah,ar,as',ct,ch,cr,cs,h⟩:=h;have htl:t<P.todo.length:=(List.getElem?_eq_some_iff.1 ht).1;have hrl:t<P.regs.length:=(List.getElem?_eq_some_iff.1 hx).1;obtain⟨g,rfl,hc,hf,hgb⟩:=rowAt h.r0 t (sv (63::123::(a++125::123::(b++125::r)))) (by rw[List.getElem?_map,ht];rfl);obtain⟨gr,rfl,hcr,_,hgr⟩:=rowAt h.r2 t (iv x) (by rw[List.getElem?_map,hx];rfl);have H:Hid (PD w B P (some ⟨g,0,none⟩) ah (some ⟨gr,0,none⟩) as' ct ch cr cs):=h;have c0:=h.c0;have c2:=h.c2;have hb:=h.hb;clear h ht hx;obtain⟨nt,hnt⟩:∃nt,nt=P.todo.length:=⟨_,rfl⟩;obtain⟨nr,hnr⟩:∃nr,nr=P.regs.length:=⟨_,rfl⟩;rw[←hnt]at c0 htl;rw[←hnr]at c2 hrl;clear hnt hnr;obtain⟨y,hy⟩:∃y:ByteArray,y=⟨(63::123::(a++125::123::(b++125::r))).toArray⟩:=⟨_,rfl⟩;have hyd:y.data.toList=63::123::(a++125::123::(b++125::r)):=by rw[hy]
 rw[sv,←hy]at hc;clear hy;have hys:y.size≤100000:=by rw[←len_eq,hyd];exact hl
 have hy2:2≤y.size:=by rw[←len_eq,hyd];simp
 have hy0:(y[0].toNat:Int)=63:=by
  have:=byteAt y 0 (by omega);rw[hyd]at this;rw[←Option.some.inj this];rfl
 have HY:Hid (y.data.toList=63::123::(a++125::123::(b++125::r))):=hyd;have hal:a.length≤100000:=by simp at hl;omega
 have hbl:(123::(b++125::r)).length≤100000:=by simp at hl ⊢;omega
 rw[iv]at hcr;clear hyd hl
 go_enter Tryz.func97,Tryz.ntmps97
 go_wp2_with fail
 refine(block_any ha (r:=123::(b++125::r)) (y.extract 1 y.size) _ (by rw[tail_data,HY.out];rfl) (by simp;omega)).mono ?_;rintro e w' ⟨rfl,q,rfl⟩;rw[sv,sv];have H1:Hid (PD (w.drewN q) B P (some ⟨g,0,none⟩) ah (some ⟨gr,0,none⟩) as' ct ch cr cs):=H.out.drewN q;have B1:Hid (Fr B w (w.drewN q)):=fr_drewN B w q;replace c0:(w.drewN q).cell? _=_:=c0;replace c2:(w.drewN q).cell? _=_:=c2;replace hc:(w.drewN q).cell? _=_:=hc;replace hcr:(w.drewN q).cell? _=_:=hcr;replace hf:(w.drewN q).frozen? _=_:=hf;generalize w.drewN q=W at *;obtain⟨xa,hxa⟩:∃xa:ByteArray,xa=⟨a.toArray⟩:=⟨_,rfl⟩;have hxs:xa.size≤100000:=by rw[hxa];simpa[ByteArray.size]using hal
 rw[←hxa];have HXA:Hid (xa.data.toList=a):=by rw[hxa];rfl
 clear hxa;obtain⟨z,hz⟩:∃z:ByteArray,z=⟨(123::(b++125::r)).toArray⟩:=⟨_,rfl⟩;have hzs:z.size≤100000:=by rw[hz];simpa[ByteArray.size]using hbl
 rw[←hz];have HZ:Hid (z.data.toList=123::(b++125::r)):=by rw[hz];rfl
 clear hz
 go_wp2_with fail
 refine(block_any hk (r:=r) z _ HZ.out hzs).mono ?_;rintro e w' ⟨rfl,q2,rfl⟩;rw[sv,sv];have H2:Hid (PD (W.drewN q2) B P (some ⟨g,0,none⟩) ah (some ⟨gr,0,none⟩) as' ct ch cr cs):=H1.out.drewN q2;have B2:Hid (Fr B w (W.drewN q2)):=B1.out.trans (fr_drewN B W q2);replace c0:(W.drewN q2).cell? _=_:=c0;replace c2:(W.drewN q2).cell? _=_:=c2;replace hc:(W.drewN q2).cell? _=_:=hc;replace hcr:(W.drewN q2).cell? _=_:=hcr;replace hf:(W.drewN q2).frozen? _=_:=hf;clear H1 B1;generalize W.drewN q2=W2 at *;obtain⟨xb,hxb⟩:∃xb:ByteArray,xb=⟨b.toArray⟩:=⟨_,rfl⟩;have hxbs:xb.size≤100000:=by rw[hxb];simp[ByteArray.size];simp at hbl;omega
 rw[←hxb];have HXB:Hid (xb.data.toList=b):=by rw[hxb];rfl
 clear hxb;obtain⟨xr,hxr⟩:∃xr:ByteArray,xr=⟨r.toArray⟩:=⟨_,rfl⟩;have hxrs:xr.size≤100000:=by rw[hxr];simp[ByteArray.size];simp at hbl;omega
 rw[←hxr];have HXR:Hid (xr.data.toList=r):=by rw[hxr];rfl
 clear hxr hbl
 by_cases hx0:x=0
 ·subst hx0;obtain⟨hp,hbel⟩:=H2.out.setTodo t (b++r);have hsv:Value.string (xb++xr)=sv (b++r):=sv_eq (by rw[cat_data,HXB.out,HXR.out]);rw[←hsv]at hp hbel;have HP:Hid (PM (W2.setCell ⟨g,t,none⟩ (.string (xb++xr))) B { P with todo:=P.todo.set t (b++r) }):=⟨_,_,_,_,_,_,_,_,hp⟩;have HB:Hid (Fr B w (W2.setCell ⟨g,t,none⟩ (.string (xb++xr)))):=B2.out.trans hbel;clear hp hbel hsv;go_wp2;go_ret;exact⟨rfl,HP.out,HB.out⟩
 ·have hxb:(x != 0)=true:=by simpa using hx0
  obtain⟨hp,hbel⟩:=H2.out.setTodo t (a++r);have hsv:Value.string (xa++xr)=sv (a++r):=sv_eq (by rw[cat_data,HXA.out,HXR.out]);rw[←hsv]at hp hbel;have HP:Hid (PM (W2.setCell ⟨g,t,none⟩ (.string (xa++xr))) B { P with todo:=P.todo.set t (a++r) }):=⟨_,_,_,_,_,_,_,_,hp⟩;have HB:Hid (Fr B w (W2.setCell ⟨g,t,none⟩ (.string (xa++xr)))):=B2.out.trans hbel;clear hp hbel hsv;go_wp2;go_ret;exact⟨rfl,HP.out,HB.out⟩
structure TF(w:World)(B:Nat)(P:PS)(t:Nat)(y h:ByteArray)(x:Int)(g gh gr:Nat)(as':Option Addr)(ct ch cr cs nt nh nr:Nat):Prop where
 pd:PD w B P (some ⟨g,0,none⟩) (some ⟨gh,0,none⟩) (some ⟨gr,0,none⟩) as' ct ch cr cs
 et:P.todo.length=nt
 eh:P.held.length=nh
 er:P.regs.length=nr
 lt:t<nt
 lh:t<nh
 lr:t<nr
 ty:P.todo[t]?=some y.data.toList
 hy:P.held[t]?=some h.data.toList
 ry:P.regs[t]?=some x
theorem TF.of{w:World}{B:Nat}{P:PS}(h:PM w B P){t:Nat}{s l:List UInt8}{x:Int}(hs:P.todo[t]?=some s)(hl:P.held[t]?=some l)(hx:P.regs[t]?=some x) :
  ∃g gh gr as' ct ch cr cs nt nh nr,TF w B P t ⟨s.toArray⟩ ⟨l.toArray⟩ x g gh gr as' ct ch cr cs nt nh nr:=by
 obtain⟨at',ah,ar,as',ct,ch,cr,cs,h⟩:=h;have h1:t<P.todo.length:=(List.getElem?_eq_some_iff.1 hs).1;have h2:t<P.held.length:=(List.getElem?_eq_some_iff.1 hl).1;have h3:t<P.regs.length:=(List.getElem?_eq_some_iff.1 hx).1;obtain⟨g,rfl,hc,hf,hgb⟩:=rowAt h.r0 t (sv s) (by rw[List.getElem?_map,hs];rfl);obtain⟨gh,rfl,hcr,_,hgr⟩:=rowAt h.r1 t (sv l) (by rw[List.getElem?_map,hl];rfl);obtain⟨gr,rfl,_⟩:=rowAt h.r2 t (iv x) (by rw[List.getElem?_map,hx];rfl);exact⟨g,gh,gr,as',ct,ch,cr,cs,_,_,_,h,rfl,rfl,rfl,h1,h2,h3,hs,hl,hx⟩
section
variable {w : World} {B : Nat} {P : PS} {t : Nat} {y h : ByteArray} {x : Int} {g gh gr : Nat} {as' : Option Addr} {ct ch cr cs nt nh nr : Nat}
theorem TF.c0(f:TF w B P t y h x g gh gr as' ct ch cr cs nt nh nr):w.cell? ⟨B+1,0,none⟩=some (.slice (some ⟨g,0,none⟩) nt ct):=f.et ▸ f.pd.c0
theorem TF.c1(f:TF w B P t y h x g gh gr as' ct ch cr cs nt nh nr):w.cell? ⟨B+1,1,none⟩=some (.slice (some ⟨gh,0,none⟩) nh ch):=f.eh ▸ f.pd.c1
theorem TF.c2(f:TF w B P t y h x g gh gr as' ct ch cr cs nt nh nr):w.cell? ⟨B+1,2,none⟩=some (.slice (some ⟨gr,0,none⟩) nr cr):=f.er ▸ f.pd.c2
theorem TF.todo(f:TF w B P t y h x g gh gr as' ct ch cr cs nt nh nr):w.cell? ⟨g,t,none⟩=some (.string y)∧w.frozen? ⟨g,t,none⟩=false:=by
 obtain⟨g',e,h1,h2,_⟩:=rowAt f.pd.r0 t (sv y.data.toList) (by rw[List.getElem?_map,f.ty];rfl);cases e;exact⟨by rw[h1,sv_of],h2⟩
theorem TF.held(f:TF w B P t y h x g gh gr as' ct ch cr cs nt nh nr):w.cell? ⟨gh,t,none⟩=some (.string h)∧w.frozen? ⟨gh,t,none⟩=false:=by
 obtain⟨g',e,h1,h2,_⟩:=rowAt f.pd.r1 t (sv h.data.toList) (by rw[List.getElem?_map,f.hy];rfl);cases e;exact⟨by rw[h1,sv_of],h2⟩
theorem TF.reg(f:TF w B P t y h x g gh gr as' ct ch cr cs nt nh nr):w.cell? ⟨gr,t,none⟩=some (.int .i64 x)∧w.frozen? ⟨gr,t,none⟩=false:=by
 obtain⟨g',e,h1,h2,_⟩:=rowAt f.pd.r2 t (iv x) (by rw[List.getElem?_map,f.ry];rfl);cases e;exact⟨h1,h2⟩
theorem TF.glob(f:TF w B P t y h x g gh gr as' ct ch cr cs nt nh nr)(k:Nat)(v:Int)(hv:P.gl[k]?=some v):w.cell? ⟨B,k,none⟩=some (.int .i64 v)∧w.frozen? ⟨B,k,none⟩=false:=by
 obtain⟨g',e,h1,h2,_⟩:=rowAt f.pd.r3 k (iv v) (by rw[List.getElem?_map,hv];rfl);cases e;exact⟨h1,h2⟩
theorem TF.setTodo(f:TF w B P t y h x g gh gr as' ct ch cr cs nt nh nr)(y':ByteArray) :
  TF (w.setCell ⟨g,t,none⟩ (.string y')).drew B { P with todo:=P.todo.set t y'.data.toList } t y' h x g gh gr as' ct ch cr cs nt nh nr∧Fr B w (w.setCell ⟨g,t,none⟩ (.string y')).drew:=by
 obtain⟨h1,h2⟩:=f.pd.setTodo t y'.data.toList;rw[←sv_of]at h1 h2;refine⟨⟨h1.drewN 1,by simpa using f.et,f.eh,f.er,f.lt,f.lh,f.lr,?_,f.hy,f.ry⟩,h2.drew⟩;simp only[List.getElem?_set];rw[if_pos trivial,if_pos (by rw[f.et];exact f.lt)]
end
set_option maxHeartbeats 1600000 in
set_option maxRecDepth 100000 in
theorem does_get(v:UInt8)(r l:List UInt8)(t:Nat)(x z:Int)(w:World)(B:Nat)(P:PS)(h:PM w B P)
  (ht:P.todo[t]?=some (103::v::r))(hh:P.held[t]?=some l)(hx:P.regs[t]?=some x)(hl:(103::v::r).length≤100000)(hv:inU [120,121,122] v=true)(hz:P.gl[v.toNat-120]?=some z) :
  Calls Tryz.prog 73 #[.pointer (some ⟨B+1,0,none⟩),.int .i64 t] w fun e w'=>e=.returned (.tuple #[.int .u8 103,.int .u8 v.toNat])∧PM w' B { P with todo:=P.todo.set t r,regs:=P.regs.set t z }∧Fr B w w':=by
 obtain⟨g,gh,gr,as',ct,ch,cr,cs,nt,nh,nr,f⟩:=TF.of h ht hh hx;obtain⟨y,hy⟩:∃y:ByteArray,y=⟨(103::v::r).toArray⟩:=⟨_,rfl⟩;obtain⟨k,hk⟩:∃k:ByteArray,k=⟨l.toArray⟩:=⟨_,rfl⟩;rw[←hy,←hk]at f;have hyd:y.data.toList=103::v::r:=by rw[hy]
 clear hk hy;have hys:y.size≤100000:=by rw[←len_eq,hyd];exact hl
 have hy2:2≤y.size:=by rw[←len_eq,hyd];simp
 have hy0:(y[0].toNat:Int)=103:=by
  have:=byteAt y 0 (by omega);rw[hyd]at this;rw[←Option.some.inj this];rfl
 have hy1:y[1].toNat=v.toNat:=by
  have:=byteAt y 1 (by omega);rw[hyd]at this;rw[←Option.some.inj this]
 have hy0':y[0]=103:=by
  have:=byteAt y 0 (by omega);rw[hyd]at this;rw[←Option.some.inj this]
 have hvn:120≤v.toNat∧v.toNat<123:=by
  rw[inU_mem]at hv;simp at hv;rcases hv with rfl|rfl|rfl<;>decide
 have c0:=f.c0;obtain⟨ct0,ft0⟩:=f.todo;obtain⟨W,hW⟩:∃W,W=(w.setCell ⟨g,t,none⟩ (.string (y.extract 2 y.size))).drew:=⟨_,rfl⟩;obtain⟨f1,b1⟩:=f.setTodo (y.extract 2 y.size);rw[←hW]at f1 b1;have hyr:(y.extract 2 y.size).data.toList=r:=by rw[tail_data,hyd];rfl
 rw[hyr]at f1;obtain⟨j,hj⟩:∃j:Nat,j=v.toNat-120:=⟨_,rfl⟩;rw[←hj]at hz;have hvj:(v.toNat:Int)-120=(j:Int):=by omega
 have hj3:j<3:=by omega
 have HW:Hid (W=(w.setCell ⟨g,t,none⟩ (.string (y.extract 2 y.size))).drew):=hW;have HP:Hid (PM (W.setCell ⟨gr,t,none⟩ (.int .i64 z)).drew B { P with todo:=P.todo.set t r,regs:=P.regs.set t z }):=⟨_,_,_,_,_,_,_,_,(f1.pd.setReg t z).1.drewN 1⟩;have HB:Hid (Fr B w (W.setCell ⟨gr,t,none⟩ (.int .i64 z)).drew):=b1.trans (f1.pd.setReg t z).2.drew;have d2:=f1.c2;have d3:=f1.pd.c3;obtain⟨dr,zr⟩:=f1.reg;obtain⟨dg,_⟩:=f1.glob j z hz;have lr:=f.lr;have hbW:=f1.pd.hb;clear hz hj hW;have lt:=f.lt;have hb:=f.pd.hb;have sz:Hid (Calls Tryz.prog 20 #[.int .u8 103] w fun e w'=>e=.returned (.int .i64 2)∧w'=w):=size_any 103 w;clear hyd hl f b1 ht hh hx f1 hyr h hv hy0'
 go_enter Tryz.func73,Tryz.ntmps73
 go_wp2_with fail
 refine sz.out.mono ?_;rintro e w' ⟨rfl,rfl⟩;go_wp2
 go_region
 all_goals
  rw[←HW.out];go_wp2
  go_region
  all_goals
   go_wp2
   go_ret2
   exact⟨rfl,HP.out,HB.out⟩
section
variable {w : World} {B : Nat} {P : PS} {t : Nat} {y h : ByteArray} {x : Int} {g gh gr : Nat} {as' : Option Addr} {ct ch cr cs nt nh nr : Nat}
theorem TF.setReg(f:TF w B P t y h x g gh gr as' ct ch cr cs nt nh nr)(z:Int) :
  TF (w.setCell ⟨gr,t,none⟩ (.int .i64 z)).drew B { P with regs:=P.regs.set t z } t y h z g gh gr as' ct ch cr cs nt nh nr∧Fr B w (w.setCell ⟨gr,t,none⟩ (.int .i64 z)).drew:=by
 obtain⟨h1,h2⟩:=f.pd.setReg t z;refine⟨⟨h1.drewN 1,f.et,f.eh,by simpa using f.er,f.lt,f.lh,f.lr,f.ty,f.hy,?_⟩,h2.drew⟩;simp only[List.getElem?_set];rw[if_pos trivial,if_pos (by rw[f.er];exact f.lr)]
end
set_option maxHeartbeats 1600000 in
set_option maxRecDepth 100000 in
theorem does_put(v:UInt8)(r l:List UInt8)(t:Nat)(x z:Int)(w:World)(B:Nat)(P:PS)(h:PM w B P)
  (ht:P.todo[t]?=some (112::v::r))(hh:P.held[t]?=some l)(hx:P.regs[t]?=some x)(hl:(112::v::r).length≤100000)(hv:inU [120,121,122] v=true)(hz:P.gl[v.toNat-120]?=some z) :
  Calls Tryz.prog 73 #[.pointer (some ⟨B+1,0,none⟩),.int .i64 t] w fun e w'=>e=.returned (.tuple #[.int .u8 112,.int .u8 v.toNat])∧PM w' B { P with todo:=P.todo.set t r,gl:=P.gl.set (v.toNat-120) x }∧Fr B w w':=by
 obtain⟨g,gh,gr,as',ct,ch,cr,cs,nt,nh,nr,f⟩:=TF.of h ht hh hx;obtain⟨y,hy⟩:∃y:ByteArray,y=⟨(112::v::r).toArray⟩:=⟨_,rfl⟩;obtain⟨k,hk⟩:∃k:ByteArray,k=⟨l.toArray⟩:=⟨_,rfl⟩;rw[←hy,←hk]at f;have hyd:y.data.toList=112::v::r:=by rw[hy]
 clear hk hy;have hys:y.size≤100000:=by rw[←len_eq,hyd];exact hl
 have hy2:2≤y.size:=by rw[←len_eq,hyd];simp
 have hy0:(y[0].toNat:Int)=112:=by
  have:=byteAt y 0 (by omega);rw[hyd]at this;rw[←Option.some.inj this];rfl
 have hy1:y[1].toNat=v.toNat:=by
  have:=byteAt y 1 (by omega);rw[hyd]at this;rw[←Option.some.inj this]
 have hy0':y[0]=112:=by
  have:=byteAt y 0 (by omega);rw[hyd]at this;rw[←Option.some.inj this]
 have hvn:120≤v.toNat∧v.toNat<123:=by
  rw[inU_mem]at hv;simp at hv;rcases hv with rfl|rfl|rfl<;>decide
 have c0:=f.c0;obtain⟨ct0,ft0⟩:=f.todo;obtain⟨W,hW⟩:∃W,W=(w.setCell ⟨g,t,none⟩ (.string (y.extract 2 y.size))).drew:=⟨_,rfl⟩;obtain⟨f1,b1⟩:=f.setTodo (y.extract 2 y.size);rw[←hW]at f1 b1;have hyr:(y.extract 2 y.size).data.toList=r:=by rw[tail_data,hyd];rfl
 rw[hyr]at f1;obtain⟨j,hj⟩:∃j:Nat,j=v.toNat-120:=⟨_,rfl⟩;rw[←hj]at hz;have hvj:(v.toNat:Int)-120=(j:Int):=by omega
 have hj3:j<3:=by omega
 have HW:Hid (W=(w.setCell ⟨g,t,none⟩ (.string (y.extract 2 y.size))).drew):=hW;have HP:Hid (PM (W.setCell ⟨B,j,none⟩ (.int .i64 x)).drew B { P with todo:=P.todo.set t r,gl:=P.gl.set j x }):=⟨_,_,_,_,_,_,_,_,(f1.pd.setGl j x).1.drewN 1⟩;have HB:Hid (Fr B w (W.setCell ⟨B,j,none⟩ (.int .i64 x)).drew):=b1.trans (f1.pd.setGl j x).2.drew;have HJ:Hid (j=v.toNat-120):=hj;have d2:=f1.c2;have d3:=f1.pd.c3;obtain⟨dr,zr⟩:=f1.reg;obtain⟨dg,zg⟩:=f1.glob j z hz;have lr:=f.lr;have hbW:=f1.pd.hb;clear hz hj hW;have lt:=f.lt;have hb:=f.pd.hb;have sz:Hid (Calls Tryz.prog 20 #[.int .u8 112] w fun e w'=>e=.returned (.int .i64 2)∧w'=w):=size_any 112 w;clear hyd hl f b1 ht hh hx f1 hyr h hv hy0'
 go_enter Tryz.func73,Tryz.ntmps73
 go_wp2_with fail
 refine sz.out.mono ?_;rintro e w' ⟨rfl,rfl⟩;go_wp2
 go_region
 all_goals
  rw[←HW.out];go_wp2
  go_region
  all_goals
   go_wp2
   go_ret2
   rw[←HJ.out];exact⟨rfl,HP.out,HB.out⟩
set_option maxHeartbeats 1600000 in
set_option maxRecDepth 100000 in
theorem does_open(v:UInt8)(r l:List UInt8)(t:Nat)(x:Int)(w:World)(B:Nat)(P:PS)(h:PM w B P)
  (ht:P.todo[t]?=some (91::v::r))(hh:P.held[t]?=some l)(hx:P.regs[t]?=some x)(hl:(91::v::r).length≤100000)(hll:l.length≤100000) :
  Calls Tryz.prog 73 #[.pointer (some ⟨B+1,0,none⟩),.int .i64 t] w fun e w'=>e=.returned (.tuple #[.int .u8 91,.int .u8 v.toNat])∧PM w' B { P with todo:=P.todo.set t r,held:=P.held.set t (l++[v]) }∧Fr B w w':=by
 obtain⟨g,gh,gr,as',ct,ch,cr,cs,nt,nh,nr,f⟩:=TF.of h ht hh hx;obtain⟨y,hy⟩:∃y:ByteArray,y=⟨(91::v::r).toArray⟩:=⟨_,rfl⟩;obtain⟨k,hk⟩:∃k:ByteArray,k=⟨l.toArray⟩:=⟨_,rfl⟩;rw[←hy,←hk]at f;have hyd:y.data.toList=91::v::r:=by rw[hy]
 have hkd:k.data.toList=l:=by rw[hk]
 have hks:k.size≤100000:=by rw[←len_eq,hkd];exact hll
 clear hk hy;have hys:y.size≤100000:=by rw[←len_eq,hyd];exact hl
 have hy2:2≤y.size:=by rw[←len_eq,hyd];simp
 have hy0:(y[0].toNat:Int)=91:=by
  have:=byteAt y 0 (by omega);rw[hyd]at this;rw[←Option.some.inj this];rfl
 have hy1:y[1].toNat=v.toNat:=by
  have:=byteAt y 1 (by omega);rw[hyd]at this;rw[←Option.some.inj this]
 have hy0':y[0]=91:=by
  have:=byteAt y 0 (by omega);rw[hyd]at this;rw[←Option.some.inj this]
 have c0:=f.c0;obtain⟨ct0,ft0⟩:=f.todo;obtain⟨W,hW⟩:∃W,W=(w.setCell ⟨g,t,none⟩ (.string (y.extract 2 y.size))).drew:=⟨_,rfl⟩;obtain⟨f1,b1⟩:=f.setTodo (y.extract 2 y.size);rw[←hW]at f1 b1;have hyr:(y.extract 2 y.size).data.toList=r:=by rw[tail_data,hyd];rfl
 rw[hyr]at f1;have HW:Hid (W=(w.setCell ⟨g,t,none⟩ (.string (y.extract 2 y.size))).drew):=hW;have hkv:(k++y.extract 1 2).data.toList=l++[v]:=by
  rw[cat_data,hkd,ByteArray.data_extract,Array.toList_extract,hyd];rfl
 obtain⟨hp,hbel⟩:=f1.pd.setHeld t (k++y.extract 1 2).data.toList;rw[←sv_of]at hp hbel;have HP:Hid (PM (W.setCell ⟨gh,t,none⟩ (.string (k++y.extract 1 2))).drew B { P with todo:=P.todo.set t r,held:=P.held.set t (l++[v]) }):=by
  rw[hkv]at hp;exact⟨_,_,_,_,_,_,_,_,hp.drewN 1⟩
 have HB:Hid (Fr B w (W.setCell ⟨gh,t,none⟩ (.string (k++y.extract 1 2))).drew):=b1.trans hbel.drew;have d1:=f1.c1;obtain⟨dh,zh⟩:=f1.held;have lh:=f.lh;clear hp hbel hkv;have hbW:=f1.pd.hb;clear hW;have lt:=f.lt;have hb:=f.pd.hb;have sz:Hid (Calls Tryz.prog 20 #[.int .u8 91] w fun e w'=>e=.returned (.int .i64 2)∧w'=w):=size_any 91 w;clear hyd hl f b1 ht hh hx f1 hyr h hy0' hkd hll
 go_enter Tryz.func73,Tryz.ntmps73
 go_wp2_with fail
 refine sz.out.mono ?_;rintro e w' ⟨rfl,rfl⟩;go_wp2
 go_region
 all_goals
  rw[←HW.out];go_wp2
  go_region
  all_goals
   go_wp2
   go_ret2
   exact⟨rfl,HP.out,HB.out⟩
set_option maxHeartbeats 1600000 in
set_option maxRecDepth 100000 in
theorem does_mended(v:UInt8)(r l:List UInt8)(t:Nat)(x:Int)(w:World)(B:Nat)(P:PS)(h:PM w B P)
  (ht:P.todo[t]?=some (60::v::r))(hh:P.held[t]?=some l)(hx:P.regs[t]?=some x)(hl:(60::v::r).length≤100000)(hll:l.length≤100000) :
  Calls Tryz.prog 73 #[.pointer (some ⟨B+1,0,none⟩),.int .i64 t] w fun e w'=>e=.returned (.tuple #[.int .u8 60,.int .u8 v.toNat])∧PM w' B { P with todo:=P.todo.set t r,held:=P.held.set t (l++[v]) }∧Fr B w w':=by
 obtain⟨g,gh,gr,as',ct,ch,cr,cs,nt,nh,nr,f⟩:=TF.of h ht hh hx;obtain⟨y,hy⟩:∃y:ByteArray,y=⟨(60::v::r).toArray⟩:=⟨_,rfl⟩;obtain⟨k,hk⟩:∃k:ByteArray,k=⟨l.toArray⟩:=⟨_,rfl⟩;rw[←hy,←hk]at f;have hyd:y.data.toList=60::v::r:=by rw[hy]
 have hkd:k.data.toList=l:=by rw[hk]
 have hks:k.size≤100000:=by rw[←len_eq,hkd];exact hll
 clear hk hy;have hys:y.size≤100000:=by rw[←len_eq,hyd];exact hl
 have hy2:2≤y.size:=by rw[←len_eq,hyd];simp
 have hy0:(y[0].toNat:Int)=60:=by
  have:=byteAt y 0 (by omega);rw[hyd]at this;rw[←Option.some.inj this];rfl
 have hy1:y[1].toNat=v.toNat:=by
  have:=byteAt y 1 (by omega);rw[hyd]at this;rw[←Option.some.inj this]
 have hy0':y[0]=60:=by
  have:=byteAt y 0 (by omega);rw[hyd]at this;rw[←Option.some.inj this]
 have c0:=f.c0;obtain⟨ct0,ft0⟩:=f.todo;obtain⟨W,hW⟩:∃W,W=(w.setCell ⟨g,t,none⟩ (.string (y.extract 2 y.size))).drew:=⟨_,rfl⟩;obtain⟨f1,b1⟩:=f.setTodo (y.extract 2 y.size);rw[←hW]at f1 b1;have hyr:(y.extract 2 y.size).data.toList=r:=by rw[tail_data,hyd];rfl
 rw[hyr]at f1;have HW:Hid (W=(w.setCell ⟨g,t,none⟩ (.string (y.extract 2 y.size))).drew):=hW;have hkv:(k++y.extract 1 2).data.toList=l++[v]:=by
  rw[cat_data,hkd,ByteArray.data_extract,Array.toList_extract,hyd];rfl
 obtain⟨hp,hbel⟩:=f1.pd.setHeld t (k++y.extract 1 2).data.toList;rw[←sv_of]at hp hbel;have HP:Hid (PM (W.setCell ⟨gh,t,none⟩ (.string (k++y.extract 1 2))).drew B { P with todo:=P.todo.set t r,held:=P.held.set t (l++[v]) }):=by
  rw[hkv]at hp;exact⟨_,_,_,_,_,_,_,_,hp.drewN 1⟩
 have HB:Hid (Fr B w (W.setCell ⟨gh,t,none⟩ (.string (k++y.extract 1 2))).drew):=b1.trans hbel.drew;have d1:=f1.c1;obtain⟨dh,zh⟩:=f1.held;have lh:=f.lh;clear hp hbel hkv;have hbW:=f1.pd.hb;clear hW;have lt:=f.lt;have hb:=f.pd.hb;have sz:Hid (Calls Tryz.prog 20 #[.int .u8 60] w fun e w'=>e=.returned (.int .i64 2)∧w'=w):=size_any 60 w;clear hyd hl f b1 ht hh hx f1 hyr h hy0' hkd hll
 go_enter Tryz.func73,Tryz.ntmps73
 go_wp2_with fail
 refine sz.out.mono ?_;rintro e w' ⟨rfl,rfl⟩;go_wp2
 go_region
 all_goals
  rw[←HW.out];go_wp2
  go_region
  all_goals
   go_wp2
   go_ret2
   exact⟨rfl,HP.out,HB.out⟩
set_option maxHeartbeats 1600000 in
set_option maxRecDepth 100000 in
theorem does_shut(v:UInt8)(r l:List UInt8)(t:Nat)(x:Int)(w:World)(B:Nat)(P:PS)(h:PM w B P)
  (ht:P.todo[t]?=some (93::r))(hh:P.held[t]?=some (l++[v]))(hx:P.regs[t]?=some x)(hl:(93::r).length≤100000)(hll:(l++[v]).length≤100000) :
  Calls Tryz.prog 73 #[.pointer (some ⟨B+1,0,none⟩),.int .i64 t] w fun e w'=>e=.returned (.tuple #[.int .u8 93,.int .u8 v.toNat])∧PM w' B { P with todo:=P.todo.set t r,held:=P.held.set t l }∧Fr B w w':=by
 obtain⟨g,gh,gr,as',ct,ch,cr,cs,nt,nh,nr,f⟩:=TF.of h ht hh hx;obtain⟨y,hy⟩:∃y:ByteArray,y=⟨(93::r).toArray⟩:=⟨_,rfl⟩;obtain⟨k,hk⟩:∃k:ByteArray,k=⟨(l++[v]).toArray⟩:=⟨_,rfl⟩;rw[←hy,←hk]at f;have hyd:y.data.toList=93::r:=by rw[hy]
 have hkd:k.data.toList=l++[v]:=by rw[hk]
 clear hk hy;have hys:y.size≤100000:=by rw[←len_eq,hyd];exact hl
 have hy2:1≤y.size:=by rw[←len_eq,hyd];simp
 have hy0:(y[0].toNat:Int)=93:=by
  have:=byteAt y 0 (by omega);rw[hyd]at this;rw[←Option.some.inj this];rfl
 have hy0':y[0]=93:=by
  have:=byteAt y 0 (by omega);rw[hyd]at this;rw[←Option.some.inj this]
 have c0:=f.c0;obtain⟨ct0,ft0⟩:=f.todo;obtain⟨W,hW⟩:∃W,W=(w.setCell ⟨g,t,none⟩ (.string (y.extract 1 y.size))).drew:=⟨_,rfl⟩;obtain⟨f1,b1⟩:=f.setTodo (y.extract 1 y.size);rw[←hW]at f1 b1;have hyr:(y.extract 1 y.size).data.toList=r:=by rw[tail_data,hyd];rfl
 rw[hyr]at f1;have HW:Hid (W=(w.setCell ⟨g,t,none⟩ (.string (y.extract 1 y.size))).drew):=hW;obtain⟨n,hn⟩:∃n,n=l.length:=⟨_,rfl⟩;have hks:k.size=n+1:=by rw[←len_eq,hkd,hn];simp
 have hnl:n<k.size:=by omega
 have hn5:n≤100000:=by simp at hll;omega
 have hkn:k[n].toNat=v.toNat:=by
  have:=byteAt k n hnl;rw[hkd]at this;have e:(l++[v])[n]?=some v:=by rw[hn];simp
  rw[e]at this;rw[←Option.some.inj this]
 have hkv:(k.extract 0 n).data.toList=l:=by
  rw[ByteArray.data_extract,Array.toList_extract,hkd,hn];simp
 obtain⟨hp,hbel⟩:=f1.pd.setHeld t (k.extract 0 n).data.toList;rw[←sv_of]at hp hbel;have HP:Hid (PM (W.setCell ⟨gh,t,none⟩ (.string (k.extract 0 n))).drew B { P with todo:=P.todo.set t r,held:=P.held.set t l }):=by
  rw[hkv]at hp;exact⟨_,_,_,_,_,_,_,_,hp.drewN 1⟩
 have HB:Hid (Fr B w (W.setCell ⟨gh,t,none⟩ (.string (k.extract 0 n))).drew):=b1.trans hbel.drew;have d1:=f1.c1;obtain⟨dh,zh⟩:=f1.held;have lh:=f.lh;clear hp hbel hkv hn;have hbW:=f1.pd.hb;clear hW;have lt:=f.lt;have hb:=f.pd.hb;have sz:Hid (Calls Tryz.prog 20 #[.int .u8 93] w fun e w'=>e=.returned (.int .i64 1)∧w'=w):=size_any 93 w;clear hyd hl f b1 ht hh hx f1 hyr h hy0' hkd hll
 go_enter Tryz.func73,Tryz.ntmps73
 go_wp2_with fail
 refine sz.out.mono ?_;rintro e w' ⟨rfl,rfl⟩;go_wp2
 go_region
 all_goals
  rw[←HW.out];go_wp2
  go_region
  all_goals
   go_wp2
   go_ret2
   exact⟨rfl,HP.out,HB.out⟩
set_option maxHeartbeats 1600000 in
set_option maxRecDepth 100000 in
theorem does_mend(v:UInt8)(r l:List UInt8)(t:Nat)(x:Int)(w:World)(B:Nat)(P:PS)(h:PM w B P)
  (ht:P.todo[t]?=some (62::r))(hh:P.held[t]?=some (l++[v]))(hx:P.regs[t]?=some x)(hl:(62::r).length≤100000)(hll:(l++[v]).length≤100000) :
  Calls Tryz.prog 73 #[.pointer (some ⟨B+1,0,none⟩),.int .i64 t] w fun e w'=>e=.returned (.tuple #[.int .u8 62,.int .u8 v.toNat])∧PM w' B { P with todo:=P.todo.set t r,held:=P.held.set t l }∧Fr B w w':=by
 obtain⟨g,gh,gr,as',ct,ch,cr,cs,nt,nh,nr,f⟩:=TF.of h ht hh hx;obtain⟨y,hy⟩:∃y:ByteArray,y=⟨(62::r).toArray⟩:=⟨_,rfl⟩;obtain⟨k,hk⟩:∃k:ByteArray,k=⟨(l++[v]).toArray⟩:=⟨_,rfl⟩;rw[←hy,←hk]at f;have hyd:y.data.toList=62::r:=by rw[hy]
 have hkd:k.data.toList=l++[v]:=by rw[hk]
 clear hk hy;have hys:y.size≤100000:=by rw[←len_eq,hyd];exact hl
 have hy2:1≤y.size:=by rw[←len_eq,hyd];simp
 have hy0:(y[0].toNat:Int)=62:=by
  have:=byteAt y 0 (by omega);rw[hyd]at this;rw[←Option.some.inj this];rfl
 have hy0':y[0]=62:=by
  have:=byteAt y 0 (by omega);rw[hyd]at this;rw[←Option.some.inj this]
 have c0:=f.c0;obtain⟨ct0,ft0⟩:=f.todo;obtain⟨W,hW⟩:∃W,W=(w.setCell ⟨g,t,none⟩ (.string (y.extract 1 y.size))).drew:=⟨_,rfl⟩;obtain⟨f1,b1⟩:=f.setTodo (y.extract 1 y.size);rw[←hW]at f1 b1;have hyr:(y.extract 1 y.size).data.toList=r:=by rw[tail_data,hyd];rfl
 rw[hyr]at f1;have HW:Hid (W=(w.setCell ⟨g,t,none⟩ (.string (y.extract 1 y.size))).drew):=hW;obtain⟨n,hn⟩:∃n,n=l.length:=⟨_,rfl⟩;have hks:k.size=n+1:=by rw[←len_eq,hkd,hn];simp
 have hnl:n<k.size:=by omega
 have hn5:n≤100000:=by simp at hll;omega
 have hkn:k[n].toNat=v.toNat:=by
  have:=byteAt k n hnl;rw[hkd]at this;have e:(l++[v])[n]?=some v:=by rw[hn];simp
  rw[e]at this;rw[←Option.some.inj this]
 have hkv:(k.extract 0 n).data.toList=l:=by
  rw[ByteArray.data_extract,Array.toList_extract,hkd,hn];simp
 obtain⟨hp,hbel⟩:=f1.pd.setHeld t (k.extract 0 n).data.toList;rw[←sv_of]at hp hbel;have HP:Hid (PM (W.setCell ⟨gh,t,none⟩ (.string (k.extract 0 n))).drew B { P with todo:=P.todo.set t r,held:=P.held.set t l }):=by
  rw[hkv]at hp;exact⟨_,_,_,_,_,_,_,_,hp.drewN 1⟩
 have HB:Hid (Fr B w (W.setCell ⟨gh,t,none⟩ (.string (k.extract 0 n))).drew):=b1.trans hbel.drew;have d1:=f1.c1;obtain⟨dh,zh⟩:=f1.held;have lh:=f.lh;clear hp hbel hkv hn;have hbW:=f1.pd.hb;clear hW;have lt:=f.lt;have hb:=f.pd.hb;have sz:Hid (Calls Tryz.prog 20 #[.int .u8 62] w fun e w'=>e=.returned (.int .i64 1)∧w'=w):=size_any 62 w;clear hyd hl f b1 ht hh hx f1 hyr h hy0' hkd hll
 go_enter Tryz.func73,Tryz.ntmps73
 go_wp2_with fail
 refine sz.out.mono ?_;rintro e w' ⟨rfl,rfl⟩;go_wp2
 go_region
 all_goals
  rw[←HW.out];go_wp2
  go_region
  all_goals
   go_wp2
   go_ret2
   exact⟨rfl,HP.out,HB.out⟩
set_option maxHeartbeats 1600000 in
set_option maxRecDepth 100000 in
theorem does_add(v:UInt8)(r l:List UInt8)(t:Nat)(x:Int)(w:World)(B:Nat)(P:PS)(h:PM w B P)
  (ht:P.todo[t]?=some (105::v::r))(hh:P.held[t]?=some l)(hx:P.regs[t]?=some x)(hl:(105::v::r).length≤100000)(hv:inU [48,49,50,51,52,53,54,55,56,57] v=true)(hx9:0≤x∧x≤9) :
  Calls Tryz.prog 73 #[.pointer (some ⟨B+1,0,none⟩),.int .i64 t] w fun e w'=>e=.returned (.tuple #[.int .u8 105,.int .u8 v.toNat])∧PM w' B { P with todo:=P.todo.set t r,regs:=P.regs.set t (addP x (v.toNat-48)) }∧Fr B w w':=by
 obtain⟨g,gh,gr,as',ct,ch,cr,cs,nt,nh,nr,f⟩:=TF.of h ht hh hx;obtain⟨y,hy⟩:∃y:ByteArray,y=⟨(105::v::r).toArray⟩:=⟨_,rfl⟩;obtain⟨k,hk⟩:∃k:ByteArray,k=⟨l.toArray⟩:=⟨_,rfl⟩;rw[←hy,←hk]at f;have hyd:y.data.toList=105::v::r:=by rw[hy]
 clear hk hy;have hys:y.size≤100000:=by rw[←len_eq,hyd];exact hl
 have hy2:2≤y.size:=by rw[←len_eq,hyd];simp
 have hy0:(y[0].toNat:Int)=105:=by
  have:=byteAt y 0 (by omega);rw[hyd]at this;rw[←Option.some.inj this];rfl
 have hy1:y[1].toNat=v.toNat:=by
  have:=byteAt y 1 (by omega);rw[hyd]at this;rw[←Option.some.inj this]
 have hy0':y[0]=105:=by
  have:=byteAt y 0 (by omega);rw[hyd]at this;rw[←Option.some.inj this]
 have hvn:48≤v.toNat∧v.toNat<58:=by
  rw[inU_mem]at hv;simp at hv;rcases hv with rfl|rfl|rfl|rfl|rfl|rfl|rfl|rfl|rfl|rfl<;>decide
 have c0:=f.c0;obtain⟨ct0,ft0⟩:=f.todo;obtain⟨W,hW⟩:∃W,W=(w.setCell ⟨g,t,none⟩ (.string (y.extract 2 y.size))).drew:=⟨_,rfl⟩;obtain⟨f1,b1⟩:=f.setTodo (y.extract 2 y.size);rw[←hW]at f1 b1;have hyr:(y.extract 2 y.size).data.toList=r:=by rw[tail_data,hyd];rfl
 rw[hyr]at f1;have HW:Hid (W=(w.setCell ⟨g,t,none⟩ (.string (y.extract 2 y.size))).drew):=hW;obtain⟨a,ha⟩:∃a:Int,a=x+(v.toNat:Int)-48:=⟨_,rfl⟩;have ha0:0≤a∧a≤18:=by omega
 obtain⟨V,hV⟩:∃V,V=(W.setCell ⟨gr,t,none⟩ (.int .i64 a)).drew:=⟨_,rfl⟩;obtain⟨f2,b2⟩:=f1.setReg a;rw[←hV]at f2 b2;have HV:Hid (V=(W.setCell ⟨gr,t,none⟩ (.int .i64 a)).drew):=hV;have HA:Hid (a=x+(v.toNat:Int)-48):=ha;have HP1:Hid (PM V B { P with todo:=P.todo.set t r,regs:=P.regs.set t a }):=⟨_,_,_,_,_,_,_,_,f2.pd⟩;have HB1:Hid (Fr B w V):=b1.trans b2;have HP2:Hid (PM (V.setCell ⟨gr,t,none⟩ (.int .i64 (a-10))).drew B { P with todo:=P.todo.set t r,regs:=P.regs.set t (a-10) }):=by
  have:=(f2.pd.setReg t (a-10)).1.drewN 1;simp only[List.set_set]at this;exact⟨_,_,_,_,_,_,_,_,this⟩
 have HB2:Hid (Fr B w (V.setCell ⟨gr,t,none⟩ (.int .i64 (a-10))).drew):=(b1.trans b2).trans (f2.pd.setReg t (a-10)).2.drew;have d2:=f1.c2;obtain⟨dr,zr⟩:=f1.reg;have e2:=f2.c2;obtain⟨er,yr⟩:=f2.reg;have hbV:=f2.pd.hb;clear f2 b2 hV ha;have lr:=f.lr;have hbW:=f1.pd.hb;clear hW;have lt:=f.lt;have hb:=f.pd.hb;have sz:Hid (Calls Tryz.prog 20 #[.int .u8 105] w fun e w'=>e=.returned (.int .i64 2)∧w'=w):=size_any 105 w;clear hyd hl f b1 ht hh hx f1 hyr h hv hy0'
 go_enter Tryz.func73,Tryz.ntmps73
 go_wp2_with fail
 refine sz.out.mono ?_;rintro e w' ⟨rfl,rfl⟩;go_wp2
 go_region
 all_goals
  rw[←HW.out];go_wp2
  go_region
  all_goals
   rw[←HA.out,←HV.out]
   by_cases h9:9<a
   ·have HE:Hid (addP x ((v.toNat:Int)-48)=a-10):=by
     show addP _ _=_;have:=HA.out;rw[addP,if_pos (by omega)];omega
    go_wp2
    go_region
    all_goals
     go_wp2
     go_ret2
     rw[HE.out];exact⟨rfl,HP2.out,HB2.out⟩
   ·have HE:Hid (addP x ((v.toNat:Int)-48)=a):=by
     show addP _ _=_;have:=HA.out;rw[addP,if_neg (by omega)];omega
    go_wp2
    go_ret2
    rw[HE.out];exact⟨rfl,HP1.out,HB1.out⟩
set_option maxHeartbeats 1600000 in
set_option maxRecDepth 100000 in
theorem does_out(r l:List UInt8)(t:Nat)(x:Nat)(w:World)(B:Nat)(P:PS)(h:PM w B P)
  (ht:P.todo[t]?=some (111::r))(hh:P.held[t]?=some l)(hx:P.regs[t]?=some (x:Int))(hl:(111::r).length≤100000)(hx9:x≤9)(hpr:P.pr.length≤100000) :
  Calls Tryz.prog 73 #[.pointer (some ⟨B+1,0,none⟩),.int .i64 t] w fun e w'=>e=.returned (.tuple #[.int .u8 111,.int .u8 0])∧PM w' B { P with todo:=P.todo.set t r,pr:=P.pr++[UInt8.ofNat (48+x)] }∧Fr B w w':=by
 obtain⟨g,gh,gr,as',ct,ch,cr,cs,nt,nh,nr,f⟩:=TF.of h ht hh hx;obtain⟨y,hy⟩:∃y:ByteArray,y=⟨(111::r).toArray⟩:=⟨_,rfl⟩;obtain⟨k,hk⟩:∃k:ByteArray,k=⟨l.toArray⟩:=⟨_,rfl⟩;rw[←hy,←hk]at f;have hyd:y.data.toList=111::r:=by rw[hy]
 clear hk hy;have hys:y.size≤100000:=by rw[←len_eq,hyd];exact hl
 have hy2:1≤y.size:=by rw[←len_eq,hyd];simp
 have hy0:(y[0].toNat:Int)=111:=by
  have:=byteAt y 0 (by omega);rw[hyd]at this;rw[←Option.some.inj this];rfl
 have hy0':y[0]=111:=by
  have:=byteAt y 0 (by omega);rw[hyd]at this;rw[←Option.some.inj this]
 have c0:=f.c0;obtain⟨ct0,ft0⟩:=f.todo;obtain⟨W,hW⟩:∃W,W=(w.setCell ⟨g,t,none⟩ (.string (y.extract 1 y.size))).drew:=⟨_,rfl⟩;obtain⟨f1,b1⟩:=f.setTodo (y.extract 1 y.size);rw[←hW]at f1 b1;have hyr:(y.extract 1 y.size).data.toList=r:=by rw[tail_data,hyd];rfl
 rw[hyr]at f1;have HW:Hid (W=(w.setCell ⟨g,t,none⟩ (.string (y.extract 1 y.size))).drew):=hW;obtain⟨q,hq⟩:∃q:ByteArray,q=⟨P.pr.toArray⟩:=⟨_,rfl⟩;have hqd:q.data.toList=P.pr:=by rw[hq]
 have hqs:q.size≤100000:=by rw[←len_eq,hqd];exact hpr
 clear hq;obtain⟨dg,hdg⟩:∃dg:ByteArray,dg=(ByteArray.mk #[48,49,50,51,52,53,54,55,56,57]).extract x (x+1):=⟨_,rfl⟩;have hkv:(q++dg).data.toList=P.pr++[UInt8.ofNat (48+x)]:=by
  rw[cat_data,hqd,hdg,ByteArray.data_extract,Array.toList_extract];have:x=0∨x=1∨x=2∨x=3∨x=4∨x=5∨x=6∨x=7∨x=8∨x=9:=by omega
  rcases this with rfl|rfl|rfl|rfl|rfl|rfl|rfl|rfl|rfl|rfl<;>rfl
 have hdgs:dg.size≤1:=by rw[hdg];simp;omega
 have HD:Hid (dg=(ByteArray.mk #[48,49,50,51,52,53,54,55,56,57]).extract x (x+1)):=hdg;obtain⟨hp,hbel⟩:=f1.pd.setPr (q++dg).data.toList;rw[←sv_of]at hp hbel;have HP:Hid (PM (W.setCell ⟨B+1,4,none⟩ (.string (q++dg))).drew B { P with todo:=P.todo.set t r,pr:=P.pr++[UInt8.ofNat (48+x)] }):=by
  rw[hkv]at hp;exact⟨_,_,_,_,_,_,_,_,hp.drewN 1⟩
 have HB:Hid (Fr B w (W.setCell ⟨B+1,4,none⟩ (.string (q++dg))).drew):=b1.trans hbel.drew;have d2:=f1.c2;have d4:W.cell? ⟨B+1,4,none⟩=some (.string q):=by rw[f1.pd.c4];show some (sv P.pr)=_;rw[←hqd,←sv_of]
 have z4:=f1.pd.fz 4;obtain⟨dr,zr⟩:=f1.reg;clear hp hbel hkv hdg hqd;have lr:=f.lr;have hbW:=f1.pd.hb;clear hW;have lt:=f.lt;have hb:=f.pd.hb;have sz:Hid (Calls Tryz.prog 20 #[.int .u8 111] w fun e w'=>e=.returned (.int .i64 1)∧w'=w):=size_any 111 w;clear hyd hl f b1 ht hh hx f1 hyr h hy0' hpr
 go_enter Tryz.func73,Tryz.ntmps73
 go_wp2_with fail
 refine sz.out.mono ?_;rintro e w' ⟨rfl,rfl⟩;go_wp2
 go_region
 all_goals
  rw[←HW.out];go_wp2
  go_region
  all_goals
   rw[←HD.out];go_wp2
   go_ret2
   exact⟨rfl,HP.out,HB.out⟩
set_option maxHeartbeats 1600000 in
set_option maxRecDepth 100000 in
theorem does_loop{X J a:List UInt8}(ha:TD X J a)(r l:List UInt8)(t:Nat)(x:Int)(w:World)(B:Nat)(P:PS)(h:PM w B P)
  (ht:P.todo[t]?=some (33::123::(a++125::r)))(hh:P.held[t]?=some l)(hx:P.regs[t]?=some x)(hl:(33::123::(a++125::r)).length≤100000)(z:Int)(hz:(if x != 0 then 116 else 102)=z)(q:List UInt8)(hq:testP (33::123::(a++125::r)) (x != 0)=q) :
  Calls Tryz.prog 73 #[.pointer (some ⟨B+1,0,none⟩),.int .i64 t] w fun e w'=>e=.returned (.tuple #[.int .u8 z,.int .u8 0])∧PM w' B { P with todo:=P.todo.set t q }∧Fr B w w':=by
 obtain⟨g,gh,gr,as',ct,ch,cr,cs,nt,nh,nr,f⟩:=TF.of h ht hh hx;obtain⟨y,hy⟩:∃y:ByteArray,y=⟨(33::123::(a++125::r)).toArray⟩:=⟨_,rfl⟩;obtain⟨k,hk'⟩:∃k:ByteArray,k=⟨l.toArray⟩:=⟨_,rfl⟩;rw[←hy,←hk']at f;have hyd:y.data.toList=33::123::(a++125::r):=by rw[hy]
 clear hk' hy;have hys:y.size≤100000:=by rw[←len_eq,hyd];exact hl
 have hy2:1≤y.size:=by rw[←len_eq,hyd];simp
 have hy0:(y[0].toNat:Int)=33:=by
  have:=byteAt y 0 (by omega);rw[hyd]at this;rw[←Option.some.inj this];rfl
 have c0:=f.c0;obtain⟨ct0,ft0⟩:=f.todo;have lt:=f.lt;have hb:=f.pd.hb;have H1:Hid (PM w B P):=h;have HZ:Hid ((if x != 0 then 116 else 102)=z):=hz;have HQ:Hid (testP (33::123::(a++125::r)) (x != 0)=q):=hq;clear hz hq;have H2:Hid (P.todo[t]?=some (33::123::(a++125::r))):=ht;have H3:Hid (P.regs[t]?=some x):=hx;have H4:Hid ((33::123::(a++125::r)).length≤100000):=hl;clear hyd hl f ht hh hx h
 go_enter Tryz.func73,Tryz.ntmps73
 go_wp2_with fail
 refine(test_loop ha r t x w B P H1.out H2.out H3.out H4.out).mono ?_;rintro e w' ⟨rfl,hp,hbel⟩;rw[HQ.out]at hp;have HP:Hid (PM w' B { P with todo:=P.todo.set t q }):=hp;have HB:Hid _:=hbel;clear hp hbel;rw[HZ.out];go_wp2
 go_ret2
 exact⟨rfl,HP.out,HB.out⟩
set_option maxHeartbeats 1600000 in
set_option maxRecDepth 100000 in
theorem does_branch{X J a:List UInt8}(ha:TD X J a){Y K b:List UInt8}(hk:TD Y K b)(r l:List UInt8)(t:Nat)(x:Int)(w:World)(B:Nat)(P:PS)(h:PM w B P)
  (ht:P.todo[t]?=some (63::123::(a++125::123::(b++125::r))))(hh:P.held[t]?=some l)(hx:P.regs[t]?=some x)(hl:(63::123::(a++125::123::(b++125::r))).length≤100000)(z:Int)(hz:(if x != 0 then 116 else 102)=z)(q:List UInt8)(hq:testP (63::123::(a++125::123::(b++125::r))) (x != 0)=q) :
  Calls Tryz.prog 73 #[.pointer (some ⟨B+1,0,none⟩),.int .i64 t] w fun e w'=>e=.returned (.tuple #[.int .u8 z,.int .u8 0])∧PM w' B { P with todo:=P.todo.set t q }∧Fr B w w':=by
 obtain⟨g,gh,gr,as',ct,ch,cr,cs,nt,nh,nr,f⟩:=TF.of h ht hh hx;obtain⟨y,hy⟩:∃y:ByteArray,y=⟨(63::123::(a++125::123::(b++125::r))).toArray⟩:=⟨_,rfl⟩;obtain⟨k,hk'⟩:∃k:ByteArray,k=⟨l.toArray⟩:=⟨_,rfl⟩;rw[←hy,←hk']at f;have hyd:y.data.toList=63::123::(a++125::123::(b++125::r)):=by rw[hy]
 clear hk' hy;have hys:y.size≤100000:=by rw[←len_eq,hyd];exact hl
 have hy2:1≤y.size:=by rw[←len_eq,hyd];simp
 have hy0:(y[0].toNat:Int)=63:=by
  have:=byteAt y 0 (by omega);rw[hyd]at this;rw[←Option.some.inj this];rfl
 have c0:=f.c0;obtain⟨ct0,ft0⟩:=f.todo;have lt:=f.lt;have hb:=f.pd.hb;have H1:Hid (PM w B P):=h;have HZ:Hid ((if x != 0 then 116 else 102)=z):=hz;have HQ:Hid (testP (63::123::(a++125::123::(b++125::r))) (x != 0)=q):=hq;clear hz hq;have H2:Hid (P.todo[t]?=some (63::123::(a++125::123::(b++125::r)))):=ht;have H3:Hid (P.regs[t]?=some x):=hx;have H4:Hid ((63::123::(a++125::123::(b++125::r))).length≤100000):=hl;clear hyd hl f ht hh hx h
 go_enter Tryz.func73,Tryz.ntmps73
 go_wp2_with fail
 refine(test_branch ha hk r t x w B P H1.out H2.out H3.out H4.out).mono ?_;rintro e w' ⟨rfl,hp,hbel⟩;rw[HQ.out]at hp;have HP:Hid (PM w' B { P with todo:=P.todo.set t q }):=hp;have HB:Hid _:=hbel;clear hp hbel;rw[HZ.out];go_wp2
 go_ret2
 exact⟨rfl,HP.out,HB.out⟩
end Go.Proofs.YtdgkpkdinfklaabGreat
