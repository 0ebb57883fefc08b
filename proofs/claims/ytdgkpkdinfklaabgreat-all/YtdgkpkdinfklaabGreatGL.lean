import Derived.Test.YtdgkpkdinfklaabGreatGK
import Derived.Laws.ResultCell
import Derived.Test.YtdgkpkdinfklaabGreatXMaE
import Derived.Test.YtdgkpkdinfklaabGreatXMaF
namespace Go.Proofs.YtdgkpkdinfklaabGreat
open Go.RowKit
def endST:ST:=⟨9,0,0,0,false,0,0,false,false,false,false,false⟩
def upcN(F:List ST):Nat→Int→ST
 | 0,_=>endST
 | n+1,p=>if p<0 then endST else match F[p.toNat]? with
  | none=>endST
  | some s=>if s.kind=8 then upcN F n s.nx else s
def upc(F:List ST)(p:Int):ST:=upcN F F.length p
def SRow(w:World)(vs:Value)(F:List ST):Prop:=∃B am cm,vs=.slice am F.length cm∧w.ownsRow B 88 12 (.slice am F.length cm) F.length (stsV F)
theorem stepAt{w:World}{B g cm:Nat}{F:List ST}(h:w.ownsRow B 88 12 (.slice (some ⟨g,0,none⟩) F.length cm) F.length (stsV F))(i:Nat)(m:ST)(hx:F[i]?=some m)(j:Nat)(hj:j<12)(v:Value)(hv:(stV m)[j]?=some v) :
  w.cell? ⟨g,i*12+j,none⟩=some v:=by
 have hi:i<F.length:=(List.getElem?_eq_some_iff.1 hx).1;exact(h.cellAt (i*12+j) (by omega)).trans ((stsV_get F i m hx j hj).trans hv)
def thAgg(t:TH):Value:=.agg #[.int .i64 t.name,.int .i64 t.next,.int .i64 t.reg,.int .i64 t.kn.c0,.int .i64 t.kn.c1,.int .i64 t.kn.c2,.int .i64 t.kn.c3]
set_option maxHeartbeats 3200000 in
set_option maxRecDepth 100000 in
theorem upcoming_any(b:Nat)(vs vt vp:Value)(gl:List GB)(lk:List LK)(r:Bool)(t:TH)(F:List ST)(w:World)(hm:Blk w b (mV vs vt vp gl lk r) 128)(hs:SRow w vs F)(hF:F.length≤1000) :
  Calls Tryz.prog 91 #[.pointer (some ⟨b,0,none⟩),thAgg t] w fun e w'=>e=.returned (stAgg (upc F t.next))∧Chg [] w w':=by
 obtain⟨B,am,cm,rfl,hrow⟩:=hs;have hblt:=hm.lt;have c0:=hm.cell 0 _ rfl;have HR:Hid (w.ownsRow B 88 12 (.slice am F.length cm) F.length (stsV F)):=hrow;obtain⟨n,hn⟩:∃n,n=F.length:=⟨_,rfl⟩;have HN:Hid (n=F.length):=hn;rw[←hn]at c0 hF;clear hm hrow hn;unfold thAgg stAgg
 go_enter Tryz.func91,Tryz.ntmps91
 go_wp2
 go_loopw [5,6] (fun p i wr=>∃(k:Nat) (q:Int),k≤n∧p=.int .i64 q∧i=.int .i64 k∧upcN F (n-k) q=upc F t.next∧wr=(w.alloc (.cells #[.int .i64 t.name,.int .i64 t.next,.int .i64 t.reg,.int .i64 t.kn.c0,.int .i64 t.kn.c1,.int .i64 t.kn.c2,.int .i64 t.kn.c3] 153)).alloc (.cells #[.int .i64 0,.int .i64 0,.int .i64 0,.int .i64 0,.bool false,.int .i64 0,.int .i64 0,.bool false,.bool false,.bool false,.bool false,.bool false] 88)) (fun _ i _=>n-(intOf i).toNat)
 case atStart=>exact⟨0,t.next,Nat.zero_le _,rfl,rfl,by rw[HN.out];rfl,rfl⟩
 case round=>
  obtain⟨k,q,hk,rfl,rfl,hu,rfl⟩:=hrel;have HU:Hid (upcN F (n-k) q=upc F t.next):=hu;clear hu
  by_cases hlt:k<n
  ·obtain⟨m,hm⟩:∃m,n-k=m+1:=⟨n-k-1,by omega⟩
   by_cases hq0:q<0
   ·have E:Hid (upc F t.next=endST):=by
     show _=_;rw[←HU.out,hm,upcN,if_pos hq0]
    clear hm;go_wp2
    (try simp only[Exit.inBlock,Exit.then])
    rw[show upc F t.next=endST from E.out];refine bodyPost_ret (v:=stAgg endST) ?_ rfl ⟨rfl,?_⟩
    ·rw[results_cell rfl];go_simp;rfl
    ·exact((Chg.refl _ w).alloc _).alloc _
   ·by_cases hqn:(n:Int)≤q
    ·have E:Hid (upc F t.next=endST):=by
      show _=_;rw[←HU.out,hm,upcN,if_neg hq0,List.getElem?_eq_none (by rw[←HN.out];omega)]
     clear hm;go_wp2
     (try simp only[Exit.inBlock,Exit.then])
     rw[show upc F t.next=endST from E.out];refine bodyPost_ret (v:=stAgg endST) ?_ rfl ⟨rfl,?_⟩
     ·rw[results_cell rfl];go_simp;rfl
     ·exact((Chg.refl _ w).alloc _).alloc _
    ·obtain⟨j,rfl⟩:=Int.eq_ofNat_of_zero_le (Int.not_lt.1 hq0);have hj:j<n:=by omega
     obtain⟨s,hs⟩:∃s,F[j]?=some s:=⟨F[j]'(by rw[←HN.out];exact hj),List.getElem?_eq_getElem _⟩;obtain⟨g,cap',hv,hb,_⟩:=HR.out.form (by rw[←HN.out];omega);cases hv;have hrow':=(HR.out.alloc (.cells #[.int .i64 t.name,.int .i64 t.next,.int .i64 t.reg,.int .i64 t.kn.c0,.int .i64 t.kn.c1,.int .i64 t.kn.c2,.int .i64 t.kn.c3] 153)).alloc (.cells #[.int .i64 0,.int .i64 0,.int .i64 0,.int .i64 0,.bool false,.int .i64 0,.int .i64 0,.bool false,.bool false,.bool false,.bool false,.bool false] 88);have q0:=stepAt hrow' j s hs 0 (by decide) _ rfl;have q1:=stepAt hrow' j s hs 1 (by decide) _ rfl;have q2:=stepAt hrow' j s hs 2 (by decide) _ rfl;have q3:=stepAt hrow' j s hs 3 (by decide) _ rfl;have q4:=stepAt hrow' j s hs 4 (by decide) _ rfl;have q5:=stepAt hrow' j s hs 5 (by decide) _ rfl;have q6:=stepAt hrow' j s hs 6 (by decide) _ rfl;have q7:=stepAt hrow' j s hs 7 (by decide) _ rfl;have q8:=stepAt hrow' j s hs 8 (by decide) _ rfl;have q9:=stepAt hrow' j s hs 9 (by decide) _ rfl;have q10:=stepAt hrow' j s hs 10 (by decide) _ rfl;have q11:=stepAt hrow' j s hs 11 (by decide) _ rfl;rw[Nat.add_zero]at q0;clear hrow'
     by_cases h8:s.kind=8
     ·have b8:(s.kind != 8)=false:=by rw[h8];rfl
      have E:Hid (upcN F (n-(k+1)) s.nx=upc F t.next):=by
       show _=_;rw[←HU.out,hm,upcN,if_neg hq0,Int.toNat_natCast,hs];simp only;rw[if_pos h8,show n-(k+1)=m by omega]
      clear hm h8 hs;go_wp2
      go_roundw
      case rel=>exact⟨k+1,s.nx,by omega,rfl,by go_num,E.out,by first|rfl|trivial⟩
      case measure=>simp[intOf];omega
     ·have b8:(s.kind != 8)=true:=by simpa using h8
      have E:Hid (upc F t.next=s):=by
       show _=_;rw[←HU.out,hm,upcN,if_neg hq0,Int.toNat_natCast,hs];simp only;rw[if_neg h8]
      clear hm h8 hs;go_wp2
      (try simp only[Exit.inBlock,Exit.then])
      rw[show upc F t.next=s from E.out];refine bodyPost_ret (v:=stAgg s) ?_ rfl ⟨rfl,?_⟩
      ·rw[results_cell rfl];go_simp;rfl
      ·exact((Chg.refl _ w).alloc _).alloc _
  ·have E:Hid (upc F t.next=endST):=by
    show _=_;rw[←HU.out,show n-k=0 by omega];rfl
   go_wp2
   (try simp only[Exit.inBlock,Exit.then])
   rw[show upc F t.next=endST from E.out];refine bodyPost_ret (v:=stAgg endST) ?_ rfl ⟨rfl,?_⟩
   ·rw[results_cell rfl];go_simp;rfl
   ·exact((Chg.refl _ w).alloc _).alloc _
def lk0:LK:=⟨0,.zero⟩
def awaitedM(lk:List LK)(s:ST):Int:=if s.kind=6∧0≤s.num∧s.num<5 then(lk.getD s.num.toNat lk0).holder else 0
theorem less5{n:Nat}(h:n<5):n=0∨n=1∨n=2∨n=3∨n=4:=by omega
set_option maxHeartbeats 3200000 in
set_option maxRecDepth 100000 in
theorem awaited_any(b:Nat)(vs vt vp:Value)(gl:List GB)(lk:List LK)(r:Bool)(s:ST)(w:World)(hm:Blk w b (mV vs vt vp gl lk r) 128)(hgl:gl.length=3)(hlk:lk.length=5) :
  Calls Tryz.prog 92 #[.pointer (some ⟨b,0,none⟩),stAgg s] w fun e w'=>e=.returned (.int .i64 (awaitedM lk s))∧Chg [] w w':=by
 obtain⟨g0,g1,g2,rfl⟩:=three hgl;obtain⟨l0,l1,l2,l3,l4,rfl⟩:=fives hlk;have hblt:=hm.lt;obtain⟨kind,place,thread,num,mend,nx,el,h0,h1,h2,h3,h4⟩:=s;have HG:Hid (∀o,Chg [] w (w.alloc o)):=fun o=>(Chg.refl _ w).alloc o
 unfold stAgg;simp only
 by_cases h6:kind=6
 ·subst h6
  by_cases hn:num<0
  ·have E:Hid (awaitedM [l0,l1,l2,l3,l4] ⟨6,place,thread,num,mend,nx,el,h0,h1,h2,h3,h4⟩=0):=if_neg (by simp only;omega)
   go_enter Tryz.func92,Tryz.ntmps92
   go_wp2;go_ret;exact⟨by rw[E.out];rfl,HG.out _⟩
  ·by_cases h5:5≤num
   ·have E:Hid (awaitedM [l0,l1,l2,l3,l4] ⟨6,place,thread,num,mend,nx,el,h0,h1,h2,h3,h4⟩=0):=if_neg (by simp only;omega)
    go_enter Tryz.func92,Tryz.ntmps92
    go_wp2;go_ret;exact⟨by rw[E.out];rfl,HG.out _⟩
   ·obtain⟨n,rfl⟩:=Int.eq_ofNat_of_zero_le (Int.not_lt.1 hn);have q0:=fun o=>(hm.alloc o).cell 29 _ rfl
    have q1:=fun o=>(hm.alloc o).cell 34 _ rfl
    have q2:=fun o=>(hm.alloc o).cell 39 _ rfl
    have q3:=fun o=>(hm.alloc o).cell 44 _ rfl
    have q4:=fun o=>(hm.alloc o).cell 49 _ rfl
    clear hm;rcases less5 (show n<5 by omega)with rfl|rfl|rfl|rfl|rfl
    all_goals
     clear hn h5
     go_enter Tryz.func92,Tryz.ntmps92
     go_wp2
     go_quiet (fail)
     go_wp2;go_ret;exact⟨rfl,(HG.out _).drewN _⟩
 ·have b6:(kind != 6)=true:=by simpa using h6
  have E:Hid (awaitedM [l0,l1,l2,l3,l4] ⟨kind,place,thread,num,mend,nx,el,h0,h1,h2,h3,h4⟩=0):=if_neg (fun h=>h6 h.1)
  go_enter Tryz.func92,Tryz.ntmps92
  go_wp2;go_ret;exact⟨by rw[E.out];rfl,HG.out _⟩
structure CS where
 gl:List GB
 lk:List LK
 pr:List UInt8
 raced:Bool
def CS.g(c:CS)(n:Nat):GB:=c.gl.getD n gb0
def CS.l(c:CS)(n:Nat):LK:=c.lk.getD n lk0
theorem get_any(b k n:Nat)(vs vt vp:Value)(c:CS)(t:TH)(w:World)(hm:Blk w b (mV vs vt vp c.gl c.lk c.raced) 128)(ht:Blk w k (thV t) 153)(hbk:b≠k)(h1:1≤t.name)(h4:t.name≤4)(hgl:c.gl.length=3)(hlk:c.lk.length=5)(hn:n<3) :
  Calls Tryz.prog 110 #[.pointer (some ⟨b,0,none⟩),.pointer (some ⟨k,0,none⟩),.int .i64 n] w fun e w'=>e=.returned (.tuple #[]) ∧
   Blk w' b (mV vs vt vp (c.gl.set n (noteG (c.g n) t)) c.lk (c.raced||t.kn.misses (c.g n).puts)) 128∧Blk w' k (thV { t with reg:=(c.g n).val }) 153∧Chg [b,k] w w':=by
 obtain⟨gl,lk,pr,raced⟩:=c;simp only at hm hgl hlk ⊢;obtain⟨g0,g1,g2,rfl⟩:=three hgl;obtain⟨l0,l1,l2,l3,l4,rfl⟩:=fives hlk;rcases less3 hn with rfl|rfl|rfl
 ·exact get_0 b k vs vt vp g0 g1 g2 l0 l1 l2 l3 l4 raced t w hm ht hbk h1 h4
 ·exact get_1 b k vs vt vp g0 g1 g2 l0 l1 l2 l3 l4 raced t w hm ht hbk h1 h4
 ·exact get_2 b k vs vt vp g0 g1 g2 l0 l1 l2 l3 l4 raced t w hm ht hbk h1 h4
theorem put_any(b k n:Nat)(vs vt vp:Value)(c:CS)(t:TH)(w:World)(hm:Blk w b (mV vs vt vp c.gl c.lk c.raced) 128)(ht:Blk w k (thV t) 153)(hbk:b≠k)(h1:1≤t.name)(h4:t.name≤4)(hgl:c.gl.length=3)(hlk:c.lk.length=5)(hn:n<3) :
  Calls Tryz.prog 111 #[.pointer (some ⟨b,0,none⟩),.pointer (some ⟨k,0,none⟩),.int .i64 n] w fun e w'=>e=.returned (.tuple #[]) ∧
   Blk w' b (mV vs vt vp (c.gl.set n (noteP (c.g n) t)) c.lk ((c.raced||t.kn.misses (c.g n).puts)||t.kn.misses (c.g n).gets)) 128∧Blk w' k (thV t) 153∧Chg [b,k] w w':=by
 obtain⟨gl,lk,pr,raced⟩:=c;simp only at hm hgl hlk ⊢;obtain⟨g0,g1,g2,rfl⟩:=three hgl;obtain⟨l0,l1,l2,l3,l4,rfl⟩:=fives hlk;rcases less3 hn with rfl|rfl|rfl
 ·exact put_0 b k vs vt vp g0 g1 g2 l0 l1 l2 l3 l4 raced t w hm ht hbk h1 h4
 ·exact put_1 b k vs vt vp g0 g1 g2 l0 l1 l2 l3 l4 raced t w hm ht hbk h1 h4
 ·exact put_2 b k vs vt vp g0 g1 g2 l0 l1 l2 l3 l4 raced t w hm ht hbk h1 h4
theorem take_any(b k n:Nat)(vs vt vp:Value)(c:CS)(t:TH)(w:World)(hm:Blk w b (mV vs vt vp c.gl c.lk c.raced) 128)(ht:Blk w k (thV t) 153)(hbk:b≠k)(hgl:c.gl.length=3)(hlk:c.lk.length=5)(hn:n<5) :
  Calls Tryz.prog 114 #[.pointer (some ⟨b,0,none⟩),.pointer (some ⟨k,0,none⟩),.int .i64 n] w fun e w'=>e=.returned (.tuple #[]) ∧
   Blk w' b (mV vs vt vp c.gl (c.lk.set n { c.l n with holder:=t.name }) c.raced) 128∧Blk w' k (thV { t with kn:=t.kn.learn (c.l n).kn }) 153∧Chg [b,k] w w':=by
 obtain⟨gl,lk,pr,raced⟩:=c;simp only at hm hgl hlk ⊢;obtain⟨g0,g1,g2,rfl⟩:=three hgl;obtain⟨l0,l1,l2,l3,l4,rfl⟩:=fives hlk;rcases less5 hn with rfl|rfl|rfl|rfl|rfl
 ·exact take_0 b k vs vt vp g0 g1 g2 l0 l1 l2 l3 l4 raced t w hm ht hbk
 ·exact take_1 b k vs vt vp g0 g1 g2 l0 l1 l2 l3 l4 raced t w hm ht hbk
 ·exact take_2 b k vs vt vp g0 g1 g2 l0 l1 l2 l3 l4 raced t w hm ht hbk
 ·exact take_3 b k vs vt vp g0 g1 g2 l0 l1 l2 l3 l4 raced t w hm ht hbk
 ·exact take_4 b k vs vt vp g0 g1 g2 l0 l1 l2 l3 l4 raced t w hm ht hbk
theorem give_any(b k n:Nat)(vs vt vp:Value)(c:CS)(t:TH)(w:World)(hm:Blk w b (mV vs vt vp c.gl c.lk c.raced) 128)(ht:Blk w k (thV t) 153)(hbk:b≠k)(hgl:c.gl.length=3)(hlk:c.lk.length=5)(hn:n<5) :
  Calls Tryz.prog 116 #[.pointer (some ⟨b,0,none⟩),.pointer (some ⟨k,0,none⟩),.int .i64 n] w fun e w'=>e=.returned (.tuple #[]) ∧
   Blk w' b (mV vs vt vp c.gl (c.lk.set n ⟨0,t.kn⟩) c.raced) 128∧Blk w' k (thV t) 153∧Chg [b,k] w w':=by
 obtain⟨gl,lk,pr,raced⟩:=c;simp only at hm hgl hlk ⊢;obtain⟨g0,g1,g2,rfl⟩:=three hgl;obtain⟨l0,l1,l2,l3,l4,rfl⟩:=fives hlk;rcases less5 hn with rfl|rfl|rfl|rfl|rfl
 ·exact give_0 b k vs vt vp g0 g1 g2 l0 l1 l2 l3 l4 raced t w hm ht hbk
 ·exact give_1 b k vs vt vp g0 g1 g2 l0 l1 l2 l3 l4 raced t w hm ht hbk
 ·exact give_2 b k vs vt vp g0 g1 g2 l0 l1 l2 l3 l4 raced t w hm ht hbk
 ·exact give_3 b k vs vt vp g0 g1 g2 l0 l1 l2 l3 l4 raced t w hm ht hbk
 ·exact give_4 b k vs vt vp g0 g1 g2 l0 l1 l2 l3 l4 raced t w hm ht hbk
def CS.does(c:CS)(t:TH)(s:ST):CS×TH×UInt8:=
 if s.kind=1 then({ c with gl:=c.gl.set s.num.toNat (noteG (c.g s.num.toNat) t),raced:=c.raced||t.kn.misses (c.g s.num.toNat).puts },{ t with reg:=(c.g s.num.toNat).val },103)
 else if s.kind=2 then({ c with gl:=c.gl.set s.num.toNat (noteP (c.g s.num.toNat) t),raced:=(c.raced||t.kn.misses (c.g s.num.toNat).puts)||t.kn.misses (c.g s.num.toNat).gets },t,112)
 else if s.kind=3 then(c,t.add s.num,105)
 else if s.kind=4 then({ c with pr:=c.pr++[UInt8.ofNat (48+t.reg.toNat)] },t,111)
 else if s.kind=5 then(c,t.test s.el,t.tested)
 else if s.kind=6 then({ c with lk:=c.lk.set s.num.toNat { c.l s.num.toNat with holder:=t.name } },{ t with kn:=t.kn.learn (c.l s.num.toNat).kn },if s.mend then 60 else 91)
 else if s.kind=7 then({ c with lk:=c.lk.set s.num.toNat ⟨0,t.kn⟩ },t,if s.mend then 62 else 93)
 else(c,t,46)
def StOk(s:ST):Prop:=((s.kind=1∨s.kind=2)→0≤s.num∧s.num<3)∧(s.kind=3→0≤s.num∧s.num≤9)∧((s.kind=6∨s.kind=7)→0≤s.num∧s.num<5)
def bysV(l:List UInt8):List Value:=l.map fun b=>.int .u8 (b.toNat:Int)
def DoOut(w:World)(b k Bp:Nat)(vs vt vp:Value)(o:CS×TH×UInt8)(e:Ending)(w':World):Prop:=
 ∃vp',e=.returned (.int .u8 o.2.2.toNat)∧Blk w' b (mV vs vt vp' o.1.gl o.1.lk o.1.raced) 128∧Blk w' k (thV o.2.1) 153∧w'.ownsRow Bp 5 1 vp' o.1.pr.length (bysV o.1.pr) ∧
  Chg (b::k::vp.ownBlock.toList) w w'∧(vp'.ownBlock=vp.ownBlock∨∃x,vp'.ownBlock=some x∧w.heap.size≤x)
theorem row_chg{S:List Nat}{w w':World}{B e size n:Nat}{v:Value}{xs:List Value}(h:w.ownsRow B e size v n xs)(hc:Chg S w w')(hs:∀g,v.ownBlock=some g→g∉S):w'.ownsRow B e size v n xs:=by
 refine⟨h.1,?_⟩;rcases h.2 with h0|⟨g,cap,cur,hv,hg,hh,r⟩
 ·exact .inl h0
 ·exact .inr ⟨g,cap,cur,hv,hg,by rw[hc.block g ((Array.getElem?_eq_some_iff.1 hh).1) (hs g (by rw[hv];rfl))];exact hh,r⟩
theorem row_ne{w:World}{B e size n k ty:Nat}{v:Value}{xs l:List Value}(h:w.ownsRow B e size v n xs)(hk:Blk w k l ty)(hne:e≠ty):v.ownBlock≠some k:=by
 intro e';rcases h.2 with⟨rfl,_⟩|⟨g,cap,cur,rfl,_,hh,_⟩
 ·cases e'
 ·have:g=k:=by simpa[Value.ownBlock]using e'
  subst this;have hk':w.heap[g]?=some (.cells l.toArray ty):=hk;rw[hh]at hk';simp at hk';exact hne hk'.2
theorem nat_of{n:Int}(h:0≤n):∃k:Nat,n=k∧n.toNat=k:=by
 obtain⟨k,rfl⟩:=Int.eq_ofNat_of_zero_le h;exact⟨k,rfl,Int.toNat_natCast k⟩
section
variable (b k Bp : Nat) (vs vt vp : Value) (c : CS) (t : TH) (place thread num : Int) (mend : Bool) (nx el : Int) (h0 h1 h2 h3 h4 : Bool) (w : World)
set_option maxHeartbeats 3200000 in
set_option maxRecDepth 100000 in
theorem do_get(hm:Blk w b (mV vs vt vp c.gl c.lk c.raced) 128)(ht:Blk w k (thV t) 153)(hp:w.ownsRow Bp 5 1 vp c.pr.length (bysV c.pr))(_hbk:b≠k)(_hn1:1≤t.name)(_hn4:t.name≤4)(_hgl:c.gl.length=3)(_hlk:c.lk.length=5)(hnum:0≤num∧num<3) :
  Calls Tryz.prog 94 #[.pointer (some ⟨b,0,none⟩),.pointer (some ⟨k,0,none⟩),stAgg ⟨1,place,thread,num,mend,nx,el,h0,h1,h2,h3,h4⟩] w fun e w'=>DoOut w b k Bp vs vt vp (c.does t ⟨1,place,thread,num,mend,nx,el,h0,h1,h2,h3,h4⟩) e w':=by
 have hbl:=hm.lt;have hkl:=ht.lt;have npb:=row_ne hp hm (by decide);have npk:=row_ne hp ht (by decide);have HP:Hid (w.ownsRow Bp 5 1 vp c.pr.length (bysV c.pr)):=hp;obtain⟨n,en,en2⟩:=nat_of hnum.1;have hn:n<3:=by omega
 have ED:Hid (c.does t ⟨1,place,thread,num,mend,nx,el,h0,h1,h2,h3,h4⟩=({ c with gl:=c.gl.set n (noteG (c.g n) t),raced:=c.raced||t.kn.misses (c.g n).puts },{ t with reg:=(c.g n).val },103)):=by
  show _=_;rw[←en2];rfl
 have HM:Hid (Blk (w.alloc (.cells #[.int .i64 1,.int .i64 place,.int .i64 thread,.int .i64 (n:Int),.bool mend,.int .i64 nx,.int .i64 el,.bool h0,.bool h1,.bool h2,.bool h3,.bool h4] 88)) b (mV vs vt vp c.gl c.lk c.raced) 128):=hm.alloc _;have HT:Hid (Blk (w.alloc (.cells #[.int .i64 1,.int .i64 place,.int .i64 thread,.int .i64 (n:Int),.bool mend,.int .i64 nx,.int .i64 el,.bool h0,.bool h1,.bool h2,.bool h3,.bool h4] 88)) k (thV t) 153):=ht.alloc _;have HC:Hid (Chg [b,k] w (w.alloc (.cells #[.int .i64 1,.int .i64 place,.int .i64 thread,.int .i64 (n:Int),.bool mend,.int .i64 nx,.int .i64 el,.bool h0,.bool h1,.bool h2,.bool h3,.bool h4] 88))):=(Chg.refl _ w).alloc _;subst en;clear hm ht hp hnum;unfold stAgg
 go_enter Tryz.func94,Tryz.ntmps94
 go_wp2_with fail
 refine(get_any b k n vs vt vp c t _ HM.out HT.out _hbk _hn1 _hn4 _hgl _hlk hn).mono ?_;rintro e w1 ⟨rfl,m1,t1,c1⟩;have OUT:Hid (DoOut w b k Bp vs vt vp ({ c with gl:=c.gl.set n (noteG (c.g n) t),raced:=c.raced||t.kn.misses (c.g n).puts },{ t with reg:=(c.g n).val },103) (.returned (.int .u8 103)) w1):=by
  have cc:=HC.out.trans c1;exact⟨vp,rfl,m1,t1,row_chg HP.out cc (fun g hg=>by simp;exact⟨fun e=>npb (by rw[hg,e]),fun e=>npk (by rw[hg,e])⟩),cc.mono (by intro i hi;simp at hi;simp;rcases hi with h|h<;>simp[h]),.inl rfl⟩
 clear m1 t1 c1;go_wp2;go_ret;rw[ED.out];exact OUT.out
set_option maxHeartbeats 3200000 in
set_option maxRecDepth 100000 in
theorem do_put(hm:Blk w b (mV vs vt vp c.gl c.lk c.raced) 128)(ht:Blk w k (thV t) 153)(hp:w.ownsRow Bp 5 1 vp c.pr.length (bysV c.pr))(_hbk:b≠k)(_hn1:1≤t.name)(_hn4:t.name≤4)(_hgl:c.gl.length=3)(_hlk:c.lk.length=5)(hnum:0≤num∧num<3) :
  Calls Tryz.prog 94 #[.pointer (some ⟨b,0,none⟩),.pointer (some ⟨k,0,none⟩),stAgg ⟨2,place,thread,num,mend,nx,el,h0,h1,h2,h3,h4⟩] w fun e w'=>DoOut w b k Bp vs vt vp (c.does t ⟨2,place,thread,num,mend,nx,el,h0,h1,h2,h3,h4⟩) e w':=by
 have hbl:=hm.lt;have hkl:=ht.lt;have npb:=row_ne hp hm (by decide);have npk:=row_ne hp ht (by decide);have HP:Hid (w.ownsRow Bp 5 1 vp c.pr.length (bysV c.pr)):=hp;obtain⟨n,en,en2⟩:=nat_of hnum.1;have hn:n<3:=by omega
 have ED:Hid (c.does t ⟨2,place,thread,num,mend,nx,el,h0,h1,h2,h3,h4⟩=({ c with gl:=c.gl.set n (noteP (c.g n) t),raced:=(c.raced||t.kn.misses (c.g n).puts)||t.kn.misses (c.g n).gets },t,112)):=by
  show _=_;rw[←en2];rfl
 have HM:Hid (Blk (w.alloc (.cells #[.int .i64 2,.int .i64 place,.int .i64 thread,.int .i64 (n:Int),.bool mend,.int .i64 nx,.int .i64 el,.bool h0,.bool h1,.bool h2,.bool h3,.bool h4] 88)) b (mV vs vt vp c.gl c.lk c.raced) 128):=hm.alloc _;have HT:Hid (Blk (w.alloc (.cells #[.int .i64 2,.int .i64 place,.int .i64 thread,.int .i64 (n:Int),.bool mend,.int .i64 nx,.int .i64 el,.bool h0,.bool h1,.bool h2,.bool h3,.bool h4] 88)) k (thV t) 153):=ht.alloc _;have HC:Hid (Chg [b,k] w (w.alloc (.cells #[.int .i64 2,.int .i64 place,.int .i64 thread,.int .i64 (n:Int),.bool mend,.int .i64 nx,.int .i64 el,.bool h0,.bool h1,.bool h2,.bool h3,.bool h4] 88))):=(Chg.refl _ w).alloc _;subst en;clear hm ht hp hnum;unfold stAgg
 go_enter Tryz.func94,Tryz.ntmps94
 go_wp2_with fail
 refine(put_any b k n vs vt vp c t _ HM.out HT.out _hbk _hn1 _hn4 _hgl _hlk hn).mono ?_;rintro e w1 ⟨rfl,m1,t1,c1⟩;have OUT:Hid (DoOut w b k Bp vs vt vp ({ c with gl:=c.gl.set n (noteP (c.g n) t),raced:=(c.raced||t.kn.misses (c.g n).puts)||t.kn.misses (c.g n).gets },t,112) (.returned (.int .u8 112)) w1):=by
  have cc:=HC.out.trans c1;exact⟨vp,rfl,m1,t1,row_chg HP.out cc (fun g hg=>by simp;exact⟨fun e=>npb (by rw[hg,e]),fun e=>npk (by rw[hg,e])⟩),cc.mono (by intro i hi;simp at hi;simp;rcases hi with h|h<;>simp[h]),.inl rfl⟩
 clear m1 t1 c1;go_wp2;go_ret;rw[ED.out];exact OUT.out
set_option maxHeartbeats 3200000 in
set_option maxRecDepth 100000 in
theorem do_take(hm:Blk w b (mV vs vt vp c.gl c.lk c.raced) 128)(ht:Blk w k (thV t) 153)(hp:w.ownsRow Bp 5 1 vp c.pr.length (bysV c.pr))(_hbk:b≠k)(_hn1:1≤t.name)(_hn4:t.name≤4)(_hgl:c.gl.length=3)(_hlk:c.lk.length=5)(hnum:0≤num∧num<5) :
  Calls Tryz.prog 94 #[.pointer (some ⟨b,0,none⟩),.pointer (some ⟨k,0,none⟩),stAgg ⟨6,place,thread,num,mend,nx,el,h0,h1,h2,h3,h4⟩] w fun e w'=>DoOut w b k Bp vs vt vp (c.does t ⟨6,place,thread,num,mend,nx,el,h0,h1,h2,h3,h4⟩) e w':=by
 have hbl:=hm.lt;have hkl:=ht.lt;have npb:=row_ne hp hm (by decide);have npk:=row_ne hp ht (by decide);have HP:Hid (w.ownsRow Bp 5 1 vp c.pr.length (bysV c.pr)):=hp;obtain⟨u,hu⟩:∃u:UInt8,u=if mend then 60 else 91:=⟨_,rfl⟩
 have BR:Hid (∀w:World,Calls Tryz.prog 115 #[.bool mend,.int .u8 60,.int .u8 91] w fun e w'=>e=.returned (.int .u8 u.toNat)∧w'=w):=fun w=>by rw[hu];exact bracket_any mend 60 91 w
 obtain⟨n,en,en2⟩:=nat_of hnum.1;have hn:n<5:=by omega
 have ED:Hid (c.does t ⟨6,place,thread,num,mend,nx,el,h0,h1,h2,h3,h4⟩=({ c with lk:=c.lk.set n { c.l n with holder:=t.name } },{ t with kn:=t.kn.learn (c.l n).kn },u)):=by
  show _=_;rw[←en2,hu];rfl
 have HM:Hid (Blk (w.alloc (.cells #[.int .i64 6,.int .i64 place,.int .i64 thread,.int .i64 (n:Int),.bool mend,.int .i64 nx,.int .i64 el,.bool h0,.bool h1,.bool h2,.bool h3,.bool h4] 88)) b (mV vs vt vp c.gl c.lk c.raced) 128):=hm.alloc _;have HT:Hid (Blk (w.alloc (.cells #[.int .i64 6,.int .i64 place,.int .i64 thread,.int .i64 (n:Int),.bool mend,.int .i64 nx,.int .i64 el,.bool h0,.bool h1,.bool h2,.bool h3,.bool h4] 88)) k (thV t) 153):=ht.alloc _;have HC:Hid (Chg [b,k] w (w.alloc (.cells #[.int .i64 6,.int .i64 place,.int .i64 thread,.int .i64 (n:Int),.bool mend,.int .i64 nx,.int .i64 el,.bool h0,.bool h1,.bool h2,.bool h3,.bool h4] 88))):=(Chg.refl _ w).alloc _;subst en;clear hm ht hp hnum hu;unfold stAgg
 go_enter Tryz.func94,Tryz.ntmps94
 go_wp2_with fail
 refine(take_any b k n vs vt vp c t _ HM.out HT.out _hbk _hgl _hlk hn).mono ?_;rintro e w1 ⟨rfl,m1,t1,c1⟩;have OUT:Hid (DoOut w b k Bp vs vt vp ({ c with lk:=c.lk.set n { c.l n with holder:=t.name } },{ t with kn:=t.kn.learn (c.l n).kn },u) (.returned (.int .u8 u.toNat)) w1):=by
  have cc:=HC.out.trans c1;exact⟨vp,rfl,m1,t1,row_chg HP.out cc (fun g hg=>by simp;exact⟨fun e=>npb (by rw[hg,e]),fun e=>npk (by rw[hg,e])⟩),cc.mono (by intro i hi;simp at hi;simp;rcases hi with h|h<;>simp[h]),.inl rfl⟩
 have bx:=((Blk.new (w:=w) (l:=[.int .i64 6,.int .i64 place,.int .i64 thread,.int .i64 (n:Int),.bool mend,.int .i64 nx,.int .i64 el,.bool h0,.bool h1,.bool h2,.bool h3,.bool h4]) (ty:=88)).chg c1 (by simp;omega)).cell 4 _ rfl;clear m1 t1 c1
 go_wp2_with fail
 refine(BR.out _).mono ?_;rintro e w2 ⟨rfl,rfl⟩;go_wp2;go_ret;rw[ED.out];exact OUT.out
set_option maxHeartbeats 3200000 in
set_option maxRecDepth 100000 in
theorem do_give(hm:Blk w b (mV vs vt vp c.gl c.lk c.raced) 128)(ht:Blk w k (thV t) 153)(hp:w.ownsRow Bp 5 1 vp c.pr.length (bysV c.pr))(_hbk:b≠k)(_hn1:1≤t.name)(_hn4:t.name≤4)(_hgl:c.gl.length=3)(_hlk:c.lk.length=5)(hnum:0≤num∧num<5) :
  Calls Tryz.prog 94 #[.pointer (some ⟨b,0,none⟩),.pointer (some ⟨k,0,none⟩),stAgg ⟨7,place,thread,num,mend,nx,el,h0,h1,h2,h3,h4⟩] w fun e w'=>DoOut w b k Bp vs vt vp (c.does t ⟨7,place,thread,num,mend,nx,el,h0,h1,h2,h3,h4⟩) e w':=by
 have hbl:=hm.lt;have hkl:=ht.lt;have npb:=row_ne hp hm (by decide);have npk:=row_ne hp ht (by decide);have HP:Hid (w.ownsRow Bp 5 1 vp c.pr.length (bysV c.pr)):=hp;obtain⟨u,hu⟩:∃u:UInt8,u=if mend then 62 else 93:=⟨_,rfl⟩
 have BR:Hid (∀w:World,Calls Tryz.prog 115 #[.bool mend,.int .u8 62,.int .u8 93] w fun e w'=>e=.returned (.int .u8 u.toNat)∧w'=w):=fun w=>by rw[hu];exact bracket_any mend 62 93 w
 obtain⟨n,en,en2⟩:=nat_of hnum.1;have hn:n<5:=by omega
 have ED:Hid (c.does t ⟨7,place,thread,num,mend,nx,el,h0,h1,h2,h3,h4⟩=({ c with lk:=c.lk.set n ⟨0,t.kn⟩ },t,u)):=by
  show _=_;rw[←en2,hu];rfl
 have HM:Hid (Blk (w.alloc (.cells #[.int .i64 7,.int .i64 place,.int .i64 thread,.int .i64 (n:Int),.bool mend,.int .i64 nx,.int .i64 el,.bool h0,.bool h1,.bool h2,.bool h3,.bool h4] 88)) b (mV vs vt vp c.gl c.lk c.raced) 128):=hm.alloc _;have HT:Hid (Blk (w.alloc (.cells #[.int .i64 7,.int .i64 place,.int .i64 thread,.int .i64 (n:Int),.bool mend,.int .i64 nx,.int .i64 el,.bool h0,.bool h1,.bool h2,.bool h3,.bool h4] 88)) k (thV t) 153):=ht.alloc _;have HC:Hid (Chg [b,k] w (w.alloc (.cells #[.int .i64 7,.int .i64 place,.int .i64 thread,.int .i64 (n:Int),.bool mend,.int .i64 nx,.int .i64 el,.bool h0,.bool h1,.bool h2,.bool h3,.bool h4] 88))):=(Chg.refl _ w).alloc _;subst en;clear hm ht hp hnum hu;unfold stAgg
 go_enter Tryz.func94,Tryz.ntmps94
 go_wp2_with fail
 refine(give_any b k n vs vt vp c t _ HM.out HT.out _hbk _hgl _hlk hn).mono ?_;rintro e w1 ⟨rfl,m1,t1,c1⟩;have OUT:Hid (DoOut w b k Bp vs vt vp ({ c with lk:=c.lk.set n ⟨0,t.kn⟩ },t,u) (.returned (.int .u8 u.toNat)) w1):=by
  have cc:=HC.out.trans c1;exact⟨vp,rfl,m1,t1,row_chg HP.out cc (fun g hg=>by simp;exact⟨fun e=>npb (by rw[hg,e]),fun e=>npk (by rw[hg,e])⟩),cc.mono (by intro i hi;simp at hi;simp;rcases hi with h|h<;>simp[h]),.inl rfl⟩
 have bx:=((Blk.new (w:=w) (l:=[.int .i64 7,.int .i64 place,.int .i64 thread,.int .i64 (n:Int),.bool mend,.int .i64 nx,.int .i64 el,.bool h0,.bool h1,.bool h2,.bool h3,.bool h4]) (ty:=88)).chg c1 (by simp;omega)).cell 4 _ rfl;clear m1 t1 c1
 go_wp2_with fail
 refine(BR.out _).mono ?_;rintro e w2 ⟨rfl,rfl⟩;go_wp2;go_ret;rw[ED.out];exact OUT.out
set_option maxHeartbeats 3200000 in
set_option maxRecDepth 100000 in
theorem do_add(hm:Blk w b (mV vs vt vp c.gl c.lk c.raced) 128)(ht:Blk w k (thV t) 153)(hp:w.ownsRow Bp 5 1 vp c.pr.length (bysV c.pr))(_hbk:b≠k)(_hn1:1≤t.name)(_hn4:t.name≤4)(_hgl:c.gl.length=3)(_hlk:c.lk.length=5)(hnum:0≤num∧num≤9)(hr0:0≤t.reg)(hr9:t.reg≤9) :
  Calls Tryz.prog 94 #[.pointer (some ⟨b,0,none⟩),.pointer (some ⟨k,0,none⟩),stAgg ⟨3,place,thread,num,mend,nx,el,h0,h1,h2,h3,h4⟩] w fun e w'=>DoOut w b k Bp vs vt vp (c.does t ⟨3,place,thread,num,mend,nx,el,h0,h1,h2,h3,h4⟩) e w':=by
 have hbl:=hm.lt;have hkl:=ht.lt;have npb:=row_ne hp hm (by decide);have npk:=row_ne hp ht (by decide);have HP:Hid (w.ownsRow Bp 5 1 vp c.pr.length (bysV c.pr)):=hp;have ED:Hid (c.does t ⟨3,place,thread,num,mend,nx,el,h0,h1,h2,h3,h4⟩=(c,t.add num,105)):=rfl;have HM:Hid (Blk (w.alloc (.cells #[.int .i64 3,.int .i64 place,.int .i64 thread,.int .i64 num,.bool mend,.int .i64 nx,.int .i64 el,.bool h0,.bool h1,.bool h2,.bool h3,.bool h4] 88)) b (mV vs vt vp c.gl c.lk c.raced) 128):=hm.alloc _;have HT:Hid (Blk (w.alloc (.cells #[.int .i64 3,.int .i64 place,.int .i64 thread,.int .i64 num,.bool mend,.int .i64 nx,.int .i64 el,.bool h0,.bool h1,.bool h2,.bool h3,.bool h4] 88)) k (thV t) 153):=ht.alloc _;have HC:Hid (Chg [b,k] w (w.alloc (.cells #[.int .i64 3,.int .i64 place,.int .i64 thread,.int .i64 num,.bool mend,.int .i64 nx,.int .i64 el,.bool h0,.bool h1,.bool h2,.bool h3,.bool h4] 88))):=(Chg.refl _ w).alloc _;clear hm ht hp;unfold stAgg
 go_enter Tryz.func94,Tryz.ntmps94
 go_wp2_with fail
 refine(add_any k t num _ HT.out hr0 hr9 hnum.1 hnum.2).mono ?_;rintro e w1 ⟨rfl,t1,c1⟩;have OUT:Hid (DoOut w b k Bp vs vt vp (c,t.add num,105) (.returned (.int .u8 105)) w1):=by
  have cc:=HC.out.trans' c1 (by simp);exact⟨vp,rfl,HM.out.chg c1 (by simp;omega),t1,row_chg HP.out cc (fun g hg=>by simp;exact⟨fun e=>npb (by rw[hg,e]),fun e=>npk (by rw[hg,e])⟩),cc.mono (by intro i hi;simp at hi;simp;rcases hi with h|h<;>simp[h]),.inl rfl⟩
 clear t1 c1;go_wp2;go_ret;rw[ED.out];exact OUT.out
set_option maxHeartbeats 3200000 in
set_option maxRecDepth 100000 in
theorem do_test(hm:Blk w b (mV vs vt vp c.gl c.lk c.raced) 128)(ht:Blk w k (thV t) 153)(hp:w.ownsRow Bp 5 1 vp c.pr.length (bysV c.pr))(_hbk:b≠k)(_hn1:1≤t.name)(_hn4:t.name≤4)(_hgl:c.gl.length=3)(_hlk:c.lk.length=5)  :
  Calls Tryz.prog 94 #[.pointer (some ⟨b,0,none⟩),.pointer (some ⟨k,0,none⟩),stAgg ⟨5,place,thread,num,mend,nx,el,h0,h1,h2,h3,h4⟩] w fun e w'=>DoOut w b k Bp vs vt vp (c.does t ⟨5,place,thread,num,mend,nx,el,h0,h1,h2,h3,h4⟩) e w':=by
 have hbl:=hm.lt;have hkl:=ht.lt;have npb:=row_ne hp hm (by decide);have npk:=row_ne hp ht (by decide);have HP:Hid (w.ownsRow Bp 5 1 vp c.pr.length (bysV c.pr)):=hp;have ED:Hid (c.does t ⟨5,place,thread,num,mend,nx,el,h0,h1,h2,h3,h4⟩=(c,t.test el,t.tested)):=rfl;have HM:Hid (Blk (w.alloc (.cells #[.int .i64 5,.int .i64 place,.int .i64 thread,.int .i64 num,.bool mend,.int .i64 nx,.int .i64 el,.bool h0,.bool h1,.bool h2,.bool h3,.bool h4] 88)) b (mV vs vt vp c.gl c.lk c.raced) 128):=hm.alloc _;have HT:Hid (Blk (w.alloc (.cells #[.int .i64 5,.int .i64 place,.int .i64 thread,.int .i64 num,.bool mend,.int .i64 nx,.int .i64 el,.bool h0,.bool h1,.bool h2,.bool h3,.bool h4] 88)) k (thV t) 153):=ht.alloc _;have HC:Hid (Chg [b,k] w (w.alloc (.cells #[.int .i64 5,.int .i64 place,.int .i64 thread,.int .i64 num,.bool mend,.int .i64 nx,.int .i64 el,.bool h0,.bool h1,.bool h2,.bool h3,.bool h4] 88))):=(Chg.refl _ w).alloc _;have TS:Hid (∀w,Blk w k (thV t) 153→_):=fun w h=>tst_any k t ⟨5,place,thread,num,mend,nx,el,h0,h1,h2,h3,h4⟩ w h
 unfold stAgg at TS ⊢;clear hm ht hp
 go_enter Tryz.func94,Tryz.ntmps94
 go_wp2_with fail
 refine(TS.out _ HT.out).mono ?_;rintro e w1 ⟨rfl,t1,c1⟩;have OUT:Hid (DoOut w b k Bp vs vt vp (c,t.test el,t.tested) (.returned (.int .u8 t.tested.toNat)) w1):=by
  have cc:=HC.out.trans' c1 (by simp);exact⟨vp,rfl,HM.out.chg c1 (by simp;omega),t1,row_chg HP.out cc (fun g hg=>by simp;exact⟨fun e=>npb (by rw[hg,e]),fun e=>npk (by rw[hg,e])⟩),cc.mono (by intro i hi;simp at hi;simp;rcases hi with h|h<;>simp[h]),.inl rfl⟩
 clear t1 c1 TS;go_wp2;go_ret;rw[ED.out];exact OUT.out
end
theorem Tryz.infoByteM:(Tryz.prog.info? 5).map (fun i=>(i.zero,i.size,i.bytes))=some (some (.int .u8 0),1,1):=by kernel_rfl
theorem digit_val{x:Int}(h0:0≤x)(h9:x≤9):((UInt8.ofNat (48+x.toNat)).toNat:Int)=48+x:=by
 obtain⟨n,rfl⟩:=Int.eq_ofNat_of_zero_le h0;rw[Int.toNat_natCast,UInt8.toNat_ofNat_of_lt' (by show 48+n<256;omega)];omega
theorem wrap_digit{x:Int}(h0:0≤x)(h9:x≤9):IntKind.u8.wrap (IntKind.i64.wrap (48+x))=48+x:=by
 simp[IntKind.wrap,IntKind.bits,IntKind.signed];omega
set_option maxHeartbeats 6400000 in
set_option maxRecDepth 100000 in
theorem do_print(b k Bp:Nat)(vs vt vp:Value)(c:CS)(t:TH)(place thread num:Int)(mend:Bool)(nx el:Int)(h0 h1 h2 h3 h4:Bool)(w:World)
  (hm:Blk w b (mV vs vt vp c.gl c.lk c.raced) 128)(ht:Blk w k (thV t) 153)(hp:w.ownsRow Bp 5 1 vp c.pr.length (bysV c.pr))(hbk:b≠k)(hgl:c.gl.length=3)(hlk:c.lk.length=5)(hr0:0≤t.reg)(hr9:t.reg≤9)(hpr:c.pr.length≤1000)(hBp:Bp≤w.heap.size) :
  Calls Tryz.prog 94 #[.pointer (some ⟨b,0,none⟩),.pointer (some ⟨k,0,none⟩),stAgg ⟨4,place,thread,num,mend,nx,el,h0,h1,h2,h3,h4⟩] w fun e w'=>DoOut w b k Bp vs vt vp (c.does t ⟨4,place,thread,num,mend,nx,el,h0,h1,h2,h3,h4⟩) e w':=by
 obtain⟨gl,lk,pr,raced⟩:=c;simp only at hm hgl hlk hp hpr;obtain⟨g0,g1,g2,rfl⟩:=three hgl;obtain⟨l0,l1,l2,l3,l4,rfl⟩:=fives hlk;obtain⟨i0,hi0,hz0,hz1,hz2⟩:=info_parts Tryz.infoByteM;have hbl:=hm.lt;have hkl:=ht.lt;have npb:=row_ne hp hm (by decide);have npk:=row_ne hp ht (by decide);have HP:Hid (w.ownsRow Bp 5 1 vp pr.length (bysV pr)):=hp;have HM:Hid (Blk w b (mV vs vt vp [g0,g1,g2] [l0,l1,l2,l3,l4] raced) 128):=hm;have HT:Hid (Blk w k (thV t) 153):=ht;have ED:Hid (CS.does ⟨[g0,g1,g2],[l0,l1,l2,l3,l4],pr,raced⟩ t ⟨4,place,thread,num,mend,nx,el,h0,h1,h2,h3,h4⟩=(⟨[g0,g1,g2],[l0,l1,l2,l3,l4],pr++[UInt8.ofNat (48+t.reg.toNat)],raced⟩,t,111)):=rfl;have HD:Hid (((UInt8.ofNat (48+t.reg.toNat)).toNat:Int)=48+t.reg):=digit_val hr0 hr9;have HW:Hid (IntKind.u8.wrap (IntKind.i64.wrap (48+t.reg))=48+t.reg):=wrap_digit hr0 hr9;have q54:=hm.cell 54 _ rfl;have z54:=hm.fz 54;have t2:=ht.cell 2 _ rfl;have nH:vp.ownBlock≠some w.heap.size:=fun e=>by have:=(hp.lt _ e).2;omega
 clear hm ht hp;have nb:some b≠vp.ownBlock:=fun e=>npb e.symm
 have nk:some k≠vp.ownBlock:=fun e=>npk e.symm
 unfold stAgg
 go_enter Tryz.func94,Tryz.ntmps94
 go_wp2;have hblk:∀o o',((w.alloc o).alloc o').drew.heap[w.heap.size+1]?=some o':=fun o o'=>by
  have:=heap_alloc_new (w.alloc o) o';rw[show(w.alloc o).heap.size=w.heap.size+1 by simp]at this;exact this
 go_region_law ((refine step_append_lies _ (by rfl) _ _ _ (by rfl) Bp 5 i0 _ 1 1 Tryz.underlying91 hi0 hz0 hz1 hz2 rfl (by omega) vp pr.length (bysV pr) (by rfl) (((HP.out.alloc _).alloc _).drew) ⟨w.heap.size+1,0,none⟩ 1 1 [.int .u8 (IntKind.u8.wrap (IntKind.i64.wrap (48+t.reg)))] (by rfl) (by rfl) (World.news_of_block (cs:=#[.int .u8 (IntKind.u8.wrap (IntKind.i64.wrap (48+t.reg)))]) (t:=5) (fr:=(0,0)) (hblk _ _)) (by simp[Value.oneCell']) (by omega) (by unfold maxLen;omega) (by omega) (by simp;omega) (w.heap.size+2) (by simp) ?_;intro gg cap w1 hown1 hgrow hat hlt;have k54:=(hgrow.cell_far ⟨b,54,none⟩ (by simp;omega) nb).trans ((((HM.out.alloc _).alloc _).drew).cell 54 _ rfl);have y54:=(hgrow.frozen_far ⟨b,54,none⟩ (by simp;omega) nb).trans ((((HM.out.alloc _).alloc _).drew).fz 54)))
 all_goals
  have M1:Blk w1 b (mV vs vt vp [g0,g1,g2] [l0,l1,l2,l3,l4] raced) 128:=(hgrow.block b (by simp;omega) nb).trans ((HM.out.alloc _).alloc _).drew;have T1:Blk w1 k (thV t) 153:=(hgrow.block k (by simp;omega) nk).trans ((HT.out.alloc _).alloc _).drew;have hb1:b<w1.heap.size:=M1.lt;have hnew:some gg≠some b:=fun e=>by
   rcases hat with h|h
   ·exact npb (h.trans e)
   ·have:=Option.some.inj e;omega
  have OUT:Hid (DoOut w b k Bp vs vt vp (⟨[g0,g1,g2],[l0,l1,l2,l3,l4],pr++[UInt8.ofNat (48+t.reg.toNat)],raced⟩,t,111) (.returned (.int .u8 111)) (w1.setCell ⟨b,54,none⟩ (.slice (some ⟨gg,0,none⟩) (pr.length+1) cap))):=by
   have hsz:=hgrow.size;simp at hsz;refine⟨.slice (some ⟨gg,0,none⟩) (pr.length+1) cap,rfl,M1.set 54 _,T1.other (by simp;omega) _,?_,?_,?_⟩
   ·have e1:bysV (pr++[UInt8.ofNat (48+t.reg.toNat)])=bysV pr++[.int .u8 (48+t.reg)]:=by
     simp only[bysV,List.map_append,List.map_cons,List.map_nil];rw[HD.out]
    have:w1.ownsRow Bp 5 1 (.slice (some ⟨gg,0,none⟩) (pr.length+1) cap) (pr++[UInt8.ofNat (48+t.reg.toNat)]).length (bysV (pr++[UInt8.ofNat (48+t.reg.toNat)])):=by
     rw[HW.out]at hown1;rw[e1,List.length_append];exact hown1
    exact ownsRow_setCell_other this (by simpa[Value.ownBlock]using fun e=>hnew (by rw[e])) _
   ·have c0:Chg (b::k::vp.ownBlock.toList) w w1:=by
     refine⟨hgrow.os,hgrow.tape,hgrow.output,by omega,fun i hi hn=>?_⟩;have hne:some i≠vp.ownBlock:=fun e=>hn (by simp[←e])
     rw[hgrow.block i (by simp;omega) hne];exact((Below.heap_alloc _ _ i (by simp;omega)).trans (Below.heap_alloc _ _ i hi))
    exact c0.set (a:=⟨b,54,none⟩) (.inl (by simp)) _
   ·rcases hat with h|h
    ·left;rw[h];rfl
    ·right;exact⟨gg,rfl,by omega⟩
  go_wp2;go_ret;rw[ED.out];exact OUT.out
end Go.Proofs.YtdgkpkdinfklaabGreat
