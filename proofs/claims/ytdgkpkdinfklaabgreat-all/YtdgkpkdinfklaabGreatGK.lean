import Derived.Test.YtdgkpkdinfklaabGreatGB
import Derived.Deep.RegionWith
import Derived.Test.YtdgkpkdinfklaabGreatGI
import Derived.Deep.MidRow
namespace Go.Proofs.YtdgkpkdinfklaabGreat
open Go.RowKit
def Blk(w:World)(k:Nat)(l:List Value)(ty:Nat):Prop:=w.heap[k]?=some (.cells l.toArray ty)
theorem Blk.cell{w:World}{k:Nat}{l:List Value}{ty:Nat}(h:Blk w k l ty)(i:Nat)(v:Value)(hv:l[i]?=some v):w.cell? ⟨k,i,none⟩=some v:=by
 have h':w.heap[k]?=some (.cells l.toArray ty):=h;simp[World.cell?,h',hv]
theorem Blk.fz{w:World}{k:Nat}{l:List Value}{ty:Nat}(h:Blk w k l ty)(i:Nat):w.frozen? ⟨k,i,none⟩=false:=frozen_of_row w k i _ _ h
theorem Blk.lt{w:World}{k:Nat}{l:List Value}{ty:Nat}(h:Blk w k l ty):k<w.heap.size:=(Array.getElem?_eq_some_iff.1 h).1
theorem Blk.set{w:World}{k:Nat}{l:List Value}{ty:Nat}(h:Blk w k l ty)(i:Nat)(u:Value):Blk (w.setCell ⟨k,i,none⟩ u) k (l.set i u) ty:=by
 have:=heap_setCell_same w k i l.toArray ty u h;show _=some (Obj.cells (l.set i u).toArray ty);rw[this];simp
theorem Blk.other{w:World}{k:Nat}{l:List Value}{ty:Nat}(h:Blk w k l ty){a:Addr}(hne:k≠a.block)(u:Value):Blk (w.setCell a u) k l ty:=by
 show _=_;rw[heap_setCell_other w a k u hne];exact h
theorem Blk.alloc{w:World}{k:Nat}{l:List Value}{ty:Nat}(h:Blk w k l ty)(o:Obj):Blk (w.alloc o) k l ty:=by
 show _=_;rw[Below.heap_alloc w o k h.lt];exact h
theorem Blk.drew{w:World}{k:Nat}{l:List Value}{ty:Nat}(h:Blk w k l ty):Blk w.drew k l ty:=h
theorem Blk.drewN{w:World}{k:Nat}{l:List Value}{ty:Nat}(h:Blk w k l ty)(n:Nat):Blk (w.drewN n) k l ty:=h
theorem Blk.new{w:World}{l:List Value}{ty:Nat}:Blk (w.alloc (.cells l.toArray ty)) w.heap.size l ty:=heap_alloc_new _ _
structure Chg(S:List Nat)(w w':World):Prop where
 os:w'.os=w.os
 tape:w'.tape=w.tape
 output:w'.output=w.output
 size:w.heap.size≤w'.heap.size
 block:∀k,k<w.heap.size→k∉S→w'.heap[k]?=w.heap[k]?
theorem Chg.refl(S:List Nat)(w:World):Chg S w w:=⟨rfl,rfl,rfl,Nat.le_refl _,fun _ _ _=>rfl⟩
theorem Chg.trans{S:List Nat}{x y z:World}(h:Chg S x y)(k:Chg S y z):Chg S x z:=
 ⟨k.os.trans h.os,k.tape.trans h.tape,k.output.trans h.output,Nat.le_trans h.size k.size,fun i hi hs=>(k.block i (Nat.lt_of_lt_of_le hi h.size) hs).trans (h.block i hi hs)⟩
theorem Chg.trans'{S T:List Nat}{x y z:World}(h:Chg S x y)(k:Chg T y z)(hT:∀i∈T,i∈S∨x.heap.size≤i):Chg S x z:=
 ⟨k.os.trans h.os,k.tape.trans h.tape,k.output.trans h.output,Nat.le_trans h.size k.size,fun i hi hs=>(k.block i (Nat.lt_of_lt_of_le hi h.size) (fun ht=>by rcases hT i ht with h1|h1;exact hs h1;omega)).trans (h.block i hi hs)⟩
theorem Chg.mono{S T:List Nat}{x y:World}(h:Chg S x y)(hT:∀i∈S,i∈T):Chg T x y:=⟨h.os,h.tape,h.output,h.size,fun i hi hs=>h.block i hi (fun e=>hs (hT i e))⟩
theorem Chg.drew{S:List Nat}{x y:World}(h:Chg S x y):Chg S x y.drew:=⟨h.os,h.tape,h.output,h.size,h.block⟩
theorem Chg.drewN{S:List Nat}{x y:World}(h:Chg S x y)(n:Nat):Chg S x (y.drewN n):=⟨h.os,h.tape,h.output,h.size,h.block⟩
theorem Chg.alloc{S:List Nat}{x y:World}(h:Chg S x y)(o:Obj):Chg S x (y.alloc o):=
 ⟨h.os,h.tape,h.output,by have:=h.size;simp;omega,fun i hi hs=>by rw[Below.heap_alloc y o i (Nat.lt_of_lt_of_le hi h.size)];exact h.block i hi hs⟩
theorem Chg.set{S:List Nat}{x y:World}(h:Chg S x y){a:Addr}(ha:a.block∈S∨x.heap.size≤a.block)(u:Value):Chg S x (y.setCell a u):=
 ⟨h.os,h.tape,h.output,by simpa[World.setCell]using h.size,fun i hi hs=>by
  rw[heap_setCell_other y a i u (fun e=>by subst e;rcases ha with h1|h1;exact hs h1;omega)];exact h.block i hi hs⟩
theorem Chg.below{S:List Nat}{x y:World}{B:Nat}(h:Chg S x y)(hB:∀k∈S,B≤k)(hs:B≤x.heap.size):Below B x y:=
 ⟨h.os,h.tape,h.output,h.size,fun k hk=>h.block k (by omega) (fun e=>by have:=hB k e;omega)⟩
theorem Blk.chg{S:List Nat}{w w':World}{k:Nat}{l:List Value}{ty:Nat}(h:Blk w k l ty)(hc:Chg S w w')(hs:k∉S):Blk w' k l ty:=by
 show _=_;rw[hc.block k h.lt hs];exact h
theorem chg_of_below{w w':World}(h:Below w.heap.size w w')(S:List Nat):Chg S w w':=⟨h.os,h.tape,h.output,h.size,fun k hk _=>h.block k hk⟩
structure CK where
 c0:Int
 c1:Int
 c2:Int
 c3:Int
def CK.get(c:CK):Nat→Int
 | 0=>c.c0
 | 1=>c.c1
 | 2=>c.c2
 | _=>c.c3
def CK.set(c:CK)(i:Nat)(x:Int):CK:=match i with
 | 0=>{ c with c0:=x }
 | 1=>{ c with c1:=x }
 | 2=>{ c with c2:=x }
 | _=>{ c with c3:=x }
def mx(a b:Int):Int:=if a<b then b else a
def CK.learn(c d:CK):CK:=⟨mx c.c0 d.c0,mx c.c1 d.c1,mx c.c2 d.c2,mx c.c3 d.c3⟩
def CK.misses(c d:CK):Bool:=decide (c.c0<d.c0)||decide (c.c1<d.c1)||decide (c.c2<d.c2)||decide (c.c3<d.c3)
def CK.zero:CK:=⟨0,0,0,0⟩
structure TH where
 name:Int
 next:Int
 reg:Int
 kn:CK
structure GB where
 val:Int
 gets:CK
 puts:CK
structure LK where
 holder:Int
 kn:CK
def ckV(c:CK):List Value:=[.int .i64 c.c0,.int .i64 c.c1,.int .i64 c.c2,.int .i64 c.c3]
def thV(t:TH):List Value:=[.int .i64 t.name,.int .i64 t.next,.int .i64 t.reg,.int .i64 t.kn.c0,.int .i64 t.kn.c1,.int .i64 t.kn.c2,.int .i64 t.kn.c3]
def gbV(g:GB):List Value:=[.int .i64 g.val,.int .i64 g.gets.c0,.int .i64 g.gets.c1,.int .i64 g.gets.c2,.int .i64 g.gets.c3,.int .i64 g.puts.c0,.int .i64 g.puts.c1,.int .i64 g.puts.c2,.int .i64 g.puts.c3]
def lkV(l:LK):List Value:=[.int .i64 l.holder,.int .i64 l.kn.c0,.int .i64 l.kn.c1,.int .i64 l.kn.c2,.int .i64 l.kn.c3]
def thsV(l:List TH):List Value:=l.flatMap thV
def mV(vs vt vp:Value)(gl:List GB)(lk:List LK)(raced:Bool):List Value:=vs::vt::(gl.flatMap gbV++(lk.flatMap lkV++[vp,.bool raced]))
def TH.ix(t:TH):Nat:=(t.name-1).toNat
theorem name_cases{n:Int}(h1:1≤n)(h4:n≤4):n=1∨n=2∨n=3∨n=4:=by omega
set_option maxHeartbeats 1600000 in
set_option maxRecDepth 100000 in
theorem tick_any(k:Nat)(t:TH)(w:World)(h:Blk w k (thV t) 153)(h1:1≤t.name)(h4:t.name≤4)(hb:∀i,0≤t.kn.get i∧t.kn.get i≤1000000) :
  Calls Tryz.prog 93 #[.pointer (some ⟨k,3,none⟩),.int .i64 t.name] w fun e w'=>e=.returned (.tuple #[])∧Blk w' k (thV { t with kn:=t.kn.set t.ix (t.kn.get t.ix+1) }) 153∧Chg [k] w w':=by
 obtain⟨name,next,reg,c0,c1,c2,c3⟩:=t;simp only at h1 h4 hb ⊢;have q3:=h.cell 3 _ rfl;have q4:=h.cell 4 _ rfl;have q5:=h.cell 5 _ rfl;have q6:=h.cell 6 _ rfl;have z3:=h.fz 3;have z4:=h.fz 4;have z5:=h.fz 5;have z6:=h.fz 6;have b0:=hb 0;have b1:=hb 1;have b2:=hb 2;have b3:=hb 3;simp only[CK.get]at b0 b1 b2 b3;have HH:Hid (Blk w k (thV ⟨name,next,reg,c0,c1,c2,c3⟩) 153):=h;clear h hb;rcases name_cases h1 h4 with rfl|rfl|rfl|rfl
 all_goals
  clear h1 h4
  go_enter Tryz.func93,Tryz.ntmps93
  go_wp2
  go_region
  all_goals
   go_wp2;go_end0;exact⟨rfl,(HH.out.set _ _).drew,((Chg.refl _ w).set (.inl (by simp)) _).drew⟩
set_option maxHeartbeats 1600000 in
set_option maxRecDepth 100000 in
theorem note_any(k gk o:Nat)(t:TH)(l:List Value)(w:World)(h:Blk w k (thV t) 153)(hg:Blk w gk l 122)(_hne:gk≠k)(h1:1≤t.name)(h4:t.name≤4)(hl:∀i,i<4→∃v,l[o+i]?=some v) :
  Calls Tryz.prog 124 #[.pointer (some ⟨gk,o,none⟩),.pointer (some ⟨k,0,none⟩)] w fun e w'=>e=.returned (.tuple #[])∧Blk w' gk (l.set (o+t.ix) (.int .i64 (t.kn.get t.ix))) 122∧Chg [gk] w w':=by
 obtain⟨name,next,reg,c0,c1,c2,c3⟩:=t;simp only at h1 h4 ⊢;have q0:=h.cell 0 _ rfl;have q3:=h.cell 3 _ rfl;have q4:=h.cell 4 _ rfl;have q5:=h.cell 5 _ rfl;have q6:=h.cell 6 _ rfl;obtain⟨v0,e0⟩:=hl 0 (by decide);obtain⟨v1,e1⟩:=hl 1 (by decide);obtain⟨v2,e2⟩:=hl 2 (by decide);obtain⟨v3,e3⟩:=hl 3 (by decide);have g0:=hg.cell _ _ e0;have g1:=hg.cell _ _ e1;have g2:=hg.cell _ _ e2;have g3:=hg.cell _ _ e3;rw[Nat.add_zero]at g0;have z0:=hg.fz o;have z1:=hg.fz (o+1);have z2:=hg.fz (o+2);have z3:=hg.fz (o+3);have HG:Hid (Blk w gk l 122):=hg;clear h hg hl e0 e1 e2 e3;rcases name_cases h1 h4 with rfl|rfl|rfl|rfl
 all_goals
  clear h1 h4
  go_enter Tryz.func124,Tryz.ntmps124
  go_wp2
  go_region
  all_goals
   go_wp2;go_end0;exact⟨rfl,(HG.out.set _ _).drew,((Chg.refl _ w).set (.inl (by simp)) _).drew⟩
def CK.part(c d:CK):Nat→CK
 | 0=>c
 | 1=>{ c with c0:=mx c.c0 d.c0 }
 | 2=>{ c with c0:=mx c.c0 d.c0,c1:=mx c.c1 d.c1 }
 | 3=>{ c with c0:=mx c.c0 d.c0,c1:=mx c.c1 d.c1,c2:=mx c.c2 d.c2 }
 | _=>c.learn d
theorem four{k:Nat}(h:k<4):k=0∨k=1∨k=2∨k=3:=by omega
theorem mx_lt{a b:Int}(h:a<b):mx a b=b:=if_pos h
theorem mx_ge{a b:Int}(h:¬a<b):mx a b=a:=if_neg h
set_option maxHeartbeats 3200000 in
set_option maxRecDepth 100000 in
theorem learn_any(k:Nat)(t:TH)(d:CK)(w:World)(h:Blk w k (thV t) 153) :
  Calls Tryz.prog 125 #[.pointer (some ⟨k,3,none⟩),.agg #[.int .i64 d.c0,.int .i64 d.c1,.int .i64 d.c2,.int .i64 d.c3]] w fun e w'=>e=.returned (.tuple #[])∧Blk w' k (thV { t with kn:=t.kn.learn d }) 153∧Chg [k] w w':=by
 obtain⟨name,next,reg,c⟩:=t;have hlt:=h.lt;have hkn:k≠w.heap.size:=by omega
 have H0:Hid (Blk (w.alloc (.cells #[.int .i64 d.c0,.int .i64 d.c1,.int .i64 d.c2,.int .i64 d.c3] 120)) k (thV ⟨name,next,reg,c⟩) 153):=h.alloc _;have D0:Hid (Blk (w.alloc (.cells #[.int .i64 d.c0,.int .i64 d.c1,.int .i64 d.c2,.int .i64 d.c3] 120)) w.heap.size (ckV d) 120):=Blk.new (l:=ckV d);have G0:Hid (Chg [k] w (w.alloc (.cells #[.int .i64 d.c0,.int .i64 d.c1,.int .i64 d.c2,.int .i64 d.c3] 120))):=(Chg.refl _ w).alloc _;clear h
 go_enter Tryz.func125,Tryz.ntmps125
 go_wp2
 go_loopw [4] (fun i wr=>∃n:Nat,n≤4∧i=.int .i64 n∧Blk wr k (thV ⟨name,next,reg,c.part d n⟩) 153∧Blk wr w.heap.size (ckV d) 120∧Chg [k] w wr) (fun i _=>4-(intOf i).toNat)
 case atStart=>exact⟨0,by decide,rfl,H0.out,D0.out,G0.out⟩
 case round=>
  obtain⟨n,hn,rfl,hb,hd,hg⟩:=hrel
  by_cases hlt4:n<4
  ·have HB:Hid (Blk wr k (thV ⟨name,next,reg,c.part d n⟩) 153):=hb;have HD:Hid (Blk wr w.heap.size (ckV d) 120):=hd;have HG:Hid (Chg [k] w wr):=hg;have hsz:w.heap.size<wr.heap.size:=hd.lt;rcases four hlt4 with rfl|rfl|rfl|rfl
   ·have q:=hb.cell 3 _ rfl;have qd:=hd.cell 0 _ rfl;have z:=hb.fz 3;simp only[CK.part]at q;clear hb hd hg
    by_cases hc:c.c0<d.c0
    ·have E:Hid (c.part d 1={ c with c0:=d.c0 }):=by show c.part d 1=_;simp only[CK.part,mx_lt hc]
     go_wp2_with fail
     go_quiet (fail)
     go_wp2
     go_region
     all_goals
      go_wp2;refine⟨⟨1,by decide,by go_num,?_,?_,?_⟩,by simp[intOf]⟩
      ·rw[E.out];exact((HB.out.drewN _).set 3 _).drew
      ·exact((HD.out.drewN _).other (a:=⟨k,3,none⟩) (by simp;omega) _).drew
      ·exact(HG.out.drewN _).set (a:=⟨k,3,none⟩) (.inl (by simp)) _
    ·have E:Hid (c.part d 1=c):=by show c.part d 1=_;simp only[CK.part,mx_ge hc]
     go_wp2_with fail
     go_quiet (fail)
     go_wp2;exact⟨⟨1,by decide,by go_num,by rw[E.out];exact HB.out.drewN _,HD.out.drewN _,HG.out.drewN _⟩,by simp[intOf]⟩
   ·have q:=hb.cell 4 _ rfl;have qd:=hd.cell 1 _ rfl;have z:=hb.fz 4;simp only[CK.part]at q;clear hb hd hg
    by_cases hc:c.c1<d.c1
    ·have E:Hid (c.part d 2={ c.part d 1 with c1:=d.c1 }):=by show c.part d 2=_;simp only[CK.part,mx_lt hc]
     go_wp2_with fail
     go_quiet (fail)
     go_wp2
     go_region
     all_goals
      go_wp2;refine⟨⟨2,by decide,by go_num,?_,?_,?_⟩,by simp[intOf]⟩
      ·rw[E.out];exact((HB.out.drewN _).set 4 _).drew
      ·exact((HD.out.drewN _).other (a:=⟨k,4,none⟩) (by simp;omega) _).drew
      ·exact(HG.out.drewN _).set (a:=⟨k,4,none⟩) (.inl (by simp)) _
    ·have E:Hid (c.part d 2=c.part d 1):=by show c.part d 2=_;simp only[CK.part,mx_ge hc]
     go_wp2_with fail
     go_quiet (fail)
     go_wp2;exact⟨⟨2,by decide,by go_num,by rw[E.out];exact HB.out.drewN _,HD.out.drewN _,HG.out.drewN _⟩,by simp[intOf]⟩
   ·have q:=hb.cell 5 _ rfl;have qd:=hd.cell 2 _ rfl;have z:=hb.fz 5;simp only[CK.part]at q;clear hb hd hg
    by_cases hc:c.c2<d.c2
    ·have E:Hid (c.part d 3={ c.part d 2 with c2:=d.c2 }):=by show c.part d 3=_;simp only[CK.part,mx_lt hc]
     go_wp2_with fail
     go_quiet (fail)
     go_wp2
     go_region
     all_goals
      go_wp2;refine⟨⟨3,by decide,by go_num,?_,?_,?_⟩,by simp[intOf]⟩
      ·rw[E.out];exact((HB.out.drewN _).set 5 _).drew
      ·exact((HD.out.drewN _).other (a:=⟨k,5,none⟩) (by simp;omega) _).drew
      ·exact(HG.out.drewN _).set (a:=⟨k,5,none⟩) (.inl (by simp)) _
    ·have E:Hid (c.part d 3=c.part d 2):=by show c.part d 3=_;simp only[CK.part,mx_ge hc]
     go_wp2_with fail
     go_quiet (fail)
     go_wp2;exact⟨⟨3,by decide,by go_num,by rw[E.out];exact HB.out.drewN _,HD.out.drewN _,HG.out.drewN _⟩,by simp[intOf]⟩
   ·have q:=hb.cell 6 _ rfl;have qd:=hd.cell 3 _ rfl;have z:=hb.fz 6;simp only[CK.part]at q;clear hb hd hg
    by_cases hc:c.c3<d.c3
    ·have E:Hid (c.part d 4={ c.part d 3 with c3:=d.c3 }):=by show c.part d 4=_;simp only[CK.part,CK.learn,mx_lt hc]
     go_wp2_with fail
     go_quiet (fail)
     go_wp2
     go_region
     all_goals
      go_wp2;refine⟨⟨4,by decide,by go_num,?_,?_,?_⟩,by simp[intOf]⟩
      ·rw[E.out];exact((HB.out.drewN _).set 6 _).drew
      ·exact((HD.out.drewN _).other (a:=⟨k,6,none⟩) (by simp;omega) _).drew
      ·exact(HG.out.drewN _).set (a:=⟨k,6,none⟩) (.inl (by simp)) _
    ·have E:Hid (c.part d 4=c.part d 3):=by show c.part d 4=_;simp only[CK.part,CK.learn,mx_ge hc]
     go_wp2_with fail
     go_quiet (fail)
     go_wp2;exact⟨⟨4,by decide,by go_num,by rw[E.out];exact HB.out.drewN _,HD.out.drewN _,HG.out.drewN _⟩,by simp[intOf]⟩
  ·have hn4:n=4:=by omega
   subst hn4;have HB:Hid (Blk wr k (thV ⟨name,next,reg,c.part d 4⟩) 153):=hb;have HG:Hid (Chg [k] w wr):=hg;clear hb hd hg hlt4;go_wp2;go_end0;exact⟨rfl,HB.out,HG.out⟩
def CK.upto(c d:CK):Nat→Prop
 | 0=>True
 | 1=>¬c.c0<d.c0
 | 2=>¬c.c0<d.c0∧¬c.c1<d.c1
 | 3=>¬c.c0<d.c0∧¬c.c1<d.c1∧¬c.c2<d.c2
 | _=>¬c.c0<d.c0∧¬c.c1<d.c1∧¬c.c2<d.c2∧¬c.c3<d.c3
set_option maxHeartbeats 3200000 in
set_option maxRecDepth 100000 in
theorem misses_any(k:Nat)(t:TH)(d:CK)(w:World)(h:Blk w k (thV t) 153) :
  Calls Tryz.prog 123 #[.pointer (some ⟨k,3,none⟩),.agg #[.int .i64 d.c0,.int .i64 d.c1,.int .i64 d.c2,.int .i64 d.c3]] w fun e w'=>e=.returned (.bool (t.kn.misses d))∧Chg [] w w':=by
 obtain⟨name,next,reg,c⟩:=t;have hlt:=h.lt;have H0:Hid (Blk w k (thV ⟨name,next,reg,c⟩) 153):=h;clear h
 go_enter Tryz.func123,Tryz.ntmps123
 go_wp2
 go_loopw [5] (fun i wr=>∃n m:Nat,n≤4∧i=.int .i64 n∧wr=(w.alloc (.cells #[.int .i64 d.c0,.int .i64 d.c1,.int .i64 d.c2,.int .i64 d.c3] 120)).drewN m∧c.upto d n) (fun i _=>4-(intOf i).toNat)
 case atStart=>exact⟨0,0,by decide,rfl,rfl,trivial⟩
 case round=>
  obtain⟨n,m,hn,rfl,rfl,hu⟩:=hrel;have HU:Hid (c.upto d n):=hu;have hb:=(H0.out.alloc (.cells #[.int .i64 d.c0,.int .i64 d.c1,.int .i64 d.c2,.int .i64 d.c3] 120)).drewN m;have hd:=(Blk.new (w:=w) (l:=ckV d) (ty:=120)).drewN m;have HG:Hid (Chg [] w ((w.alloc (.cells #[.int .i64 d.c0,.int .i64 d.c1,.int .i64 d.c2,.int .i64 d.c3] 120)).drewN m)):=((Chg.refl _ w).alloc _).drewN m;clear hu
  by_cases hlt4:n<4
  ·obtain⟨W,hW⟩:∃W,W=(w.alloc (.cells #[.int .i64 d.c0,.int .i64 d.c1,.int .i64 d.c2,.int .i64 d.c3] 120)).drewN m:=⟨_,rfl⟩;have hd':Blk W w.heap.size (ckV d) 120:=by rw[hW];exact hd
   rw[←hW]at hb HG ⊢;have HW:Hid (W=(w.alloc (.cells #[.int .i64 d.c0,.int .i64 d.c1,.int .i64 d.c2,.int .i64 d.c3] 120)).drewN m):=hW;clear hd hW;have HN:Hid (∀q,W.drewN q=(w.alloc (.cells #[.int .i64 d.c0,.int .i64 d.c1,.int .i64 d.c2,.int .i64 d.c3] 120)).drewN (m+q)):=fun q=>by rw[HW.out,World.drewN_drewN]
   rcases four hlt4 with rfl|rfl|rfl|rfl
   ·have q:=hb.cell 3 _ rfl;have qd:=hd'.cell 0 _ rfl;simp only at q;clear hb hd'
    by_cases hc:c.c0<d.c0
    ·go_wp2_with fail
     go_quiet (fail)
     go_wp2;go_ret;exact⟨by simp[CK.misses,hc],HG.out.drewN _⟩
    ·go_wp2_with fail
     go_quiet (fail)
     go_wp2;exact⟨⟨1,_,by decide,by go_num,HN.out _,Int.not_lt.2 hc⟩,by simp[intOf]⟩
   ·have q:=hb.cell 4 _ rfl;have qd:=hd'.cell 1 _ rfl;simp only at q;clear hb hd'
    by_cases hc:c.c1<d.c1
    ·go_wp2_with fail
     go_quiet (fail)
     go_wp2;go_ret;exact⟨by simp[CK.misses,hc],HG.out.drewN _⟩
    ·go_wp2_with fail
     go_quiet (fail)
     go_wp2;exact⟨⟨2,_,by decide,by go_num,HN.out _,HU.out,Int.not_lt.2 hc⟩,by simp[intOf]⟩
   ·have q:=hb.cell 5 _ rfl;have qd:=hd'.cell 2 _ rfl;simp only at q;clear hb hd'
    by_cases hc:c.c2<d.c2
    ·go_wp2_with fail
     go_quiet (fail)
     go_wp2;go_ret;exact⟨by simp[CK.misses,hc],HG.out.drewN _⟩
    ·go_wp2_with fail
     go_quiet (fail)
     go_wp2;exact⟨⟨3,_,by decide,by go_num,HN.out _,HU.out.1,HU.out.2,Int.not_lt.2 hc⟩,by simp[intOf]⟩
   ·have q:=hb.cell 6 _ rfl;have qd:=hd'.cell 3 _ rfl;simp only at q;clear hb hd'
    by_cases hc:c.c3<d.c3
    ·go_wp2_with fail
     go_quiet (fail)
     go_wp2;go_ret;exact⟨by simp[CK.misses,hc],HG.out.drewN _⟩
    ·go_wp2_with fail
     go_quiet (fail)
     go_wp2;exact⟨⟨4,_,by decide,by go_num,HN.out _,HU.out.1,HU.out.2.1,HU.out.2.2,Int.not_lt.2 hc⟩,by simp[intOf]⟩
  ·have hn4:n=4:=by omega
   subst hn4;clear hb hd hlt4;go_wp2;go_ret;obtain⟨a0,a1,a2,a3⟩:=HU.out;exact⟨by simp[CK.misses,a0,a1,a2,a3],HG.out⟩
def TH.add(t:TH)(n:Int):TH:={ t with reg:=addP t.reg n }
set_option maxHeartbeats 1600000 in
set_option maxRecDepth 100000 in
theorem add_any(k:Nat)(t:TH)(n:Int)(w:World)(h:Blk w k (thV t) 153)(h0:0≤t.reg)(h9:t.reg≤9)(n0:0≤n)(n9:n≤9) :
  Calls Tryz.prog 112 #[.pointer (some ⟨k,0,none⟩),.int .i64 n] w fun e w'=>e=.returned (.tuple #[])∧Blk w' k (thV (t.add n)) 153∧Chg [k] w w':=by
 obtain⟨name,next,reg,c⟩:=t;simp only at h0 h9;have q:=h.cell 2 _ rfl;have z:=h.fz 2;have HH:Hid (Blk w k (thV ⟨name,next,reg,c⟩) 153):=h;clear h;simp only at q
 by_cases hc:reg+n>9
 ·have E:Hid (addP reg n=reg+n-10):=if_pos hc
  go_enter Tryz.func112,Tryz.ntmps112
  go_wp2;go_end0;refine⟨rfl,?_,((Chg.refl _ w).set (a:=⟨k,2,none⟩) (.inl (by simp)) _).set (a:=⟨k,2,none⟩) (.inl (by simp)) _⟩;have:=(HH.out.set 2 (.int .i64 (reg+n))).set 2 (.int .i64 (reg+n-10));unfold TH.add;simp only;rw[E.out];exact this
 ·have E:Hid (addP reg n=reg+n):=if_neg hc
  go_enter Tryz.func112,Tryz.ntmps112
  go_wp2;go_end0;refine⟨rfl,?_,(Chg.refl _ w).set (a:=⟨k,2,none⟩) (.inl (by simp)) _⟩;unfold TH.add;simp only;rw[E.out];exact HH.out.set 2 _
def TH.test(t:TH)(el:Int):TH:=if t.reg=0 then{ t with next:=el }else t
def TH.tested(t:TH):UInt8:=if t.reg=0 then 102 else 116
def stAgg(s:ST):Value:=.agg #[.int .i64 s.kind,.int .i64 s.place,.int .i64 s.thread,.int .i64 s.num,.bool s.mend,.int .i64 s.nx,.int .i64 s.el,.bool s.h0,.bool s.h1,.bool s.h2,.bool s.h3,.bool s.h4]
set_option maxHeartbeats 1600000 in
set_option maxRecDepth 100000 in
theorem tst_any(k:Nat)(t:TH)(s:ST)(w:World)(h:Blk w k (thV t) 153) :
  Calls Tryz.prog 113 #[.pointer (some ⟨k,0,none⟩),stAgg s] w fun e w'=>e=.returned (.int .u8 t.tested.toNat)∧Blk w' k (thV (t.test s.el)) 153∧Chg [k] w w':=by
 obtain⟨name,next,reg,c⟩:=t;unfold stAgg;have hlt:=h.lt;have HH:Hid (Blk w k (thV ⟨name,next,reg,c⟩) 153):=h;have q:=fun o=>(h.alloc o).cell 2 _ rfl
 have z:=fun o=>(h.alloc o).fz 1
 have q1:=fun o=>(h.alloc o).cell 1 _ rfl
 clear h;simp only at q q1
 by_cases hc:reg=0
 ·subst hc
  go_enter Tryz.func113,Tryz.ntmps113
  go_wp2;go_ret;exact⟨rfl,(HH.out.set 1 _).alloc _,((Chg.refl _ w).set (a:=⟨k,1,none⟩) (.inl (by simp)) _).alloc _⟩
 ·have hb:(reg != 0)=true:=by simpa using hc
  have E:Hid (TH.test ⟨name,next,reg,c⟩ s.el=⟨name,next,reg,c⟩):=if_neg hc;have E2:Hid (TH.tested ⟨name,next,reg,c⟩=116):=if_neg hc;clear hc
  go_enter Tryz.func113,Tryz.ntmps113
  go_wp2;go_ret;refine⟨?_,?_,(Chg.refl _ w).alloc _⟩
  ·rw[E2.out];rfl
  ·rw[E.out];exact HH.out.alloc _
set_option maxHeartbeats 400000 in
theorem bracket_any(m:Bool)(a s:UInt8)(w:World) :
  Calls Tryz.prog 115 #[.bool m,.int .u8 a.toNat,.int .u8 s.toNat] w fun e w'=>e=.returned (.int .u8 (if m then a else s).toNat)∧w'=w:=by
 cases m
 all_goals
  go_enter Tryz.func115,Tryz.ntmps115
  go_wp2;go_ret;exact⟨rfl,rfl⟩
theorem gbV_gets(g:GB)(i:Nat)(v:Int)(hi:i<4):(gbV g).set (1+i) (.int .i64 v)=gbV { g with gets:=g.gets.set i v }:=by
 rcases four hi with rfl|rfl|rfl|rfl<;>rfl
theorem gbV_puts(g:GB)(i:Nat)(v:Int)(hi:i<4):(gbV g).set (5+i) (.int .i64 v)=gbV { g with puts:=g.puts.set i v }:=by
 rcases four hi with rfl|rfl|rfl|rfl<;>rfl
theorem ix_lt{t:TH}(h1:1≤t.name)(h4:t.name≤4):t.ix<4:=by unfold TH.ix;omega
theorem three{l:List GB}(h:l.length=3):∃a b c,l=[a,b,c]:=by
 match l,h with
 | [a,b,c],_=>exact⟨a,b,c,rfl⟩
theorem fives{l:List LK}(h:l.length=5):∃a b c d e,l=[a,b,c,d,e]:=by
 match l,h with
 | [a,b,c,d,e],_=>exact⟨a,b,c,d,e,rfl⟩
def gb0:GB:=⟨0,.zero,.zero⟩
def noteG(g:GB)(t:TH):GB:={ g with gets:=g.gets.set t.ix (t.kn.get t.ix) }
def noteP(g:GB)(t:TH):GB:={ g with val:=t.reg,puts:=g.puts.set t.ix (t.kn.get t.ix) }
theorem setCells_blk{w:World}{k:Nat}{ty:Nat}:∀(cs l:List Value) (i:Nat),Blk w k l ty→i+cs.length=l.length→Blk (w.setCells k i cs) k (l.take i++cs) ty:=by
 intro cs
 induction cs generalizing w with
 | nil=>intro l i h hl;rw[World.setCells,List.append_nil,List.take_of_length_le (by simp at hl;omega)];exact h
 | cons c r ih=>
  intro l i h hl;rw[World.setCells];have h1:Blk (w.setCell ⟨k,i,none⟩ c) k (l.set i c) ty:=h.set i c;have:=ih (l.set i c) (i+1) h1 (by simp at hl ⊢;omega);have e:(l.set i c).take (i+1)++r=l.take i++c::r:=by
   simp only[List.length_cons]at hl;have hi:i<l.length:=by omega
   rw[List.take_succ_eq_append_getElem (by simpa using hi)];simp[List.take_set_of_le]
  rw[e]at this;exact this
theorem setCells_chg(w:World)(k:Nat):∀(cs:List Value) (i:Nat) (w':World),Chg [k] w w'→Chg [k] w (w'.setCells k i cs):=by
 intro cs
 induction cs with
 | nil=>intro i w' h;exact h
 | cons c r ih=>intro i w' h;exact ih (i+1) _ (h.set (a:=⟨k,i,none⟩) (.inl (by simp)) c)
theorem Blk.there{w:World}{k:Nat}{l:List Value}{ty:Nat}(h:Blk w k l ty):w.there k 0 l.length:=fun j hj=>by
 rw[Nat.zero_add];exact⟨by rw[h.cell j _ (List.getElem?_eq_getElem hj)];rfl,h.fz j⟩
theorem Blk.range{w:World}{k:Nat}{l:List Value}{ty:Nat}(h:Blk w k l ty):w.rangeAt k 0 l:=fun j v hv=>by
 rw[Nat.zero_add];exact h.cell j v hv
end Go.Proofs.YtdgkpkdinfklaabGreat
