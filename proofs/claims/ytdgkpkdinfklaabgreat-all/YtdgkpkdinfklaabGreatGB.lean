import Derived.Test.YtdgkpkdinfklaabGreatProg
import Derived.Test.YtdgkpkdinfklaabGreatGA
import Derived.WalkKit
import Derived.WalkSpells
import Derived.WalkLawsBesides
import Derived.Deep.AppendLies
import Derived.Deep.QuietTactic
import Derived.BigQuiet
import Derived.RegionTactic
import Derived.Deep.RegionLaw
import Derived.Laws.ResultCell
namespace Go.Proofs.YtdgkpkdinfklaabGreat
open Go.RowKit
def stV(m:ST):List Value:=[.int .i64 m.kind,.int .i64 m.place,.int .i64 m.thread,.int .i64 m.num,.bool m.mend,.int .i64 m.nx,.int .i64 m.el,.bool m.h0,.bool m.h1,.bool m.h2,.bool m.h3,.bool m.h4]
def stsV(l:List ST):List Value:=l.flatMap stV
def opV(l:List OP):List Value:=l.flatMap fun x=>[.int .i64 x.1,.int .i64 x.2.1,.int .i64 x.2.2]
theorem opV_append(a b:List OP):opV (a++b)=opV a++opV b:=by simp[opV]
theorem stsV_append(a b:List ST):stsV (a++b)=stsV a++stsV b:=by simp[stsV]
theorem opV_length(a:List OP):(opV a).length=a.length*3:=by
 induction a with
 | nil=>rfl
 | cons x r ih=>simp[opV]at ih ⊢;omega
structure RD(w:World)(b:Nat)(s:ByteArray)(pl:Nat)(th:Int)(op:List OP)(mk:List ST)(ao:Option Addr)(co:Nat)(am:Option Addr)(cm:Nat):Prop where
 hb:b<w.heap.size
 c0:w.cell? ⟨b,0,none⟩=some (.string s)
 c1:w.cell? ⟨b,1,none⟩=some (.int .i64 pl)
 c2:w.cell? ⟨b,2,none⟩=some (.int .i64 th)
 c3:w.cell? ⟨b,3,none⟩=some (.slice ao op.length co)
 c4:w.cell? ⟨b,4,none⟩=some (.slice am mk.length cm)
 fz:∀i,w.frozen? ⟨b,i,none⟩=false
 ro:w.ownsRow (b+1) 151 3 (.slice ao op.length co) op.length (opV op)
 rm:w.ownsRow (b+1) 88 12 (.slice am mk.length cm) mk.length (stsV mk)
theorem RD.drew{w b s pl th op mk ao co am cm}(h:RD w b s pl th op mk ao co am cm):RD w.drew b s pl th op mk ao co am cm:=
 ⟨h.hb,h.c0,h.c1,h.c2,h.c3,h.c4,h.fz,h.ro,h.rm⟩
theorem RD.drewN{w b s pl th op mk ao co am cm}(h:RD w b s pl th op mk ao co am cm)(n:Nat):RD (w.drewN n) b s pl th op mk ao co am cm:=
 ⟨h.hb,h.c0,h.c1,h.c2,h.c3,h.c4,h.fz,h.ro,h.rm⟩
theorem RD.alloc{w b s pl th op mk ao co am cm}(h:RD w b s pl th op mk ao co am cm)(o:Obj):RD (w.alloc o) b s pl th op mk ao co am cm:=
 have hb:=h.hb
 ⟨by simp;omega,(World.cell?_alloc_past _ _ _ hb).trans h.c0,(World.cell?_alloc_past _ _ _ hb).trans h.c1,(World.cell?_alloc_past _ _ _ hb).trans h.c2,(World.cell?_alloc_past _ _ _ hb).trans h.c3,(World.cell?_alloc_past _ _ _ hb).trans h.c4,
  fun i=>(World.frozen?_alloc_past _ _ _ hb).trans (h.fz i),h.ro.alloc o,h.rm.alloc o⟩
theorem cell_same{w:World}{b i:Nat}{v u:Value}(h:w.cell? ⟨b,i,none⟩=some v):(w.setCell ⟨b,i,none⟩ u).cell? ⟨b,i,none⟩=some u:=by
 go_simp
theorem RD.place{w b s pl th op mk ao co am cm}(h:RD w b s pl th op mk ao co am cm)(q:Nat):RD (w.setCell ⟨b,1,none⟩ (.int .i64 q)) b s q th op mk ao co am cm:=by
 obtain⟨hb,c0,c1,c2,c3,c4,fz,ro,rm⟩:=h;refine⟨by simpa[World.setCell]using hb,by go_simp,cell_same c1,by go_simp,by go_simp,by go_simp,fun i=>by have:=fz i;go_simp,ownsRow_setCell_below ro (by simp) _,ownsRow_setCell_below rm (by simp) _⟩
theorem RD.thread{w b s pl th op mk ao co am cm}(h:RD w b s pl th op mk ao co am cm)(q:Int):RD (w.setCell ⟨b,2,none⟩ (.int .i64 q)) b s pl q op mk ao co am cm:=by
 obtain⟨hb,c0,c1,c2,c3,c4,fz,ro,rm⟩:=h;refine⟨by simpa[World.setCell]using hb,by go_simp,by go_simp,cell_same c2,by go_simp,by go_simp,fun i=>by have:=fz i;go_simp,ownsRow_setCell_below ro (by simp) _,ownsRow_setCell_below rm (by simp) _⟩
theorem below_drewN'(b:Nat)(w:World)(n:Nat):Below b w (w.drewN n):=⟨rfl,rfl,rfl,Nat.le_refl _,fun _ _=>rfl⟩
def RR(w:World)(b:Nat)(s:ByteArray)(r:RT):Prop:=∃ao co am cm,RD w b s r.pl r.th r.op.reverse r.st ao co am cm
theorem Tryz.infoOpened:(Tryz.prog.info? 151).map (fun i=>(i.zero,i.size,i.bytes))=some (some (.agg #[.int .i64 0,.int .i64 0,.int .i64 0]),3,24):=by kernel_rfl
theorem Tryz.infoMark:(Tryz.prog.info? 88).map (fun i=>(i.zero,i.size,i.bytes))=some (some (.agg #[.int .i64 0,.int .i64 0,.int .i64 0,.int .i64 0,.bool false,.int .i64 0,.int .i64 0,.bool false,.bool false,.bool false,.bool false,.bool false]),12,64):=by kernel_rfl
theorem rows_apart{w:World}{b1 b2 e1 e2 s1 s2 n1 n2:Nat}{v1 v2:Value}{x1 x2:List Value}(h1:w.ownsRow b1 e1 s1 v1 n1 x1)(h2:w.ownsRow b2 e2 s2 v2 n2 x2)(hne:e1≠e2):v1.ownBlock=none∨v1.ownBlock≠v2.ownBlock:=by
 rcases h1.2 with⟨rfl,_⟩|⟨g,cap,cur,rfl,_,hg,_⟩
 ·exact .inl rfl
 ·rcases h2.2 with⟨rfl,_⟩|⟨g',cap',cur',rfl,_,hg',_⟩
  ·right;simp[Value.ownBlock]
  ·right;intro e;have e':g=g':=by simpa[Value.ownBlock]using e
   subst e';rw[hg]at hg';simp at hg';exact hne hg'.2
theorem low_ne{w:World}{b e n m:Nat}{v:Value}{xs:List Value}(h:w.ownsRow (b+1) e n v m xs):some b≠v.ownBlock:=fun h'=>by
 have:=(h.lt b h'.symm).1;omega
def Kp(b:Nat)(w w':World):Prop:=∀k c fz,b<k→w.heap[k]?=some (.cells c 151 fz)→w'.heap[k]?=some (.cells c 151 fz)
theorem Kp.refl(b:Nat)(w:World):Kp b w w:=fun _ _ _ _ h=>h
theorem Kp.drew{b:Nat}{x y:World}(h:Kp b x y):Kp b x y.drew:=h
theorem Kp.alloc{b:Nat}{x y:World}(h:Kp b x y)(o:Obj):Kp b x (y.alloc o):=fun k c fz hk hx=>by
 have:=h k c fz hk hx;rw[Below.heap_alloc y o k (Array.getElem?_eq_some_iff.1 this).1];exact this
theorem Kp.low{b i:Nat}{x y:World}(h:Kp b x y)(u:Value):Kp b x (y.setCell ⟨b,i,none⟩ u):=fun k c fz hk hx=>by
 rw[heap_setCell_other y _ k u (by simp;omega)];exact h k c fz hk hx
theorem Kp.row{b base size n:Nat}{x w w':World}{v:Value}{xs:List Value}(h:Kp b x w)(r:w.ownsRow base 88 size v n xs)(hg:w.grownBy w' v.ownBlock):Kp b x w':=fun k c fz hk hx=>by
 have hx:=h k c fz hk hx;have hl:=(Array.getElem?_eq_some_iff.1 hx).1;rw[hg.block k hl]
 ·exact hx
 ·intro e';rcases r.2 with⟨rfl,_⟩|⟨g,cap,cur,rfl,_,hgg,_⟩
  ·cases e'
  ·have:k=g:=by simpa[Value.ownBlock]using e'
   subst this;rw[hx]at hgg;simp at hgg
theorem Kp.cells{b k:Nat}{w w':World}(h:Kp b w w')(hk:b<k)(x y z:Value)(hx:w.heap[k]?=some (.cells #[x,y,z] 151)) :
  w'.cell? ⟨k,0,none⟩=some x∧w'.cell? ⟨k,1,none⟩=some y∧w'.cell? ⟨k,2,none⟩=some z:=by
 have:=h k _ _ hk hx;simp[World.cell?,this]
theorem RD.opens{w1:World}{b:Nat}{s:ByteArray}{pl:Nat}{th:Int}{op:List OP}{mk:List ST}{am:Option Addr}{cm:Nat}{ao:Option Addr}{co:Nat}{v3:Value}(hb1:b<w1.heap.size)
  (k0:w1.cell? ⟨b,0,none⟩=some (.string s))(k1:w1.cell? ⟨b,1,none⟩=some (.int .i64 pl))(k2:w1.cell? ⟨b,2,none⟩=some (.int .i64 th))(k3:w1.cell? ⟨b,3,none⟩=some v3)(k4:w1.cell? ⟨b,4,none⟩=some (.slice am mk.length cm))
  (Z:∀i,w1.frozen? ⟨b,i,none⟩=false)(hown:w1.ownsRow (b+1) 151 3 (.slice ao op.length co) op.length (opV op))(hrm:w1.ownsRow (b+1) 88 12 (.slice am mk.length cm) mk.length (stsV mk)) :
  RD (w1.setCell ⟨b,3,none⟩ (.slice ao op.length co)) b s pl th op mk ao co am cm:=by
 refine⟨by simpa[World.setCell]using hb1,by go_simp,by go_simp,by go_simp,cell_same k3,by go_simp,fun i=>by have:=Z i;go_simp,ownsRow_setCell_below hown (by simp) _,ownsRow_setCell_below hrm (by simp) _⟩
theorem RD.marks{w1:World}{b:Nat}{s:ByteArray}{pl:Nat}{th:Int}{op:List OP}{mk:List ST}{am:Option Addr}{cm:Nat}{ao:Option Addr}{co:Nat}{v4:Value}(hb1:b<w1.heap.size)
  (k0:w1.cell? ⟨b,0,none⟩=some (.string s))(k1:w1.cell? ⟨b,1,none⟩=some (.int .i64 pl))(k2:w1.cell? ⟨b,2,none⟩=some (.int .i64 th))(k3:w1.cell? ⟨b,3,none⟩=some (.slice ao op.length co))(k4:w1.cell? ⟨b,4,none⟩=some v4)
  (Z:∀i,w1.frozen? ⟨b,i,none⟩=false)(hown:w1.ownsRow (b+1) 151 3 (.slice ao op.length co) op.length (opV op))(hrm:w1.ownsRow (b+1) 88 12 (.slice am mk.length cm) mk.length (stsV mk)) :
  RD (w1.setCell ⟨b,4,none⟩ (.slice am mk.length cm)) b s pl th op mk ao co am cm:=by
 refine⟨by simpa[World.setCell]using hb1,by go_simp,by go_simp,by go_simp,by go_simp,cell_same k4,fun i=>by have:=Z i;go_simp,ownsRow_setCell_below hown (by simp) _,ownsRow_setCell_below hrm (by simp) _⟩
set_option maxHeartbeats 1600000 in
set_option maxRecDepth 100000 in
theorem push_any(b:Nat)(k l f:Int)(s:ByteArray)(pl:Nat)(th:Int)(op:List OP)(mk:List ST)(ao co am cm)(w:World)(h:RD w b s pl th op mk ao co am cm)(hn:op.length≤1000) :
  Calls Tryz.prog 104 #[.pointer (some ⟨b,0,none⟩),.agg #[.int .i64 k,.int .i64 l,.int .i64 f]] w fun e w'=>e=.returned (.tuple #[])∧(∃ao' co',RD w' b s pl th (op++[(k,l,f)]) mk ao' co' am cm)∧Below b w w':=by
 have H:Hid (RD w b s pl th op mk ao co am cm):=h;have hb:=h.hb;have c3:=h.c3;have f3:=h.fz 3;clear h;obtain⟨i0,hi0,hz0,hz1,hz2⟩:=info_parts Tryz.infoOpened;have HO:Hid ((w.alloc (.cells #[.int .i64 k,.int .i64 l,.int .i64 f] 151)).ownsRow (b+1) 151 3 (.slice ao op.length co) op.length (opV op)):=H.out.ro.alloc _;have nb:some b≠(Value.slice ao op.length co).ownBlock:=low_ne H.out.ro;have nH:some w.heap.size≠(Value.slice ao op.length co).ownBlock:=fun e=>by have:=(H.out.ro.lt _ e.symm).2;omega
 go_enter Tryz.func104,Tryz.ntmps104
 go_wp2;have hblk:∀o o',((w.alloc o).alloc o').drew.heap[w.heap.size+1]?=some o':=fun o o'=>by
  have:=heap_alloc_new (w.alloc o) o';rw[show(w.alloc o).heap.size=w.heap.size+1 by simp]at this;exact this
 go_region_law ((refine step_append_lies _ (by rfl) _ _ _ (by rfl) (b+1) 151 i0 _ 3 24 Tryz.underlying84 hi0 hz0 hz1 hz2 rfl (by omega) (.slice ao op.length co) op.length (opV op) (by rfl) ((HO.out.alloc _).drew) ⟨w.heap.size+1,0,none⟩ 1 1 [.int .i64 k,.int .i64 l,.int .i64 f] (by rfl) (by rfl) (World.news_of_block (cs:=#[.int .i64 k,.int .i64 l,.int .i64 f]) (t:=151) (fr:=(0,0)) (hblk _ _)) (by simp[Value.oneCell']) (by omega) (by unfold maxLen;omega) (by omega) (by simp;omega) (w.heap.size+2) (by simp) ?_;intro gg cap w1 hown1 hgrow hat hlt;have k3:=(hgrow.cell_far ⟨b,3,none⟩ (by simp;omega) nb).trans (((H.out.alloc _).alloc _).drew.c3);have z3:=(hgrow.frozen_far ⟨b,3,none⟩ (by simp;omega) nb).trans (((H.out.alloc _).alloc _).drew.fz 3)))
 all_goals
  have hb1:b<w1.heap.size:=by have:=hgrow.size;simp at this;omega
  have K:=fun i=>(hgrow.cell_far ⟨b,i,none⟩ (by simp;omega) nb)
  have Z:=fun i=>(hgrow.frozen_far ⟨b,i,none⟩ (by simp;omega) nb).trans (((H.out.alloc _).alloc _).drew.fz i)
  have hrm:=(((H.out.alloc _).alloc _).drew.rm).kept hgrow (rows_apart H.out.rm H.out.ro (by decide));have hown2:w1.ownsRow (b+1) 151 3 (.slice (some ⟨gg,0,none⟩) (op++[(k,l,f)]).length cap) (op++[(k,l,f)]).length (opV (op++[(k,l,f)])):=by
   rw[opV_append,List.length_append];exact hown1
  have R1:=RD.opens (ao:=some ⟨gg,0,none⟩) (co:=cap) hb1 ((K 0).trans (((H.out.alloc _).alloc _).drew.c0)) ((K 1).trans (((H.out.alloc _).alloc _).drew.c1)) ((K 2).trans (((H.out.alloc _).alloc _).drew.c2)) k3 ((K 4).trans (((H.out.alloc _).alloc _).drew.c4)) Z hown2 hrm;rw[List.length_append]at R1;have BE:Below b w w1:=((((Below.refl b w).alloc (by omega) _).alloc (by simp;omega) _).drew).grown hgrow (by simp;omega) (fun k hk=>by have:=(H.out.ro.lt k hk).1;omega);go_wp2;go_end0;exact⟨rfl,⟨_,_,R1⟩,BE.setCell (by simp) _⟩
theorem results_cell{fn:Func}{p:Tmp}{ty:TypeId}(h:fn.results=#[.cell p ty])(tmps:Array Value)(P:Program)(w:World) :
  (results fn tmps).run P w=((asAddr (tmps.getD p undef)).run P w).andThen fun a w₁=>(loadVar ty a).run P w₁:=by
 simp only[results,h];simp[Sem.run_bind]
theorem RD.form{w b s pl th op mk ao co am cm}(h:RD w b s pl th op mk ao co am cm)(hn:0<op.length):∃g,ao=some ⟨g,0,none⟩∧b<g:=by
 obtain⟨g,cap,hv,hb,_⟩:=h.ro.form hn;cases hv;exact⟨g,rfl,by omega⟩
theorem opV_get(l:List OP)(i:Nat)(x:OP)(h:l[i]?=some x):(opV l)[i*3]?=some (.int .i64 x.1)∧(opV l)[i*3+1]?=some (.int .i64 x.2.1)∧(opV l)[i*3+2]?=some (.int .i64 x.2.2):=by
 induction l generalizing i with
 | nil=>simp at h
 | cons y r ih=>
  cases i with
  | zero=>simp at h;subst h;simp[opV]
  | succ i=>
   have:=ih i (by simpa using h);rw[show(i+1)*3=i*3+3 by omega,show i*3+3+1=i*3+1+3 by omega,show i*3+3+2=i*3+2+3 by omega];simpa[opV]using this
theorem RD.openCell{w b s pl th op mk ao co am cm}(h:RD w b s pl th op mk ao co am cm){g:Nat}(hg:ao=some ⟨g,0,none⟩)(i:Nat)(x:OP)(hx:op[i]?=some x) :
  w.cell? ⟨g,i*3,none⟩=some (.int .i64 x.1)∧w.cell? ⟨g,i*3+1,none⟩=some (.int .i64 x.2.1)∧w.cell? ⟨g,i*3+2,none⟩=some (.int .i64 x.2.2):=by
 subst hg;have hi:i<op.length:=(List.getElem?_eq_some_iff.1 hx).1;obtain⟨e1,e2,e3⟩:=opV_get op i x hx;exact⟨(h.ro.cellAt (i*3) (by omega)).trans e1,(h.ro.cellAt (i*3+1) (by omega)).trans e2,(h.ro.cellAt (i*3+2) (by omega)).trans e3⟩
theorem RD.above{w b s pl th op mk ao co am cm}(h:RD w b s pl th op mk ao co am cm)(w':World)(hb:Below w.heap.size w w'):RD w' b s pl th op mk ao co am cm:=by
 have hlt:=h.hb;have hs:=hb.size;have C:=fun i=>hb.cell (p:=⟨b,i,none⟩) hlt
 refine⟨by omega,(C 0).trans h.c0,(C 1).trans h.c1,(C 2).trans h.c2,(C 3).trans h.c3,(C 4).trans h.c4,fun i=>(hb.frozen (p:=⟨b,i,none⟩) hlt).trans (h.fz i),?_,?_⟩
 ·refine⟨h.ro.1,?_⟩;rcases h.ro.2 with h0|⟨g,cap,cur,hv,hg,hh,r⟩
  ·exact .inl h0
  ·exact .inr ⟨g,cap,cur,hv,hg,by rw[hb.block g ((Array.getElem?_eq_some_iff.1 hh).1)];exact hh,r⟩
 ·refine⟨h.rm.1,?_⟩;rcases h.rm.2 with h0|⟨g,cap,cur,hv,hg,hh,r⟩
  ·exact .inl h0
  ·exact .inr ⟨g,cap,cur,hv,hg,by rw[hb.block g ((Array.getElem?_eq_some_iff.1 hh).1)];exact hh,r⟩
set_option maxHeartbeats 800000 in
set_option maxRecDepth 100000 in
theorem top_none(b:Nat)(s:ByteArray)(pl:Nat)(th:Int)(mk:List ST)(ao co am cm)(w:World)(h:RD w b s pl th [] mk ao co am cm) :
  Calls Tryz.prog 105 #[.pointer (some ⟨b,0,none⟩)] w fun e w'=>e=.returned (.agg #[.int .i64 0,.int .i64 (-1),.int .i64 0])∧Below w.heap.size w w':=by
 have hb:=h.hb;have c3:=h.c3;simp only[List.length_nil]at c3;clear h;have BE:Hid (∀o,Below w.heap.size w (w.alloc o)):=fun o=>(Below.refl _ w).alloc (Nat.le_refl _) _
 go_enter Tryz.func105,Tryz.ntmps105
 go_wp2
 (try simp only[Exit.inBlock,Exit.then])
 refine bodyPost_ret (v:=.agg #[.int .i64 0,.int .i64 (-1),.int .i64 0]) ?_ rfl ⟨rfl,BE.out _⟩;rw[results_cell rfl]
 go_simp
set_option maxHeartbeats 800000 in
set_option maxRecDepth 100000 in
theorem top_some(b:Nat)(s:ByteArray)(pl:Nat)(th:Int)(op:List OP)(x:OP)(mk:List ST)(ao co am cm)(w:World)(h:RD w b s pl th (op++[x]) mk ao co am cm)(hn:op.length≤1000) :
  Calls Tryz.prog 105 #[.pointer (some ⟨b,0,none⟩)] w fun e w'=>e=.returned (.agg #[.int .i64 x.1,.int .i64 x.2.1,.int .i64 x.2.2])∧Below w.heap.size w w':=by
 have hb:=h.hb;have c3:=h.c3;obtain⟨g,rfl,hbg⟩:=h.form (by simp);obtain⟨q0,q1,q2⟩:=h.openCell rfl op.length x (by simp);have hgs:g<w.heap.size:=(h.ro.lt g rfl).2;rw[List.length_append,List.length_singleton]at c3;obtain⟨n,hnn⟩:∃n,n=op.length:=⟨_,rfl⟩;rw[←hnn]at c3 q0 q1 q2 hn;clear h hnn;have e0:(((n+1:Nat):Int)==0)=false:=by rw[beq_eq_false_iff_ne];omega
 have BE:Hid (∀o,Below w.heap.size w (w.alloc o)):=fun o=>(Below.refl _ w).alloc (Nat.le_refl _) _
 obtain⟨x0,x1,x2⟩:=x;simp only at q0 q1 q2 ⊢
 go_enter Tryz.func105,Tryz.ntmps105
 go_wp2
 go_region
 all_goals
  go_wp2
  (try simp only[Exit.inBlock,Exit.then])
  refine bodyPost_ret (v:=.agg #[.int .i64 x0,.int .i64 x1,.int .i64 x2]) ?_ rfl ⟨rfl,?_⟩
 all_goals first
  | (rw[results_cell rfl];go_simp)
  | exact(BE.out _).drew
set_option maxHeartbeats 800000 in
set_option maxRecDepth 100000 in
theorem pop_some(b:Nat)(s:ByteArray)(pl:Nat)(th:Int)(op:List OP)(x:OP)(mk:List ST)(ao co am cm)(w:World)(h:RD w b s pl th (op++[x]) mk ao co am cm)(hn:op.length≤1000) :
  Calls Tryz.prog 106 #[.pointer (some ⟨b,0,none⟩)] w fun e w'=>e=.returned (.tuple #[])∧(∃ao' co',RD w' b s pl th op mk ao' co' am cm)∧Below b w w'∧Kp b w w':=by
 have c3:=h.c3;have hb:=h.hb;have f3:=h.fz 3;obtain⟨g,rfl,hbg⟩:=h.form (by simp);have R:Hid (RD (w.setCell ⟨b,3,none⟩ (.slice (some ⟨g,0,none⟩) op.length co)) b s pl th op mk (some ⟨g,0,none⟩) co am cm):=by
  refine RD.opens h.hb h.c0 h.c1 h.c2 h.c3 h.c4 h.fz ?_ h.rm;have:=h.ro;rw[opV_append,List.length_append]at this;exact ownsRow_pop (opV_length op) this
 have hcap:op.length+1≤co:=by
  rcases h.ro.2 with⟨h',_⟩|⟨g',cap',cur,h',_,_,hnc,_⟩
  ·cases h'
  ·cases h';simpa using hnc
 rw[List.length_append,List.length_singleton]at c3;obtain⟨n,hnn⟩:∃n,n=op.length:=⟨_,rfl⟩;rw[←hnn]at c3 hn R hcap;clear h hnn
 go_enter Tryz.func106,Tryz.ntmps106
 go_wp2
 go_region
 all_goals (go_wp2;go_end0)
 all_goals exact⟨rfl,⟨_,_,R.out.drew⟩,((Below.refl b w).setCell (p:=⟨b,3,none⟩) (Nat.le_refl _) _).drew,((Kp.refl b w).low _).drew⟩
theorem hldT_step(op:List OP)(k:Nat)(x:OP)(h:op[k]?=some x)(i:Int):hldT (op.take (k+1)) i=(hldT (op.take k) i||x.2.1==i):=by
 obtain⟨hk,rfl⟩:=List.getElem?_eq_some_iff.1 h;rw[hldT,hldT,List.take_succ_eq_append_getElem hk,List.any_append];simp only[List.any_cons,List.any_nil,Bool.or_false]
theorem cells5{a b c d e a' b' c' d' e':Bool}{x0 x1 x2 x3 x4 x5 x6:Value}{t:Nat}(w:World)(h0:a=a')(h1:b=b')(h2:c=c')(h3:d=d')(h4:e=e') :
  w.alloc (.cells #[x0,x1,x2,x3,x4,x5,x6,.bool a,.bool b,.bool c,.bool d,.bool e] t)=w.alloc (.cells #[x0,x1,x2,x3,x4,x5,x6,.bool a',.bool b',.bool c',.bool d',.bool e'] t):=by
 subst h0 h1 h2 h3 h4;rfl
set_option maxHeartbeats 3200000 in
set_option maxRecDepth 100000 in
theorem step_any(b:Nat)(kind start num tt nn ee:Int)(mend:Bool)(s:ByteArray)(pl:Nat)(th:Int)(op:List OP)(mk:List ST)(ao co am cm)(w:World)(h:RD w b s pl th op mk ao co am cm)(hn:op.length≤1000)(hm:mk.length≤1000) :
    Calls Tryz.prog 61 #[.pointer (some ⟨b,0,none⟩),.agg #[.int .i64 kind,.int .i64 start,.int .i64 tt,.int .i64 num,.bool mend,.int .i64 nn,.int .i64 ee,.bool false,.bool false,.bool false,.bool false,.bool false]] w fun e w'=>e=.returned (.tuple #[]) ∧
      (∃am' cm',RD w' b s pl th op (mk++[⟨kind,start,th,num,mend,(mk.length:Int)+1,ee,hldT op 0,hldT op 1,hldT op 2,hldT op 3,hldT op 4⟩]) ao co am' cm')∧Below b w w'∧Kp b w w':=by
  have H:Hid (RD w b s pl th op mk ao co am cm):=h;have hb:=h.hb;have c2:=h.c2;have c3:=h.c3;have c4:=h.c4;have f4:=h.fz 4;clear h;obtain⟨i0,hi0,hz0,hz1,hz2⟩:=info_parts Tryz.infoMark;obtain⟨n,hnn⟩:∃n,n=op.length:=⟨_,rfl⟩;rw[←hnn]at c3 hn;have HN:Hid (n=op.length):=hnn;clear hnn
  go_enter Tryz.func61,Tryz.ntmps61
  go_wp2
  go_loopw [4] (fun i wr=>∃k:Nat,k≤n∧i=.int .i64 k∧wr=w.alloc (.cells #[.int .i64 kind,.int .i64 start,.int .i64 th,.int .i64 num,.bool mend,.int .i64 ((mk.length:Int)+1),.int .i64 ee,.bool (hldT (op.take k) 0),.bool (hldT (op.take k) 1),.bool (hldT (op.take k) 2),.bool (hldT (op.take k) 3),.bool (hldT (op.take k) 4)] 88)) (fun i _=>n-(intOf i).toNat)
  case atStart=>exact⟨0,Nat.zero_le _,rfl,rfl⟩
  case round=>
    obtain⟨k,hk,rfl,rfl⟩:=hrel
    by_cases hlt:k<n
    · obtain⟨⟨x1,l,xf⟩,hx⟩:∃x,op[k]?=some x:=⟨op[k]'(by rw[←HN.out];exact hlt),List.getElem?_eq_getElem _⟩
      obtain⟨g,rfl,hbg⟩:=H.out.form (by rw[←HN.out];omega);have hc:=((H.out.alloc (.cells #[.int .i64 kind,.int .i64 start,.int .i64 th,.int .i64 num,.bool mend,.int .i64 ((mk.length:Int)+1),.int .i64 ee,.bool (hldT (op.take k) 0),.bool (hldT (op.take k) 1),.bool (hldT (op.take k) 2),.bool (hldT (op.take k) 3),.bool (hldT (op.take k) 4)] 88)).openCell rfl k (x1,l,xf) hx).2.1;have HS:Hid (∀i,hldT (op.take (k+1)) i=(hldT (op.take k) i||l==i)):=hldT_step op k (x1,l,xf) hx;clear hx;have hl:l=0∨l=1∨l=2∨l=3∨l=4∨l<0∨5≤l:=by omega
      rcases hl with rfl|rfl|rfl|rfl|rfl|hl|hl
      all_goals
        go_wp2
        first
          | (refine⟨⟨k+1,by omega,by go_num,?_⟩,by simp[intOf];omega⟩
             have HS':=HS.out
             refine cells5 _ ?_ ?_ ?_ ?_ ?_<;>rw[HS']<;>simp<;>omega)
          | (refine⟨⟨k+1,by omega,by go_num,?_⟩,by simp[intOf];omega⟩
             have HS':=HS.out
             refine cells5 _ ?_ ?_ ?_ ?_ ?_<;>rw[HS']<;>simp)
    · have hk':op.take k=op:=List.take_of_length_le (by rw[←HN.out];omega)
      rw[hk'];obtain⟨c,hc⟩:∃c:Array Value,c=#[.int .i64 kind,.int .i64 start,.int .i64 th,.int .i64 num,.bool mend,.int .i64 ((mk.length:Int)+1),.int .i64 ee,.bool (hldT op 0),.bool (hldT op 1),.bool (hldT op 2),.bool (hldT op 3),.bool (hldT op 4)]:=⟨_,rfl⟩;have HO:Hid ((w.alloc (.cells #[.int .i64 kind,.int .i64 start,.int .i64 th,.int .i64 num,.bool mend,.int .i64 ((mk.length:Int)+1),.int .i64 ee,.bool (hldT op 0),.bool (hldT op 1),.bool (hldT op 2),.bool (hldT op 3),.bool (hldT op 4)] 88)).ownsRow (b+1) 88 12 (.slice am mk.length cm) mk.length (stsV mk)):=H.out.rm.alloc _;clear hc c;have nb:some b≠(Value.slice am mk.length cm).ownBlock:=low_ne H.out.rm;have nH:some w.heap.size≠(Value.slice am mk.length cm).ownBlock:=fun e=>by have:=(H.out.rm.lt _ e.symm).2;omega
      clear hk';go_wp2;have hblk:∀o o',((w.alloc o).alloc o').drew.heap[w.heap.size+1]?=some o':=fun o o'=>by
        have:=heap_alloc_new (w.alloc o) o';rw[show(w.alloc o).heap.size=w.heap.size+1 by simp]at this;exact this
      go_region_law ((refine step_append_lies _ (by rfl) _ _ _ (by rfl) (b+1) 88 i0 _ 12 64 Tryz.underlying48 hi0 hz0 hz1 hz2 rfl (by omega) (.slice am mk.length cm) mk.length (stsV mk) (by rfl) ((HO.out.alloc _).drew) ⟨w.heap.size+1,0,none⟩ 1 1 [.int .i64 kind,.int .i64 start,.int .i64 th,.int .i64 num,.bool mend,.int .i64 ((mk.length:Int)+1),.int .i64 ee,.bool (hldT op 0),.bool (hldT op 1),.bool (hldT op 2),.bool (hldT op 3),.bool (hldT op 4)] (by rfl) (by rfl) (World.news_of_block (cs:=#[.int .i64 kind,.int .i64 start,.int .i64 th,.int .i64 num,.bool mend,.int .i64 ((mk.length:Int)+1),.int .i64 ee,.bool (hldT op 0),.bool (hldT op 1),.bool (hldT op 2),.bool (hldT op 3),.bool (hldT op 4)]) (t:=88) (fr:=(0,0)) (hblk _ _)) (by simp[Value.oneCell']) (by omega) (by unfold maxLen;omega) (by omega) (by simp;omega) (w.heap.size+2) (by simp) ?_;intro gg cap w1 hown1 hgrow hat hlt;have k4:=(hgrow.cell_far ⟨b,4,none⟩ (by simp;omega) nb).trans (((H.out.alloc _).alloc _).drew.c4);have z4:=(hgrow.frozen_far ⟨b,4,none⟩ (by simp;omega) nb).trans (((H.out.alloc _).alloc _).drew.fz 4)))
      all_goals
        have hb1:b<w1.heap.size:=by have:=hgrow.size;simp at this;omega
        have K:=fun i=>(hgrow.cell_far ⟨b,i,none⟩ (by simp;omega) nb)
        have Z:=fun i=>(hgrow.frozen_far ⟨b,i,none⟩ (by simp;omega) nb).trans (((H.out.alloc _).alloc _).drew.fz i)
        have hro:=(((H.out.alloc _).alloc _).drew.ro).kept hgrow (rows_apart H.out.ro H.out.rm (by decide));have hown2:w1.ownsRow (b+1) 88 12 (.slice (some ⟨gg,0,none⟩) (mk++[(⟨kind,start,th,num,mend,(mk.length:Int)+1,ee,hldT op 0,hldT op 1,hldT op 2,hldT op 3,hldT op 4⟩:ST)]).length cap) (mk++[(⟨kind,start,th,num,mend,(mk.length:Int)+1,ee,hldT op 0,hldT op 1,hldT op 2,hldT op 3,hldT op 4⟩:ST)]).length (stsV (mk++[(⟨kind,start,th,num,mend,(mk.length:Int)+1,ee,hldT op 0,hldT op 1,hldT op 2,hldT op 3,hldT op 4⟩:ST)])):=by
          rw[stsV_append,List.length_append];exact hown1
        have R1:=RD.marks (am:=some ⟨gg,0,none⟩) (cm:=cap) hb1 ((K 0).trans (((H.out.alloc _).alloc _).drew.c0)) ((K 1).trans (((H.out.alloc _).alloc _).drew.c1)) ((K 2).trans (((H.out.alloc _).alloc _).drew.c2)) ((K 3).trans (((H.out.alloc _).alloc _).drew.c3)) k4 Z hro hown2;rw[List.length_append]at R1;have BE:Below b w w1:=((((Below.refl b w).alloc (by omega) _).alloc (by simp;omega) _).drew).grown hgrow (by simp;omega) (fun k hk=>by have:=(H.out.rm.lt k hk).1;omega);have KP:Kp b w w1:=(((Kp.refl b w).alloc _).alloc _).drew.row ((HO.out.alloc _).drew) hgrow;go_wp2;go_end0;exact⟨rfl,⟨_,_,R1⟩,BE.setCell (by simp) _,KP.low _⟩
theorem stsV_get(l:List ST)(i:Nat)(m:ST)(h:l[i]?=some m)(j:Nat)(hj:j<12):(stsV l)[i*12+j]?=(stV m)[j]?:=by
 induction l generalizing i with
 | nil=>simp at h
 | cons y r ih=>
  have e:stsV (y::r)=stV y++stsV r:=by simp[stsV]
  have hl:(stV y).length=12:=rfl;cases i with
  | zero=>
   simp at h;subst h;rw[e,List.getElem?_append_left (by omega)];simp
  | succ i=>
   have:=ih i (by simpa using h);rw[e,List.getElem?_append_right (by omega),←this]
   congr 1
   omega
theorem stsV_set(l:List ST)(i:Nat)(m m':ST)(h:l[i]?=some m)(j:Nat)(v:Value)(hm:(stV m).set j v=stV m')(hj:j<12):(stsV l).set (i*12+j) v=stsV (l.set i m'):=by
 induction l generalizing i with
 | nil=>simp at h
 | cons y r ih=>
  have e:∀y r,stsV (y::r)=stV y++stsV r:=fun y r=>by simp[stsV]
  have hl:∀y,(stV y).length=12:=fun _=>rfl
  cases i with
  | zero=>
   simp at h;subst h;rw[List.set_cons_zero,e,e,List.set_append_left _ _ (by rw[hl];omega),←hm];simp
  | succ i=>
   have:=ih i (by simpa using h);rw[List.set_cons_succ,e,e,←this,List.set_append_right _ _ (by rw[hl];omega),hl]
   congr 2
   omega
theorem RD.stepForm{w b s pl th op mk ao co am cm}(h:RD w b s pl th op mk ao co am cm)(hn:0<mk.length):∃g,am=some ⟨g,0,none⟩∧b<g:=by
 obtain⟨g,cap,hv,hb,_⟩:=h.rm.form hn;cases hv;exact⟨g,rfl,by omega⟩
theorem RD.stepCell{w b s pl th op mk ao co am cm}(h:RD w b s pl th op mk ao co am cm){g:Nat}(hg:am=some ⟨g,0,none⟩)(i:Nat)(m:ST)(hx:mk[i]?=some m)(j:Nat)(hj:j<12)(v:Value)(hv:(stV m)[j]?=some v) :
  w.cell? ⟨g,i*12+j,none⟩=some v∧w.frozen? ⟨g,i*12+j,none⟩=false:=by
 subst hg;have hi:i<mk.length:=(List.getElem?_eq_some_iff.1 hx).1;exact⟨(h.rm.cellAt (i*12+j) (by omega)).trans ((stsV_get mk i m hx j hj).trans hv),h.rm.frozenAt _⟩
theorem RD.setStep{w b s pl th op mk ao co g cm}(h:RD w b s pl th op mk ao co (some ⟨g,0,none⟩) cm)(i:Nat)(m m':ST)(hx:mk[i]?=some m)(j:Nat)(hj:j<12)(v:Value)(hm:(stV m).set j v=stV m') :
  RD (w.setCell ⟨g,i*12+j,none⟩ v) b s pl th op (mk.set i m') ao co (some ⟨g,0,none⟩) cm∧Below b w (w.setCell ⟨g,i*12+j,none⟩ v)∧Kp b w (w.setCell ⟨g,i*12+j,none⟩ v):=by
 obtain⟨hb,c0,c1,c2,c3,c4,fz,ro,rm⟩:=h;obtain⟨a0,hg⟩:=rm.stored (i*12+j) v;have hge:b+1≤g:=(rm.lt g rfl).1;have hne:some b≠some g:=by intro e;cases e;omega
 have K:=fun i=>hg.cell_far ⟨b,i,none⟩ hb hne
 refine⟨⟨by simpa[World.setCell]using hb,(K 0).trans c0,(K 1).trans c1,(K 2).trans c2,(K 3).trans c3,?_,fun i=>(hg.frozen_far ⟨b,i,none⟩ hb hne).trans (fz i),ro.kept hg (rows_apart ro rm (by decide)),?_⟩,(Below.refl b w).setCell (by simp;omega) _,(Kp.refl b w).row rm hg⟩
 ·rw[(K 4),c4];simp
 ·rw[stsV_set mk i m m' hx j v hm hj]at a0;rw[List.length_set];exact a0
theorem toNat_mem(mk:List ST)(f:Int)(h0:0≤f)(hf:f<mk.length):∃(k:Nat) (m:ST),f=k∧mk[k]?=some m∧k<mk.length:=by
 obtain⟨k,rfl⟩:=Int.eq_ofNat_of_zero_le h0;have hk:k<mk.length:=by omega
 exact⟨k,mk[k],rfl,List.getElem?_eq_getElem hk,hk⟩
set_option maxHeartbeats 800000 in
set_option maxRecDepth 100000 in
theorem lead_any(b:Nat)(f t:Int)(s:ByteArray)(pl:Nat)(th:Int)(op:List OP)(mk:List ST)(ao co am cm)(w:World)(h:RD w b s pl th op mk ao co am cm)(hm:mk.length≤1000) :
  Calls Tryz.prog 109 #[.pointer (some ⟨b,0,none⟩),.int .i64 f,.int .i64 t] w fun e w'=>e=.returned (.tuple #[])∧RD w' b s pl th op (leadL mk f t) ao co am cm∧Below b w w'∧Kp b w w':=by
 have c4:=h.c4
 by_cases h0:0≤f
 ·by_cases hf:f<mk.length
  ·obtain⟨k,m,rfl,hx,hk⟩:=toNat_mem mk f h0 hf;obtain⟨g,rfl,hbg⟩:=h.stepForm (by omega);obtain⟨q,z⟩:=h.stepCell rfl k m hx 5 (by decide) _ rfl;have R:Hid (RD (w.setCell ⟨g,k*12+5,none⟩ (.int .i64 t)) b s pl th op (leadL mk k t) ao co (some ⟨g,0,none⟩) cm):=by
    have:=(h.setStep k m { m with nx:=t } hx 5 (by decide) (.int .i64 t) rfl).1;have e:leadL mk k t=mk.set k { m with nx:=t }:=by simp[leadL,hx]
    show RD _ _ _ _ _ _ (leadL mk k t) _ _ _ _;rw[e];exact this
   have BE:Hid (Below b w (w.setCell ⟨g,k*12+5,none⟩ (.int .i64 t))∧Kp b w (w.setCell ⟨g,k*12+5,none⟩ (.int .i64 t))):=(h.setStep k m { m with nx:=t } hx 5 (by decide) (.int .i64 t) rfl).2;obtain⟨n,hnn⟩:∃n,n=mk.length:=⟨_,rfl⟩;rw[←hnn]at c4 hm hk hf;clear h hx hnn
   go_enter Tryz.func109,Tryz.ntmps109
   go_wp2;go_end0;exact⟨rfl,R.out,BE.out.1,BE.out.2⟩
  ·have e:leadL mk f t=mk:=by
    unfold leadL;rw[if_pos h0,List.getElem?_eq_none (by omega)]
   rw[e];have R:Hid (RD w b s pl th op mk ao co am cm):=h;obtain⟨n,hnn⟩:∃n,n=mk.length:=⟨_,rfl⟩;rw[←hnn]at c4 hm hf;clear h hnn e
   go_enter Tryz.func109,Tryz.ntmps109
   go_wp2;go_end0;exact⟨rfl,R.out,Below.refl _ _,Kp.refl _ _⟩
 ·have e:leadL mk f t=mk:=by unfold leadL;rw[if_neg h0]
  rw[e];have R:Hid (RD w b s pl th op mk ao co am cm):=h;clear h e
  go_enter Tryz.func109,Tryz.ntmps109
  go_wp2;go_end0;exact⟨rfl,R.out,Below.refl _ _,Kp.refl _ _⟩
set_option maxHeartbeats 800000 in
set_option maxRecDepth 100000 in
theorem else_any(b:Nat)(f:Int)(s:ByteArray)(pl:Nat)(th:Int)(op:List OP)(mk:List ST)(ao co am cm)(w:World)(h:RD w b s pl th op mk ao co am cm)(hm:mk.length≤1000) :
  Calls Tryz.prog 108 #[.pointer (some ⟨b,0,none⟩),.int .i64 f] w fun e w'=>e=.returned (.tuple #[])∧RD w' b s pl th op (elseL mk f mk.length) ao co am cm∧Below b w w'∧Kp b w w':=by
 have c4:=h.c4
 by_cases h0:0≤f
 ·by_cases hf:f<mk.length
  ·obtain⟨k,m,rfl,hx,hk⟩:=toNat_mem mk f h0 hf;obtain⟨g,rfl,hbg⟩:=h.stepForm (by omega);obtain⟨q,z⟩:=h.stepCell rfl k m hx 6 (by decide) _ rfl;have R:Hid (RD (w.setCell ⟨g,k*12+6,none⟩ (.int .i64 mk.length)) b s pl th op (elseL mk k mk.length) ao co (some ⟨g,0,none⟩) cm):=by
    have:=(h.setStep k m { m with el:=mk.length } hx 6 (by decide) (.int .i64 mk.length) rfl).1;have e:elseL mk k mk.length=mk.set k { m with el:=mk.length }:=by simp[elseL,hx]
    show RD _ _ _ _ _ _ (elseL mk k mk.length) _ _ _ _;rw[e];exact this
   have BE:Hid (Below b w (w.setCell ⟨g,k*12+6,none⟩ (.int .i64 mk.length))∧Kp b w (w.setCell ⟨g,k*12+6,none⟩ (.int .i64 mk.length))):=(h.setStep k m { m with el:=mk.length } hx 6 (by decide) (.int .i64 mk.length) rfl).2;obtain⟨L,hL⟩:∃L,L=elseL mk k mk.length:=⟨_,rfl⟩;rw[←hL]at R ⊢;obtain⟨n,hnn⟩:∃n,n=mk.length:=⟨_,rfl⟩;rw[←hnn]at c4 hm hk hf R BE;clear h hx hnn hL
   go_enter Tryz.func108,Tryz.ntmps108
   go_wp2
   go_region
   all_goals
    go_wp2;go_end0;exact⟨rfl,R.out.drew,BE.out.1.drew,BE.out.2.drew⟩
  ·have e:elseL mk f mk.length=mk:=by
    unfold elseL;rw[if_pos h0,List.getElem?_eq_none (by omega)]
   rw[e];have R:Hid (RD w b s pl th op mk ao co am cm):=h;obtain⟨n,hnn⟩:∃n,n=mk.length:=⟨_,rfl⟩;rw[←hnn]at c4 hm hf;clear h hnn e
   go_enter Tryz.func108,Tryz.ntmps108
   go_wp2;go_end0;exact⟨rfl,R.out,Below.refl _ _,Kp.refl _ _⟩
 ·have e:elseL mk f mk.length=mk:=by unfold elseL;rw[if_neg h0]
  rw[e];have R:Hid (RD w b s pl th op mk ao co am cm):=h;clear h e
  go_enter Tryz.func108,Tryz.ntmps108
  go_wp2;go_end0;exact⟨rfl,R.out,Below.refl _ _,Kp.refl _ _⟩
theorem u8_beq(a b:UInt8):((a.toNat:Int)==(b.toNat:Int))=(a==b):=by
 rw[Bool.eq_iff_iff];simp[←UInt8.toNat_inj];omega
theorem find_hit(al:ByteArray)(c:UInt8)(k:Nat)(h:k<al.size)(h0:(al.data.toList.take k).findIdx? (·==c)=none)(he:((al[k].toNat:Int)==(c.toNat:Int))=true):al.data.toList.findIdx? (·==c)=some k:=by
 rw[List.findIdx?_eq_some_iff_getElem];have hk:k<al.data.toList.length:=by simpa using h
 refine⟨hk,by rw[u8_beq]at he;exact he,fun j hj hc=>?_⟩;rw[List.findIdx?_eq_none_iff]at h0;have hjl:j<al.data.toList.length:=by omega
 have:=h0 al.data.toList[j] (by rw[List.mem_take_iff_getElem];exact⟨j,by omega,rfl⟩);rw[this]at hc;cases hc
theorem find_miss(al:ByteArray)(c:UInt8)(k:Nat)(h:k<al.size)(h0:(al.data.toList.take k).findIdx? (·==c)=none)(he:((al[k].toNat:Int)==(c.toNat:Int))=false):(al.data.toList.take (k+1)).findIdx? (·==c)=none:=by
 rw[List.take_succ_eq_append_getElem (by simpa using h),List.findIdx?_append,h0];rw[u8_beq]at he;have:(al.data.toList[k]'(by simpa using h)==c)=false:=he;rw[List.findIdx?_cons,this];rfl
set_option maxHeartbeats 800000 in
set_option maxRecDepth 100000 in
theorem next_end(b:Nat)(al:ByteArray)(s:ByteArray)(pl:Nat)(th:Int)(op:List OP)(mk:List ST)(ao co am cm)(w:World)(h:RD w b s pl th op mk ao co am cm)(_hs:s.size≤maxLen)(_hp:pl≤1000)(_hno:s.size≤pl) :
  Calls Tryz.prog 103 #[.pointer (some ⟨b,0,none⟩),.string al] w fun e w'=>e=.returned (.int .i64 (-1))∧∃n,w'=w.drewN n:=by
 have c0:=h.c0;have c1:=h.c1;clear h
 go_enter Tryz.func103,Tryz.ntmps103
 go_wp2
 go_quiet (fail)
 go_wp2;go_ret;exact⟨rfl,_,rfl⟩
set_option maxHeartbeats 1600000 in
set_option maxRecDepth 100000 in
theorem next_in(b:Nat)(al:ByteArray)(s:ByteArray)(pl:Nat)(th:Int)(op:List OP)(mk:List ST)(ao co am cm)(w:World)(h:RD w b s pl th op mk ao co am cm)(_hs:s.size≤maxLen)(ha:al.size≤100)(hp:pl≤1000)(hno:pl<s.size) :
  Calls Tryz.prog 103 #[.pointer (some ⟨b,0,none⟩),.string al] w fun e w'=>
   (al.data.toList.findIdx? (·==s[pl])=none∧e=.returned (.int .i64 (-1))∧∃n,w'=w.drewN n) ∨
   (∃i:Nat,al.data.toList.findIdx? (·==s[pl])=some i∧e=.returned (.int .i64 i)∧RD w' b s (pl+1) th op mk ao co am cm∧Below b w w'):=by
 unfold maxLen at _hs;have c0:=h.c0;have c1:=h.c1;have f1:=h.fz 1;have H:Hid (RD w b s pl th op mk ao co am cm):=h;clear h
 go_enter Tryz.func103,Tryz.ntmps103
 go_wp2
 go_quiet (fail)
 go_wp2
 go_loopw [5] (fun i wr=>∃k n:Nat,k≤al.size∧i=.int .i64 k∧wr=w.drewN n∧(al.data.toList.take k).findIdx? (·==s[pl])=none) (fun i _=>al.size-(intOf i).toNat)
 case atStart=>exact⟨0,nq,Nat.zero_le _,rfl,rfl,rfl⟩
 case round=>
  obtain⟨k,n,hk,rfl,rfl,hr⟩:=hrel;have HR:Hid ((al.data.toList.take k).findIdx? (·==s[pl])=none):=hr;clear hr
  by_cases hlt:k<al.size
  ·by_cases he:((al[k].toNat:Int)==(s[pl].toNat:Int))=true
   ·go_wp2
    go_quiet (fail)
    go_wp2;go_ret;right;exact⟨k,find_hit al _ k hlt HR.out he,rfl,(H.out.drewN _).place (pl+1),(below_drewN' _ _ _).setCell (by simp) _⟩
   ·have he':((al[k].toNat:Int)==(s[pl].toNat:Int))=false:=by simpa using he
    clear he;go_wp2
    go_quiet (fail)
    go_wp2
    go_roundw
    case rel=>exact⟨k+1,_,by omega,by go_num,rfl,find_miss al _ k hlt HR.out he'⟩
    case measure=>simp[intOf];omega
  ·go_wp2;go_ret;left;have:al.data.toList.take k=al.data.toList:=List.take_of_length_le (by simp;omega);rw[this]at HR;exact⟨HR.out,rfl,_,rfl⟩
theorem RR.c1{w b s r}(h:RR w b s r):w.cell? ⟨b,1,none⟩=some (.int .i64 r.pl):=by obtain⟨_,_,_,_,h⟩:=h;exact h.c1
theorem RR.c0{w b s r}(h:RR w b s r):w.cell? ⟨b,0,none⟩=some (.string s):=by obtain⟨_,_,_,_,h⟩:=h;exact h.c0
theorem RR.c2{w b s r}(h:RR w b s r):w.cell? ⟨b,2,none⟩=some (.int .i64 r.th):=by obtain⟨_,_,_,_,h⟩:=h;exact h.c2
theorem RR.c3{w b s r}(h:RR w b s r):∃ao co,w.cell? ⟨b,3,none⟩=some (.slice ao r.op.length co):=by obtain⟨ao,co,_,_,h⟩:=h;exact⟨ao,co,by simpa using h.c3⟩
theorem RR.fz{w b s r}(h:RR w b s r)(i:Nat):w.frozen? ⟨b,i,none⟩=false:=by obtain⟨_,_,_,_,h⟩:=h;exact h.fz i
theorem RR.lt{w b s r}(h:RR w b s r):b<w.heap.size:=by obtain⟨_,_,_,_,h⟩:=h;exact h.hb
theorem RR.drewN{w b s r}(h:RR w b s r)(n:Nat):RR (w.drewN n) b s r:=by obtain⟨_,_,_,_,h⟩:=h;exact⟨_,_,_,_,h.drewN n⟩
theorem RR.moved{w b s r}(h:RR w b s r):RR (w.setCell ⟨b,1,none⟩ (.int .i64 ((r.pl:Int)+1))) b s (r.to 1):=by obtain⟨_,_,_,_,h⟩:=h;exact⟨_,_,_,_,h.place (r.pl+1)⟩
theorem moved_below(b:Nat)(w:World)(v:Value):Below b w (w.setCell ⟨b,1,none⟩ v):=(Below.refl b w).setCell (by simp) _
theorem nxI_none{s:ByteArray}{pl:Nat}{al:List UInt8}(h:nxI s.data.toList pl al=none):s.size≤pl∨∃hlt:pl<s.size,al.findIdx? (·==s[pl])=none:=by
 by_cases hlt:pl<s.size
 ·right;refine⟨hlt,?_⟩;have e:s.data.toList[pl]?=some s[pl]:=by rw[List.getElem?_eq_getElem (by simpa using hlt)];rfl
  rw[nxI,e]at h;exact h
 ·left;omega
theorem nxI_some{s:ByteArray}{pl i:Nat}{al:List UInt8}(h:nxI s.data.toList pl al=some i):∃hlt:pl<s.size,al.findIdx? (·==s[pl])=some i:=by
 by_cases hlt:pl<s.size
 ·refine⟨hlt,?_⟩;have e:s.data.toList[pl]?=some s[pl]:=by rw[List.getElem?_eq_getElem (by simpa using hlt)];rfl
  rw[nxI,e]at h;exact h
 ·rw[nxI,List.getElem?_eq_none (by simp;omega)]at h;cases h
theorem nextR_none(b:Nat)(al:List UInt8)(s:ByteArray)(r:RT)(w:World)(h:RR w b s r)(hs:s.size≤240)(ha:al.length≤100)(hp:r.pl≤1000)(hx:nxI s.data.toList r.pl al=none) :
  Calls Tryz.prog 103 #[.pointer (some ⟨b,0,none⟩),.string ⟨al.toArray⟩] w fun e w'=>e=.returned (.int .i64 (-1))∧RR w' b s r∧Below b w w':=by
 have hs':s.size≤maxLen:=by unfold maxLen;omega
 have H:=h;obtain⟨ao,co,am,cm,h⟩:=h;rcases nxI_none hx with hge|⟨hlt,hf⟩
 ·refine(next_end b _ s _ _ _ _ _ _ _ _ w h hs' hp hge).mono ?_;rintro e w' ⟨he,n,hw⟩;rw[hw];exact⟨he,H.drewN n,below_drewN' _ _ _⟩
 ·refine(next_in b ⟨al.toArray⟩ s _ _ _ _ _ _ _ _ w h hs' ha hp hlt).mono ?_;rintro e w' (⟨_,he,n,hw⟩|⟨i,hi,_⟩)
  ·rw[hw];exact⟨he,H.drewN n,below_drewN' _ _ _⟩
  ·simp only[]at hi;rw[hf]at hi;cases hi
theorem nextR_some(b:Nat)(al:List UInt8)(s:ByteArray)(r:RT)(i:Nat)(w:World)(h:RR w b s r)(hs:s.size≤240)(ha:al.length≤100)(hp:r.pl≤1000)(hx:nxI s.data.toList r.pl al=some i) :
  Calls Tryz.prog 103 #[.pointer (some ⟨b,0,none⟩),.string ⟨al.toArray⟩] w fun e w'=>e=.returned (.int .i64 i)∧RR w' b s (r.to 1)∧Below b w w':=by
 have hs':s.size≤maxLen:=by unfold maxLen;omega
 have H:=h;obtain⟨ao,co,am,cm,h⟩:=h;obtain⟨hlt,hf⟩:=nxI_some hx;refine(next_in b ⟨al.toArray⟩ s _ _ _ _ _ _ _ _ w h hs' ha hp hlt).mono ?_;rintro e w' (⟨hi,_⟩|⟨i',hi,he,hr,hb⟩)
 ·simp only[]at hi;rw[hf]at hi;cases hi
 ·simp only[]at hi;rw[hf]at hi;cases hi;exact⟨he,⟨_,_,_,_,hr⟩,hb⟩
theorem stepR(b:Nat)(kind start num tt nn:Int)(mend:Bool)(s:ByteArray)(r:RT)(w:World)(h:RR w b s r)(hn:r.op.length≤1000)(hm:r.st.length≤1000) :
  Calls Tryz.prog 61 #[.pointer (some ⟨b,0,none⟩),.agg #[.int .i64 kind,.int .i64 start,.int .i64 tt,.int .i64 num,.bool mend,.int .i64 nn,.int .i64 0,.bool false,.bool false,.bool false,.bool false,.bool false]] w fun e w'=>e=.returned (.tuple #[])∧RR w' b s (r.step kind start num mend)∧Below b w w'∧Kp b w w':=by
 obtain⟨ao,co,am,cm,h⟩:=h;refine(step_any b kind start num tt nn 0 mend s _ _ _ _ _ _ _ _ w h (by simpa using hn) hm).mono ?_;rintro e w' ⟨he,⟨am',cm',hr⟩,hb⟩;refine⟨he,⟨ao,co,am',cm',?_⟩,hb⟩;have e1:∀i,hldT r.op.reverse i=hldT r.op i:=fun i=>by simp[hldT]
 simp only[e1]at hr;exact hr
theorem leadR(b:Nat)(f t:Int)(s:ByteArray)(r:RT)(w:World)(h:RR w b s r)(hm:r.st.length≤1000) :
  Calls Tryz.prog 109 #[.pointer (some ⟨b,0,none⟩),.int .i64 f,.int .i64 t] w fun e w'=>e=.returned (.tuple #[])∧RR w' b s (r.lead f t)∧Below b w w'∧Kp b w w':=by
 obtain⟨ao,co,am,cm,h⟩:=h;refine(lead_any b f t s _ _ _ _ _ _ _ _ w h hm).mono ?_;rintro e w' ⟨he,hr,hb⟩;exact⟨he,⟨ao,co,am,cm,hr⟩,hb⟩
theorem elseR(b:Nat)(f:Int)(s:ByteArray)(r:RT)(w:World)(h:RR w b s r)(hm:r.st.length≤1000) :
  Calls Tryz.prog 108 #[.pointer (some ⟨b,0,none⟩),.int .i64 f] w fun e w'=>e=.returned (.tuple #[])∧RR w' b s (r.els f)∧Below b w w'∧Kp b w w':=by
 obtain⟨ao,co,am,cm,h⟩:=h;refine(else_any b f s _ _ _ _ _ _ _ _ w h hm).mono ?_;rintro e w' ⟨he,hr,hb⟩;exact⟨he,⟨ao,co,am,cm,hr⟩,hb⟩
theorem pushR(b:Nat)(k l f:Int)(s:ByteArray)(r:RT)(w:World)(h:RR w b s r)(hn:r.op.length≤1000) :
  Calls Tryz.prog 104 #[.pointer (some ⟨b,0,none⟩),.agg #[.int .i64 k,.int .i64 l,.int .i64 f]] w fun e w'=>e=.returned (.tuple #[])∧RR w' b s (r.push k l f)∧Below b w w':=by
 obtain⟨ao,co,am,cm,h⟩:=h;refine(push_any b k l f s _ _ _ _ _ _ _ _ w h (by simpa using hn)).mono ?_;rintro e w' ⟨he,⟨ao',co',hr⟩,hb⟩;refine⟨he,⟨ao',co',am,cm,?_⟩,hb⟩;rw[←List.reverse_cons]at hr;exact hr
theorem popR(b:Nat)(s:ByteArray)(r:RT)(w:World)(h:RR w b s r)(hn:r.op.length≤1000)(h0:r.op≠[]) :
  Calls Tryz.prog 106 #[.pointer (some ⟨b,0,none⟩)] w fun e w'=>e=.returned (.tuple #[])∧RR w' b s r.pop∧Below b w w'∧Kp b w w':=by
 obtain⟨pl,th,op,mks⟩:=r;obtain⟨ao,co,am,cm,h⟩:=h;cases op with
 | nil=>exact absurd rfl h0
 | cons x o=>
  simp only[List.reverse_cons]at h;refine(pop_some b s _ _ _ x _ _ _ _ _ w h (by simp at hn ⊢;omega)).mono ?_;rintro e w' ⟨he,⟨ao',co',hr⟩,hb⟩;exact⟨he,⟨ao',co',am,cm,hr⟩,hb⟩
theorem RR.above{w b s r}(h:RR w b s r){w':World}(hb:Below w.heap.size w w'):RR w' b s r:=by
 obtain⟨ao,co,am,cm,h⟩:=h;exact⟨ao,co,am,cm,h.above w' hb⟩
theorem RR.c4{w b s r}(h:RR w b s r):∃am cm,w.cell? ⟨b,4,none⟩=some (.slice am r.st.length cm):=by obtain⟨_,_,am,cm,h⟩:=h;exact⟨am,cm,h.c4⟩
theorem topR(b:Nat)(s:ByteArray)(r:RT)(w:World)(h:RR w b s r)(hn:r.op.length≤1000) :
  Calls Tryz.prog 105 #[.pointer (some ⟨b,0,none⟩)] w fun e w'=>e=.returned (.agg #[.int .i64 r.top.1,.int .i64 r.top.2.1,.int .i64 r.top.2.2])∧RR w' b s r∧Below b w w':=by
 have H:=h;have hlt:=h.lt;obtain⟨pl,th,op,mks⟩:=r;obtain⟨ao,co,am,cm,h⟩:=h;cases op with
 | nil=>
  refine(top_none b s _ _ _ _ _ _ _ w h).mono ?_;rintro e w' ⟨he,hw⟩;exact⟨he,H.above hw,hw.mono (by omega)⟩
 | cons x o=>
  simp only[List.reverse_cons]at h;refine(top_some b s _ _ _ x _ _ _ _ _ w h (by simp at hn ⊢;omega)).mono ?_;rintro e w' ⟨he,hw⟩;exact⟨he,H.above hw,hw.mono (by omega)⟩
end Go.Proofs.YtdgkpkdinfklaabGreat
