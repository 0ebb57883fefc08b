import Derived.Test.YtdgkpkdinfklaabGreatGB
import Derived.Deep.RegionWith
import Derived.Test.YtdgkpkdinfklaabGreatGA
import Derived.Deep.LoopGhost
namespace Go.Proofs.YtdgkpkdinfklaabGreat
open Go.RowKit
set_option maxHeartbeats 800000 in
set_option maxRecDepth 100000 in
theorem accessR(b:Nat)(s:ByteArray)(r:RT)(w:World)(h:RR w b s r)(hs:s.size≤240)(hp:r.pl≤900)(ho:r.op.length≤900)(hm:r.st.length≤900) :
  Calls Tryz.prog 81 #[.pointer (some ⟨b,0,none⟩)] w fun e w'=>e=.returned (.bool (r.access s.data.toList).2)∧RR w' b s (r.access s.data.toList).1∧Below b w w':=by
 have c1:=h.c1;cases hx:nxI s.data.toList r.pl [103,112]with
 | none=>
  have hr:r.access s.data.toList=(r,false):=by simp[RT.access,hx]
  rw[hr];clear hr
  go_enter Tryz.func81,Tryz.ntmps81
  go_wp2_with fail
  refine(nextR_none b [103,112] s r w h hs (by decide) (by omega) hx).mono ?_;rintro e w1 ⟨rfl,h1,b1⟩;clear hx h;go_wp2;go_ret;exact⟨rfl,h1,b1⟩
 | some i=>
  cases hy:nxI s.data.toList (r.pl+1) [120,121,122]with
  | none=>
   have hr:r.access s.data.toList=(r.to 1,false):=by simp[RT.access,hx,hy]
   rw[hr];clear hr;have hy':nxI s.data.toList (r.to 1).pl [120,121,122]=none:=hy
   go_enter Tryz.func81,Tryz.ntmps81
   go_wp2_with fail
   refine(nextR_some b [103,112] s r i w h hs (by decide) (by omega) hx).mono ?_;rintro e w1 ⟨rfl,h1,b1⟩;clear hx h c1
   go_wp2_with fail
   refine(nextR_none b [120,121,122] s (r.to 1) w1 h1 hs (by decide) (by simp[RT.to];omega) hy').mono ?_;rintro e w2 ⟨rfl,h2,b2⟩;clear hy hy' h1;go_wp2;go_ret;exact⟨rfl,h2,b1.trans b2⟩
  | some g=>
   have hr:r.access s.data.toList=(((r.to 1).to 1).step (if i=1 then 2 else 1) r.pl g false,true):=by simp[RT.access,hx,hy,RT.to]
   rw[hr];clear hr;have hy':nxI s.data.toList (r.to 1).pl [120,121,122]=some g:=hy
   by_cases hi:i=1
   ·subst hi
    go_enter Tryz.func81,Tryz.ntmps81
    go_wp2_with fail
    refine(nextR_some b [103,112] s r 1 w h hs (by decide) (by omega) hx).mono ?_;rintro e w1 ⟨rfl,h1,b1⟩;clear hx h c1
    go_wp2_with fail
    refine(nextR_some b [120,121,122] s (r.to 1) g w1 h1 hs (by decide) (by simp[RT.to];omega) hy').mono ?_;rintro e w2 ⟨rfl,h2,b2⟩;clear hy hy' h1
    go_wp2_with fail
    refine(stepR b _ _ _ _ _ _ s ((r.to 1).to 1) w2 h2 (by simp[RT.to];omega) (by simp[RT.to];omega)).mono ?_;rintro e w3 ⟨rfl,h3,b3,_⟩;go_wp2;go_ret;exact⟨rfl,h3,(b1.trans b2).trans b3⟩
   ·have hi':(((i:Nat):Int)==1)=false:=by rw[beq_eq_false_iff_ne];omega
    rw[if_neg hi]
    go_enter Tryz.func81,Tryz.ntmps81
    go_wp2_with fail
    refine(nextR_some b [103,112] s r i w h hs (by decide) (by omega) hx).mono ?_;rintro e w1 ⟨rfl,h1,b1⟩;clear hx h c1
    go_wp2_with fail
    refine(nextR_some b [120,121,122] s (r.to 1) g w1 h1 hs (by decide) (by simp[RT.to];omega) hy').mono ?_;rintro e w2 ⟨rfl,h2,b2⟩;clear hy hy' h1
    go_wp2_with fail
    refine(stepR b _ _ _ _ _ _ s ((r.to 1).to 1) w2 h2 (by simp[RT.to];omega) (by simp[RT.to];omega)).mono ?_;rintro e w3 ⟨rfl,h3,b3,_⟩;go_wp2;go_ret;exact⟨rfl,h3,(b1.trans b2).trans b3⟩
set_option maxHeartbeats 800000 in
set_option maxRecDepth 100000 in
theorem additionR(b:Nat)(s:ByteArray)(r:RT)(w:World)(h:RR w b s r)(hs:s.size≤240)(hp:r.pl≤900)(ho:r.op.length≤900)(hm0:r.st.length≤900) :
  Calls Tryz.prog 82 #[.pointer (some ⟨b,0,none⟩)] w fun e w'=>e=.returned (.bool (r.addition s.data.toList).2)∧RR w' b s (r.addition s.data.toList).1∧Below b w w':=by
 have c1:=h.c1;have f1:=h.fz 1;have hm:=h.moved;cases hx:nxI s.data.toList (r.pl+1) [48,49,50,51,52,53,54,55,56,57]with
 | none=>
  have hr:r.addition s.data.toList=(r.to 1,false):=by simp[RT.addition,hx]
  rw[hr];clear hr;have hx':nxI s.data.toList (r.to 1).pl [48,49,50,51,52,53,54,55,56,57]=none:=hx
  go_enter Tryz.func82,Tryz.ntmps82
  go_wp2_with fail
  refine(nextR_none b [48,49,50,51,52,53,54,55,56,57] s (r.to 1) _ hm hs (by decide) (by simp[RT.to];omega) hx').mono ?_;rintro e w1 ⟨rfl,h1,b1⟩;clear hx hx' h hm;go_wp2;go_ret;exact⟨rfl,h1,(moved_below _ _ _).trans b1⟩
 | some i=>
  have hr:r.addition s.data.toList=(((r.to 1).to 1).step 3 r.pl i false,true):=by simp[RT.addition,hx,RT.to]
  rw[hr];clear hr;have hx':nxI s.data.toList (r.to 1).pl [48,49,50,51,52,53,54,55,56,57]=some i:=hx
  go_enter Tryz.func82,Tryz.ntmps82
  go_wp2_with fail
  refine(nextR_some b [48,49,50,51,52,53,54,55,56,57] s (r.to 1) i _ hm hs (by decide) (by simp[RT.to];omega) hx').mono ?_;rintro e w1 ⟨rfl,h1,b1⟩;clear hx hx' h hm;have hi0:(0:Int)≤(i:Int):=Int.natCast_nonneg _
  go_wp2_with fail
  refine(stepR b _ _ _ _ _ _ s ((r.to 1).to 1) w1 h1 (by simp[RT.to];omega) (by simp[RT.to];omega)).mono ?_;rintro e w2 ⟨rfl,h2,b2,_⟩;go_wp2;go_ret;exact⟨rfl,h2,((moved_below _ _ _).trans b1).trans b2⟩
set_option maxHeartbeats 800000 in
set_option maxRecDepth 100000 in
theorem regionBeginR(b:Nat)(s:ByteArray)(r:RT)(w:World)(h:RR w b s r)(hs:s.size≤240)(hp:r.pl≤900)(ho:r.op.length≤900)(hm0:r.st.length≤900) :
  Calls Tryz.prog 84 #[.pointer (some ⟨b,0,none⟩)] w fun e w'=>e=.returned (.bool (r.regionBegin s.data.toList).2)∧RR w' b s (r.regionBegin s.data.toList).1∧Below b w w':=by
 have c1:=h.c1;have f1:=h.fz 1;have hm:=h.moved;cases hx:nxI s.data.toList (r.pl+1) [65,66,67,68]with
 | none=>
  have hr:r.regionBegin s.data.toList=(r.to 1,false):=by simp[RT.regionBegin,hx]
  rw[hr];clear hr;have hx':nxI s.data.toList (r.to 1).pl [65,66,67,68]=none:=hx
  go_enter Tryz.func84,Tryz.ntmps84
  go_wp2_with fail
  refine(nextR_none b [65,66,67,68] s (r.to 1) _ hm hs (by decide) (by simp[RT.to];omega) hx').mono ?_;rintro e w1 ⟨rfl,h1,b1⟩;clear hx hx' h hm;go_wp2;go_ret;exact⟨rfl,h1,(moved_below _ _ _).trans b1⟩
 | some i=>
  have hr:r.regionBegin s.data.toList=((((r.to 1).to 1).step 6 r.pl i false).push 1 i 0,true):=by simp[RT.regionBegin,hx,RT.to]
  rw[hr];clear hr;have hx':nxI s.data.toList (r.to 1).pl [65,66,67,68]=some i:=hx
  go_enter Tryz.func84,Tryz.ntmps84
  go_wp2_with fail
  refine(nextR_some b [65,66,67,68] s (r.to 1) i _ hm hs (by decide) (by simp[RT.to];omega) hx').mono ?_;rintro e w1 ⟨rfl,h1,b1⟩;clear hx hx' h hm;have hi0:(0:Int)≤(i:Int):=Int.natCast_nonneg _
  go_wp2_with fail
  refine(stepR b _ _ _ _ _ _ s ((r.to 1).to 1) w1 h1 (by simp[RT.to];omega) (by simp[RT.to];omega)).mono ?_;rintro e w2 ⟨rfl,h2,b2,_⟩
  go_wp2_with fail
  refine(pushR b _ _ _ s (((r.to 1).to 1).step 6 r.pl i false) w2 h2 (by simp[RT.to,RT.step];omega)).mono ?_;rintro e w3 ⟨rfl,h3,b3⟩;go_wp2;go_ret;exact⟨rfl,h3,(((moved_below _ _ _).trans b1).trans b2).trans b3⟩
theorem op_ne_of_top{r:RT}(h:r.top.1≠0):r.op≠[]:=fun e=>h (by simp[RT.top,e])
theorem RR.alloc{w b s r}(h:RR w b s r)(o:Obj):RR (w.alloc o) b s r:=by obtain⟨_,_,_,_,h⟩:=h;exact⟨_,_,_,_,h.alloc o⟩
set_option maxHeartbeats 800000 in
set_option maxRecDepth 100000 in
theorem regionEndR(b:Nat)(s:ByteArray)(r:RT)(w:World)(h:RR w b s r)(hp:r.pl≤900)(ho:r.op.length≤900)(hm0:r.st.length≤900) :
  Calls Tryz.prog 85 #[.pointer (some ⟨b,0,none⟩)] w fun e w'=>e=.returned (.bool r.regionEnd.2)∧RR w' b s r.regionEnd.1∧Below b w w':=by
 by_cases ht:r.top.1=1
 ·have hr:r.regionEnd=((r.pop.step 7 r.pl r.top.2.1 false).to 1,true):=by simp[RT.regionEnd,ht]
  rw[hr];clear hr;have h0:r.op≠[]:=op_ne_of_top (by omega)
  go_enter Tryz.func85,Tryz.ntmps85
  go_wp2_with fail
  refine(topR b s r w h (by omega)).mono ?_;rintro e w1 ⟨rfl,h1,b1⟩;have hlt1:=h1.lt;have HB:Hid (∀o,Below b w (w1.alloc o)):=fun o=>b1.alloc (by omega) o
  have hpp:r.pop.pl=r.pl:=rfl;obtain⟨l,hl⟩:∃l,l=r.top.2.1:=⟨_,rfl⟩;have HL:Hid (l=r.top.2.1):=hl;rw[←hl,ht];clear ht b1 h hl
  go_wp2_with fail
  refine(popR b s r _ (h1.alloc _) (by omega) h0).mono ?_;rintro e w2 ⟨rfl,h2,b2,k2⟩;obtain⟨q0,q1,q2⟩:=k2.cells hlt1 _ _ _ (heap_alloc_new _ _);have c1:=h2.c1;rw[hpp]at c1;have hs2:w1.heap.size<w2.heap.size:=by have:=b2.size;simp at this;omega
  clear k2 q0 q2
  go_wp2_with fail
  go_region_with (
   go_at_call 61
   refine(stepR b _ _ _ _ _ _ s r.pop _ (by first|exact h2.drewN 1|exact h2) (by simp[RT.pop];omega) (by simp[RT.pop];omega)).mono ?_
   rintro e w3 ⟨rfl,h3,b3,_⟩)
  all_goals
   have d1:=h3.c1;have f1:=h3.fz 1;have hm:=h3.moved;have hpl:(r.pop.step 7 r.pl l false).pl=r.pl:=rfl;rw[hpl]at d1 hm;have HBB:Hid (Below b w w3):=((HB.out _).trans b2).trans ((below_drewN' b w2 1).trans b3);go_wp2;go_ret;exact⟨rfl,by rw[←HL.out];exact hm,HBB.out.trans (moved_below _ _ _)⟩
 ·have hr:r.regionEnd=(r,false):=by simp[RT.regionEnd,ht]
  rw[hr];clear hr;have ht':(r.top.1 != 1)=true:=by simpa using ht
  go_enter Tryz.func85,Tryz.ntmps85
  go_wp2_with fail
  refine(topR b s r w h (by omega)).mono ?_;rintro e w1 ⟨rfl,h1,b1⟩;have hlt1:=h1.lt;have HB:Hid (∀o,Below b w (w1.alloc o)):=fun o=>b1.alloc (by omega) o
  go_wp2;go_ret;exact⟨rfl,h1.alloc _,HB.out _⟩
set_option maxHeartbeats 800000 in
set_option maxRecDepth 100000 in
theorem bodyBeginR(b:Nat)(k:Int)(s:ByteArray)(r:RT)(w:World)(h:RR w b s r)(hs:s.size≤240)(hp:r.pl≤900)(ho:r.op.length≤900)(hm0:r.st.length≤900) :
  Calls Tryz.prog 107 #[.pointer (some ⟨b,0,none⟩),.int .i64 k] w fun e w'=>e=.returned (.bool (r.bodyBegin s.data.toList k).2)∧RR w' b s (r.bodyBegin s.data.toList k).1∧Below b w w':=by
 have c1:=h.c1;have f1:=h.fz 1;have hm:=h.moved;cases hx:nxI s.data.toList (r.pl+1) [123]with
 | none=>
  have hr:r.bodyBegin s.data.toList k=(r.to 1,false):=by simp[RT.bodyBegin,hx]
  rw[hr];clear hr;have hx':nxI s.data.toList (r.to 1).pl [123]=none:=hx
  go_enter Tryz.func107,Tryz.ntmps107
  go_wp2_with fail
  refine(nextR_none b [123] s (r.to 1) _ hm hs (by decide) (by simp[RT.to];omega) hx').mono ?_;rintro e w1 ⟨rfl,h1,b1⟩;clear hx hx' h hm;go_wp2;go_ret;exact⟨rfl,h1,(moved_below _ _ _).trans b1⟩
 | some i=>
  have hr:r.bodyBegin s.data.toList k=(((r.to 1).to 1).push k (-1) ((r.st.length:Int)-1),true):=by simp[RT.bodyBegin,hx,RT.to]
  rw[hr];clear hr;have hx':nxI s.data.toList (r.to 1).pl [123]=some i:=hx
  go_enter Tryz.func107,Tryz.ntmps107
  go_wp2_with fail
  refine(nextR_some b [123] s (r.to 1) i _ hm hs (by decide) (by simp[RT.to];omega) hx').mono ?_;rintro e w1 ⟨rfl,h1,b1⟩;clear hx hx' h hm;have hi0:(0:Int)≤(i:Int):=Int.natCast_nonneg _;obtain⟨am,cm,c4⟩:=h1.c4;have hst:((r.to 1).to 1).st.length=r.st.length:=rfl;rw[hst]at c4
  go_wp2_with fail
  refine(pushR b _ _ _ s ((r.to 1).to 1) w1 h1 (by simp[RT.to];omega)).mono ?_;rintro e w3 ⟨rfl,h3,b3⟩;go_wp2;go_ret;exact⟨rfl,h3,((moved_below _ _ _).trans b1).trans b3⟩
set_option maxHeartbeats 800000 in
set_option maxRecDepth 100000 in
theorem testR(b:Nat)(k:Int)(s:ByteArray)(r:RT)(w:World)(h:RR w b s r)(hs:s.size≤240)(hp:r.pl≤900)(ho:r.op.length≤900)(hm0:r.st.length≤800) :
  Calls Tryz.prog 87 #[.pointer (some ⟨b,0,none⟩),.int .i64 k] w fun e w'=>e=.returned (.bool (r.test s.data.toList k).2)∧RR w' b s (r.test s.data.toList k).1∧Below b w w':=by
 have c1:=h.c1;unfold RT.test
 go_enter Tryz.func87,Tryz.ntmps87
 go_wp2_with fail
 refine(stepR b _ _ _ _ _ _ s r _ h (by omega) (by omega)).mono ?_;rintro e w1 ⟨rfl,h1,b1,_⟩
 go_wp2_with fail
 refine(bodyBeginR b k s _ w1 h1 hs (by simpa[RT.step]using hp) (by simpa[RT.step]using ho) (by simp[RT.step];omega)).mono ?_;rintro e w2 ⟨rfl,h2,b2⟩;go_wp2;go_ret;exact⟨rfl,h2,b1.trans b2⟩
set_option maxHeartbeats 800000 in
set_option maxRecDepth 100000 in
theorem printR(b:Nat)(s:ByteArray)(r:RT)(w:World)(h:RR w b s r)(hp:r.pl≤900)(ho:r.op.length≤900)(hm0:r.st.length≤900) :
  Calls Tryz.prog 83 #[.pointer (some ⟨b,0,none⟩)] w fun e w'=>e=.returned (.bool true)∧RR w' b s r.print∧Below b w w':=by
 have c1:=h.c1;unfold RT.print
 go_enter Tryz.func83,Tryz.ntmps83
 go_wp2_with fail
 refine(stepR b _ _ _ _ _ _ s r _ h (by omega) (by omega)).mono ?_;rintro e w1 ⟨rfl,h1,b1,_⟩;have d1:=h1.c1;have f1:=h1.fz 1;have hm:=h1.moved;have hpl:(r.step 4 r.pl 0 false).pl=r.pl:=rfl;rw[hpl]at d1 hm;go_wp2;go_ret;exact⟨rfl,hm,b1.trans (moved_below _ _ _)⟩
structure Box(w:World)(k:Nat)(x y z:Int):Prop where
 heap:w.heap[k]?=some (.cells #[.int .i64 x,.int .i64 y,.int .i64 z] 151)
theorem Box.later{w w':World}{b k:Nat}{x y z:Int}(h:Box w k x y z)(hk:Kp b w w')(hb:b<k):Box w' k x y z:=⟨hk k _ _ hb h.heap⟩
theorem Box.c2{w:World}{k:Nat}{x y z:Int}(h:Box w k x y z):w.cell? ⟨k,2,none⟩=some (.int .i64 z):=by simp[World.cell?,h.heap]
set_option maxHeartbeats 1600000 in
set_option maxRecDepth 100000 in
theorem bodyEnd_3(b:Nat)(s:ByteArray)(r:RT)(w:World)(h:RR w b s r)(hs:s.size≤240)(hp:r.pl≤900)(ho:r.op.length≤900)(hm0:r.st.length≤800)(ht:r.top.1=3) :
  Calls Tryz.prog 88 #[.pointer (some ⟨b,0,none⟩)] w fun e w'=>e=.returned (.bool (r.bodyEnd s.data.toList).2)∧RR w' b s (r.bodyEnd s.data.toList).1∧Below b w w':=by
 obtain⟨l,hl⟩:∃l,l=r.top.2.1:=⟨_,rfl⟩;obtain⟨f,hf⟩:∃f,f=r.top.2.2:=⟨_,rfl⟩;have hr:r.bodyEnd s.data.toList=((r.pop.step 8 r.pl 0 false).els f).bodyBegin s.data.toList 4:=by simp[RT.bodyEnd,ht,hf]
 rw[hr];clear hr;have h0:r.op≠[]:=op_ne_of_top (by omega)
 go_enter Tryz.func88,Tryz.ntmps88
 go_wp2_with fail
 refine(topR b s r w h (by omega)).mono ?_;rintro e w1 ⟨rfl,h1,b1⟩;have hlt1:=h1.lt;have HB:Hid (∀o,Below b w (w1.alloc o)):=fun o=>b1.alloc (by omega) o
 rw[←hl,←hf,ht];clear ht b1 h hl hf;have BX:Hid (Box (w1.alloc (.cells #[.int .i64 3,.int .i64 l,.int .i64 f] 151)) w1.heap.size 3 l f):=⟨heap_alloc_new _ _⟩
 go_wp2_with fail
 refine(popR b s r _ (h1.alloc _) (by omega) h0).mono ?_;rintro e w2 ⟨rfl,h2,b2,k2⟩;have BX2:Hid (Box w2 w1.heap.size 3 l f):=BX.out.later k2 hlt1;have c1:=h2.c1;have hpp:r.pop.pl=r.pl:=rfl;rw[hpp]at c1;have HB2:Hid (Below b w w2):=(HB.out _).trans b2;clear k2 b2 BX HB h1
 go_wp2_with fail
 refine(stepR b _ _ _ _ _ _ s r.pop _ h2 (by simp[RT.pop];omega) (by simp[RT.pop];omega)).mono ?_;rintro e w3 ⟨rfl,h3,b3,k3⟩;have BX3:Hid (Box w3 w1.heap.size 3 l f):=BX2.out.later k3 hlt1;have HB3:Hid (Below b w w3):=HB2.out.trans b3;have q2:=BX3.out.c2;clear k3 b3 BX2 h2 HB2 c1
 go_wp2_with fail
 refine(elseR b f s _ _ h3 (by simp[RT.pop,RT.step];omega)).mono ?_;rintro e w4 ⟨rfl,h4,b4,_⟩;clear q2
 go_wp2_with fail
 refine(bodyBeginR b 4 s _ w4 h4 hs (by simpa[RT.pop,RT.step,RT.els]using hp) (by simp[RT.pop,RT.step,RT.els];omega) (by simp[RT.pop,RT.step,RT.els,else_len];omega)).mono ?_;rintro e w5 ⟨rfl,h5,b5⟩;go_wp2;go_ret;exact⟨rfl,h5,(HB3.out.trans b4).trans b5⟩
set_option maxHeartbeats 1600000 in
set_option maxRecDepth 100000 in
theorem bodyEnd_4(b:Nat)(s:ByteArray)(r:RT)(w:World)(h:RR w b s r)(_hs:s.size≤240)(hp:r.pl≤900)(ho:r.op.length≤900)(hm0:r.st.length≤800)(ht:r.top.1=4) :
  Calls Tryz.prog 88 #[.pointer (some ⟨b,0,none⟩)] w fun e w'=>e=.returned (.bool (r.bodyEnd s.data.toList).2)∧RR w' b s (r.bodyEnd s.data.toList).1∧Below b w w':=by
 obtain⟨l,hl⟩:∃l,l=r.top.2.1:=⟨_,rfl⟩;obtain⟨f,hf⟩:∃f,f=r.top.2.2:=⟨_,rfl⟩;have hr:r.bodyEnd s.data.toList=((r.pop.lead f r.st.length).to 1,true):=by simp[RT.bodyEnd,ht,hf]
 rw[hr];clear hr;have h0:r.op≠[]:=op_ne_of_top (by omega)
 go_enter Tryz.func88,Tryz.ntmps88
 go_wp2_with fail
 refine(topR b s r w h (by omega)).mono ?_;rintro e w1 ⟨rfl,h1,b1⟩;have hlt1:=h1.lt;have HB:Hid (∀o,Below b w (w1.alloc o)):=fun o=>b1.alloc (by omega) o
 rw[←hl,←hf,ht];clear ht b1 h hl hf;have BX:Hid (Box (w1.alloc (.cells #[.int .i64 4,.int .i64 l,.int .i64 f] 151)) w1.heap.size 4 l f):=⟨heap_alloc_new _ _⟩
 go_wp2_with fail
 refine(popR b s r _ (h1.alloc _) (by omega) h0).mono ?_;rintro e w2 ⟨rfl,h2,b2,k2⟩;have BX2:Hid (Box w2 w1.heap.size 4 l f):=BX.out.later k2 hlt1;have q2:=BX2.out.c2;obtain⟨am,cm,c4⟩:=h2.c4;have hst:r.pop.st.length=r.st.length:=rfl;rw[hst]at c4;have HB2:Hid (Below b w w2):=(HB.out _).trans b2;clear k2 b2 BX HB h1 BX2 hst
 go_wp2_with fail
 refine(leadR b f _ s r.pop _ h2 (by simp[RT.pop];omega)).mono ?_;rintro e w3 ⟨rfl,h3,b3,_⟩;have d1:=h3.c1;have f1:=h3.fz 1;have hm:=h3.moved;have hpl:(r.pop.lead f r.st.length).pl=r.pl:=rfl;rw[hpl]at d1 hm;have HB3:Hid (Below b w w3):=HB2.out.trans b3;clear q2 c4 b3;go_wp2;go_ret;exact⟨rfl,hm,HB3.out.trans (moved_below _ _ _)⟩
set_option maxHeartbeats 1600000 in
set_option maxRecDepth 100000 in
theorem bodyEnd_5(b:Nat)(s:ByteArray)(r:RT)(w:World)(h:RR w b s r)(_hs:s.size≤240)(hp:r.pl≤900)(ho:r.op.length≤900)(hm0:r.st.length≤800)(ht:r.top.1=5) :
  Calls Tryz.prog 88 #[.pointer (some ⟨b,0,none⟩)] w fun e w'=>e=.returned (.bool (r.bodyEnd s.data.toList).2)∧RR w' b s (r.bodyEnd s.data.toList).1∧Below b w w':=by
 obtain⟨l,hl⟩:∃l,l=r.top.2.1:=⟨_,rfl⟩;obtain⟨f,hf⟩:∃f,f=r.top.2.2:=⟨_,rfl⟩;have hr:r.bodyEnd s.data.toList=((((r.pop.step 8 r.pl 0 false).lead r.st.length f).els f).to 1,true):=by simp[RT.bodyEnd,ht,hf]
 rw[hr];clear hr;have h0:r.op≠[]:=op_ne_of_top (by omega)
 go_enter Tryz.func88,Tryz.ntmps88
 go_wp2_with fail
 refine(topR b s r w h (by omega)).mono ?_;rintro e w1 ⟨rfl,h1,b1⟩;have hlt1:=h1.lt;have HB:Hid (∀o,Below b w (w1.alloc o)):=fun o=>b1.alloc (by omega) o
 rw[←hl,←hf,ht];clear ht b1 h hl hf;have BX:Hid (Box (w1.alloc (.cells #[.int .i64 5,.int .i64 l,.int .i64 f] 151)) w1.heap.size 5 l f):=⟨heap_alloc_new _ _⟩
 go_wp2_with fail
 refine(popR b s r _ (h1.alloc _) (by omega) h0).mono ?_;rintro e w2 ⟨rfl,h2,b2,k2⟩;have BX2:Hid (Box w2 w1.heap.size 5 l f):=BX.out.later k2 hlt1;obtain⟨am,cm,c4⟩:=h2.c4;have c1:=h2.c1;have hst:r.pop.st.length=r.st.length:=rfl;have hpp:r.pop.pl=r.pl:=rfl;rw[hst]at c4;rw[hpp]at c1;have HB2:Hid (Below b w w2):=(HB.out _).trans b2;clear k2 b2 BX HB h1 hst hpp
 go_wp2_with fail
 refine(stepR b _ _ _ _ _ _ s r.pop _ h2 (by simp[RT.pop];omega) (by simp[RT.pop];omega)).mono ?_;rintro e w3 ⟨rfl,h3,b3,k3⟩;have BX3:Hid (Box w3 w1.heap.size 5 l f):=BX2.out.later k3 hlt1;have HB3:Hid (Below b w w3):=HB2.out.trans b3;have q2:=BX3.out.c2;clear k3 b3 BX2 h2 HB2 c1 c4
 go_wp2_with fail
 refine(leadR b _ f s _ _ h3 (by simp[RT.pop,RT.step];omega)).mono ?_;rintro e w4 ⟨rfl,h4,b4,k4⟩;have BX4:Hid (Box w4 w1.heap.size 5 l f):=BX3.out.later k4 hlt1;have HB4:Hid (Below b w w4):=HB3.out.trans b4;have q4:=BX4.out.c2;clear q2 k4 b4 BX3 h3 HB3
 go_wp2_with fail
 refine(elseR b f s _ _ h4 (by simp[RT.pop,RT.step,RT.lead,lead_len];omega)).mono ?_;rintro e w5 ⟨rfl,h5,b5,_⟩;have d1:=h5.c1;have f1:=h5.fz 1;have hm:=h5.moved;have hpl:(((r.pop.step 8 r.pl 0 false).lead r.st.length f).els f).pl=r.pl:=rfl;rw[hpl]at d1 hm;clear q4;go_wp2;go_ret;exact⟨rfl,hm,(HB4.out.trans b5).trans (moved_below _ _ _)⟩
set_option maxHeartbeats 1600000 in
set_option maxRecDepth 100000 in
theorem bodyEndR(b:Nat)(s:ByteArray)(r:RT)(w:World)(h:RR w b s r)(hs:s.size≤240)(hp:r.pl≤900)(ho:r.op.length≤900)(hm0:r.st.length≤800) :
  Calls Tryz.prog 88 #[.pointer (some ⟨b,0,none⟩)] w fun e w'=>e=.returned (.bool (r.bodyEnd s.data.toList).2)∧RR w' b s (r.bodyEnd s.data.toList).1∧Below b w w':=by
 by_cases h3:r.top.1=3
 ·exact bodyEnd_3 b s r w h hs hp ho hm0 h3
 by_cases h4:r.top.1=4
 ·exact bodyEnd_4 b s r w h hs hp ho hm0 h4
 by_cases h5:r.top.1=5
 ·exact bodyEnd_5 b s r w h hs hp ho hm0 h5
 have hr:r.bodyEnd s.data.toList=(r,false):=by simp[RT.bodyEnd,h3,h4,h5]
 rw[hr];clear hr;have e3:(r.top.1==3)=false:=by simpa using h3
 have e4:(r.top.1==4)=false:=by simpa using h4
 have e5:(r.top.1==5)=false:=by simpa using h5
 clear h3 h4 h5
 go_enter Tryz.func88,Tryz.ntmps88
 go_wp2_with fail
 refine(topR b s r w h (by omega)).mono ?_;rintro e w1 ⟨rfl,h1,b1⟩;have hlt1:=h1.lt;have HB:Hid (∀o,Below b w (w1.alloc o)):=fun o=>b1.alloc (by omega) o
 go_wp2;go_ret;exact⟨rfl,h1.alloc _,HB.out _⟩
set_option maxHeartbeats 800000 in
set_option maxRecDepth 100000 in
theorem nextThreadR(b:Nat)(s:ByteArray)(r:RT)(w:World)(h:RR w b s r)(hp:r.pl≤900)(ho:r.op.length≤900)(hm0:r.st.length≤900)(ht0:0≤r.th) :
  Calls Tryz.prog 89 #[.pointer (some ⟨b,0,none⟩)] w fun e w'=>e=.returned (.bool r.nextThread.2)∧RR w' b s r.nextThread.1∧Below b w w':=by
 obtain⟨ao,co,c3⟩:=h.c3;have c2:=h.c2;have c1:=h.c1
 by_cases h0:r.op=[]
 ·have hl:r.op.length=0:=by simp[h0]
  rw[hl]at c3
  by_cases h4:4≤r.th
  ·have hr:r.nextThread=(r,false):=by simp[RT.nextThread,h4]
   rw[hr];clear hr h0 hl
   go_enter Tryz.func89,Tryz.ntmps89
   go_wp2;go_ret;exact⟨rfl,h,Below.refl _ _⟩
  ·have hr:r.nextThread=(⟨r.pl+1,r.th+1,r.op,(r.step 9 r.pl 0 false).st⟩,true):=by simp[RT.nextThread,h4,h0]
   rw[hr];clear hr
   go_enter Tryz.func89,Tryz.ntmps89
   go_wp2_with fail
   refine(stepR b _ _ _ _ _ _ s r _ h (by omega) (by omega)).mono ?_;rintro e w1 ⟨rfl,h1,b1,_⟩;have d1:=h1.c1;have d2:=h1.c2;have f1:=h1.fz 1;have f2:=h1.fz 2;have hpl:(r.step 9 r.pl 0 false).pl=r.pl:=rfl;have hth:(r.step 9 r.pl 0 false).th=r.th:=rfl;rw[hpl]at d1;rw[hth]at d2;have R:Hid (RR ((w1.setCell ⟨b,1,none⟩ (.int .i64 (r.pl+1))).setCell ⟨b,2,none⟩ (.int .i64 (r.th+1))) b s ⟨r.pl+1,r.th+1,r.op,(r.step 9 r.pl 0 false).st⟩):=by
    obtain⟨_,_,_,_,h1⟩:=h1;exact⟨_,_,_,_,(h1.place (r.pl+1)).thread (r.th+1)⟩
   clear h0 hl h1 h c1 c2 c3 hpl hth;go_wp2;go_ret;exact⟨rfl,R.out,((b1.setCell (by simp) _).setCell (by simp) _)⟩
 ·have hr:r.nextThread=(r,false):=by simp[RT.nextThread,h0]
  rw[hr];obtain⟨m,hl⟩:∃m,r.op.length=m+1:=⟨r.op.length-1,by have:=List.length_pos_iff.2 h0;omega⟩;rw[hl]at c3 ho;clear hr h0 hl;have hp1:(0:Int)<((m+1:Nat):Int):=by omega
  go_enter Tryz.func89,Tryz.ntmps89
  go_wp2;go_ret;exact⟨rfl,h,Below.refl _ _⟩
set_option maxHeartbeats 800000 in
set_option maxRecDepth 100000 in
theorem mendedR(b:Nat)(s:ByteArray)(r:RT)(w:World)(h:RR w b s r)(hs:s.size≤240)(hp:r.pl≤800)(ho:r.op.length≤800)(hm0:r.st.length≤800) :
  Calls Tryz.prog 86 #[.pointer (some ⟨b,0,none⟩)] w fun e w'=>e=.returned (.bool (r.mended s.data.toList).2)∧RR w' b s (r.mended s.data.toList).1∧Below b w w':=by
 have c1:=h.c1;have f1:=h.fz 1;have hm:=h.moved;cases hx:nxI s.data.toList (r.pl+1) [65,66,67,68,69]with
 | none=>
  have hr:r.mended s.data.toList=(r.to 1,false):=by simp[RT.mended,hx]
  rw[hr];clear hr;have hx':nxI s.data.toList (r.to 1).pl [65,66,67,68,69]=none:=hx
  go_enter Tryz.func86,Tryz.ntmps86
  go_wp2_with fail
  refine(nextR_none b [65,66,67,68,69] s (r.to 1) _ hm hs (by decide) (by simp[RT.to];omega) hx').mono ?_;rintro e w1 ⟨rfl,h1,b1⟩;clear hx hx' h hm;go_wp2;go_ret;exact⟨rfl,h1,(moved_below _ _ _).trans b1⟩
 | some i=>
  have hx':nxI s.data.toList (r.to 1).pl [65,66,67,68,69]=some i:=hx;have hi0:(0:Int)≤(i:Int):=Int.natCast_nonneg _;cases ha:((((r.to 1).to 1).step 6 r.pl i true).push 2 i 0).access s.data.toList with
  | mk r3 ok=>
   cases ok with
   | false=>
    have hr:r.mended s.data.toList=(r3,false):=by
     have e1:(r.to 2)=((r.to 1).to 1):=by simp[RT.to]
     simp[RT.mended,hx,e1,ha]
    rw[hr];clear hr
    go_enter Tryz.func86,Tryz.ntmps86
    go_wp2_with fail
    refine(nextR_some b [65,66,67,68,69] s (r.to 1) i _ hm hs (by decide) (by simp[RT.to];omega) hx').mono ?_;rintro e w1 ⟨rfl,h1,b1⟩
    go_wp2_with fail
    refine(stepR b _ _ _ _ _ _ s ((r.to 1).to 1) w1 h1 (by simp[RT.to];omega) (by simp[RT.to];omega)).mono ?_;rintro e w2 ⟨rfl,h2,b2,_⟩
    go_wp2_with fail
    refine(pushR b _ _ _ s (((r.to 1).to 1).step 6 r.pl i true) w2 h2 (by simp[RT.to,RT.step];omega)).mono ?_;rintro e w3 ⟨rfl,h3,b3⟩
    go_wp2_with fail
    refine(accessR b s ((((r.to 1).to 1).step 6 r.pl i true).push 2 i 0) w3 h3 hs (by simp[RT.to,RT.step,RT.push];omega) (by simp[RT.to,RT.step,RT.push];omega) (by simp[RT.to,RT.step,RT.push];omega)).mono ?_;rintro e w4 ⟨rfl,h4,b4⟩;rw[ha]at h4 ⊢;clear ha hx hx' h hm;go_wp2;go_ret;exact⟨rfl,h4,((((moved_below _ _ _).trans b1).trans b2).trans b3).trans b4⟩
   | true=>
    have hb3:r3.pl≤1000∧r3.op.length≤1000∧r3.op≠[]∧r3.st.length≤1000:=by
     have:r3=(((((r.to 1).to 1).step 6 r.pl i true).push 2 i 0).access s.data.toList).1:=by rw[ha]
     rw[RT.access]at ha
     split at ha
     ·cases ha
     ·split at ha
      ·cases ha
      ·cases ha;simp[RT.to,RT.step,RT.push];omega
    obtain⟨hb3,ho3,hn3,hs3⟩:=hb3;cases hz:nxI s.data.toList r3.pl [62]with
    | none=>
     have hr:r.mended s.data.toList=(r3.pop,false):=by
      have e1:(r.to 2)=((r.to 1).to 1):=by simp[RT.to]
      simp[RT.mended,hx,e1,ha,hz]
     rw[hr];clear hr
     go_enter Tryz.func86,Tryz.ntmps86
     go_wp2_with fail
     refine(nextR_some b [65,66,67,68,69] s (r.to 1) i _ hm hs (by decide) (by simp[RT.to];omega) hx').mono ?_;rintro e w1 ⟨rfl,h1,b1⟩
     go_wp2_with fail
     refine(stepR b _ _ _ _ _ _ s ((r.to 1).to 1) w1 h1 (by simp[RT.to];omega) (by simp[RT.to];omega)).mono ?_;rintro e w2 ⟨rfl,h2,b2,_⟩
     go_wp2_with fail
     refine(pushR b _ _ _ s (((r.to 1).to 1).step 6 r.pl i true) w2 h2 (by simp[RT.to,RT.step];omega)).mono ?_;rintro e w3 ⟨rfl,h3,b3⟩
     go_wp2_with fail
     refine(accessR b s ((((r.to 1).to 1).step 6 r.pl i true).push 2 i 0) w3 h3 hs (by simp[RT.to,RT.step,RT.push];omega) (by simp[RT.to,RT.step,RT.push];omega) (by simp[RT.to,RT.step,RT.push];omega)).mono ?_;rintro e w4 ⟨rfl,h4,b4⟩;rw[ha]at h4 ⊢;clear ha hx hx' h hm
     go_wp2_with fail
     refine(popR b s r3 w4 h4 (by omega) hn3).mono ?_;rintro e wp ⟨rfl,hp5,bp,_⟩;have cp:=hp5.c1;have hz':nxI s.data.toList r3.pop.pl [62]=none:=hz
     go_wp2_with fail
     refine(nextR_none b [62] s r3.pop wp hp5 hs (by decide) (by simp[RT.pop];omega) hz').mono ?_;rintro e w5 ⟨rfl,h5,b5⟩;clear hz hz';go_wp2;go_ret;exact⟨rfl,h5,((((((moved_below _ _ _).trans b1).trans b2).trans b3).trans b4).trans bp).trans b5⟩
    | some j=>
     have hr:r.mended s.data.toList=((r3.pop.to 1).step 7 r3.pl i true,true):=by
      have e1:(r.to 2)=((r.to 1).to 1):=by simp[RT.to]
      simp[RT.mended,hx,e1,ha,hz]
     rw[hr];clear hr;have hj0:(0:Int)≤(j:Int):=Int.natCast_nonneg _
     go_enter Tryz.func86,Tryz.ntmps86
     go_wp2_with fail
     refine(nextR_some b [65,66,67,68,69] s (r.to 1) i _ hm hs (by decide) (by simp[RT.to];omega) hx').mono ?_;rintro e w1 ⟨rfl,h1,b1⟩
     go_wp2_with fail
     refine(stepR b _ _ _ _ _ _ s ((r.to 1).to 1) w1 h1 (by simp[RT.to];omega) (by simp[RT.to];omega)).mono ?_;rintro e w2 ⟨rfl,h2,b2,_⟩
     go_wp2_with fail
     refine(pushR b _ _ _ s (((r.to 1).to 1).step 6 r.pl i true) w2 h2 (by simp[RT.to,RT.step];omega)).mono ?_;rintro e w3 ⟨rfl,h3,b3⟩
     go_wp2_with fail
     refine(accessR b s ((((r.to 1).to 1).step 6 r.pl i true).push 2 i 0) w3 h3 hs (by simp[RT.to,RT.step,RT.push];omega) (by simp[RT.to,RT.step,RT.push];omega) (by simp[RT.to,RT.step,RT.push];omega)).mono ?_;rintro e w4 ⟨rfl,h4,b4⟩;rw[ha]at h4 ⊢;clear ha hx hx' h hm
     go_wp2_with fail
     refine(popR b s r3 w4 h4 (by omega) hn3).mono ?_;rintro e wp ⟨rfl,hp5,bp,_⟩;have cp:=hp5.c1;have hpp:r3.pop.pl=r3.pl:=rfl;rw[hpp]at cp;have hz':nxI s.data.toList r3.pop.pl [62]=some j:=hz
     go_wp2_with fail
     refine(nextR_some b [62] s r3.pop j wp hp5 hs (by decide) (by simp[RT.pop];omega) hz').mono ?_;rintro e w5 ⟨rfl,h5,b5⟩;clear hz hz'
     go_wp2_with fail
     refine(stepR b _ _ _ _ _ _ s (r3.pop.to 1) w5 h5 (by simp[RT.to,RT.pop];omega) (by simp[RT.to,RT.pop];omega)).mono ?_;rintro e w6 ⟨rfl,h6,b6,_⟩;go_wp2;go_ret;exact⟨rfl,h6,(((((((moved_below _ _ _).trans b1).trans b2).trans b3).trans b4).trans bp).trans b5).trans b6⟩
theorem byte_at(s:ByteArray)(k:Nat)(h:k<s.size):s.data.toList[k]?=some s[k]:=by
 rw[List.getElem?_eq_getElem (by simpa using h)];rfl
theorem u8_ne{c d:UInt8}(h:c≠d):((c.toNat:Int)==(d.toNat:Int))=false:=by
 rw[beq_eq_false_iff_ne];intro e;apply h;apply UInt8.toNat_inj.1;omega
set_option maxHeartbeats 800000 in
set_option maxRecDepth 100000 in
theorem piece_g(b:Nat)(s:ByteArray)(r:RT)(w:World)(h:RR w b s r)(_hs:s.size≤240)(hp:r.pl<s.size)(_ho:r.op.length≤240)(_hm:r.st.length≤240)(_ht:0≤r.th)(hc:s[r.pl]=103) :
  Calls Tryz.prog 60 #[.pointer (some ⟨b,0,none⟩)] w fun e w'=>e=.returned (.bool (r.piece s.data.toList).2)∧RR w' b s (r.piece s.data.toList).1∧Below b w w':=by
 have hb:=byte_at s r.pl hp;rw[hc]at hb;have hr:r.piece s.data.toList=r.access s.data.toList:=by simp[RT.piece,hb]
 rw[hr];clear hr hb;have c0:=h.c0;have c1:=h.c1
 go_enter Tryz.func60,Tryz.ntmps60
 go_wp2_with fail
 go_quiet (fail)
 go_wp2_with fail
 go_quiet (fail)
 go_wp2_with fail
 refine(accessR b s r _ (h.drewN _) _hs (by omega) (by omega) (by omega)).mono ?_;rintro e w1 ⟨rfl,h1,b1⟩;go_wp2;go_ret;exact⟨rfl,h1,(below_drewN' _ _ _).trans b1⟩
set_option maxHeartbeats 800000 in
set_option maxRecDepth 100000 in
theorem piece_p(b:Nat)(s:ByteArray)(r:RT)(w:World)(h:RR w b s r)(_hs:s.size≤240)(hp:r.pl<s.size)(_ho:r.op.length≤240)(_hm:r.st.length≤240)(_ht:0≤r.th)(hc:s[r.pl]=112) :
  Calls Tryz.prog 60 #[.pointer (some ⟨b,0,none⟩)] w fun e w'=>e=.returned (.bool (r.piece s.data.toList).2)∧RR w' b s (r.piece s.data.toList).1∧Below b w w':=by
 have hb:=byte_at s r.pl hp;rw[hc]at hb;have hr:r.piece s.data.toList=r.access s.data.toList:=by simp[RT.piece,hb]
 rw[hr];clear hr hb;have c0:=h.c0;have c1:=h.c1
 go_enter Tryz.func60,Tryz.ntmps60
 go_wp2_with fail
 go_quiet (fail)
 go_wp2_with fail
 go_quiet (fail)
 go_wp2_with fail
 refine(accessR b s r _ (h.drewN _) _hs (by omega) (by omega) (by omega)).mono ?_;rintro e w1 ⟨rfl,h1,b1⟩;go_wp2;go_ret;exact⟨rfl,h1,(below_drewN' _ _ _).trans b1⟩
set_option maxHeartbeats 800000 in
set_option maxRecDepth 100000 in
theorem piece_i(b:Nat)(s:ByteArray)(r:RT)(w:World)(h:RR w b s r)(_hs:s.size≤240)(hp:r.pl<s.size)(_ho:r.op.length≤240)(_hm:r.st.length≤240)(_ht:0≤r.th)(hc:s[r.pl]=105) :
  Calls Tryz.prog 60 #[.pointer (some ⟨b,0,none⟩)] w fun e w'=>e=.returned (.bool (r.piece s.data.toList).2)∧RR w' b s (r.piece s.data.toList).1∧Below b w w':=by
 have hb:=byte_at s r.pl hp;rw[hc]at hb;have hr:r.piece s.data.toList=r.addition s.data.toList:=by simp[RT.piece,hb]
 rw[hr];clear hr hb;have c0:=h.c0;have c1:=h.c1
 go_enter Tryz.func60,Tryz.ntmps60
 go_wp2_with fail
 go_quiet (fail)
 go_wp2_with fail
 go_quiet (fail)
 go_wp2_with fail
 refine(additionR b s r _ (h.drewN _) _hs (by omega) (by omega) (by omega)).mono ?_;rintro e w1 ⟨rfl,h1,b1⟩;go_wp2;go_ret;exact⟨rfl,h1,(below_drewN' _ _ _).trans b1⟩
set_option maxHeartbeats 800000 in
set_option maxRecDepth 100000 in
theorem piece_lb(b:Nat)(s:ByteArray)(r:RT)(w:World)(h:RR w b s r)(_hs:s.size≤240)(hp:r.pl<s.size)(_ho:r.op.length≤240)(_hm:r.st.length≤240)(_ht:0≤r.th)(hc:s[r.pl]=91) :
  Calls Tryz.prog 60 #[.pointer (some ⟨b,0,none⟩)] w fun e w'=>e=.returned (.bool (r.piece s.data.toList).2)∧RR w' b s (r.piece s.data.toList).1∧Below b w w':=by
 have hb:=byte_at s r.pl hp;rw[hc]at hb;have hr:r.piece s.data.toList=r.regionBegin s.data.toList:=by simp[RT.piece,hb]
 rw[hr];clear hr hb;have c0:=h.c0;have c1:=h.c1
 go_enter Tryz.func60,Tryz.ntmps60
 go_wp2_with fail
 go_quiet (fail)
 go_wp2_with fail
 go_quiet (fail)
 go_wp2_with fail
 refine(regionBeginR b s r _ (h.drewN _) _hs (by omega) (by omega) (by omega)).mono ?_;rintro e w1 ⟨rfl,h1,b1⟩;go_wp2;go_ret;exact⟨rfl,h1,(below_drewN' _ _ _).trans b1⟩
set_option maxHeartbeats 800000 in
set_option maxRecDepth 100000 in
theorem piece_rb(b:Nat)(s:ByteArray)(r:RT)(w:World)(h:RR w b s r)(_hs:s.size≤240)(hp:r.pl<s.size)(_ho:r.op.length≤240)(_hm:r.st.length≤240)(_ht:0≤r.th)(hc:s[r.pl]=93) :
  Calls Tryz.prog 60 #[.pointer (some ⟨b,0,none⟩)] w fun e w'=>e=.returned (.bool (r.piece s.data.toList).2)∧RR w' b s (r.piece s.data.toList).1∧Below b w w':=by
 have hb:=byte_at s r.pl hp;rw[hc]at hb;have hr:r.piece s.data.toList=r.regionEnd:=by simp[RT.piece,hb]
 rw[hr];clear hr hb;have c0:=h.c0;have c1:=h.c1
 go_enter Tryz.func60,Tryz.ntmps60
 go_wp2_with fail
 go_quiet (fail)
 go_wp2_with fail
 go_quiet (fail)
 go_wp2_with fail
 refine(regionEndR b s r _ (h.drewN _) (by omega) (by omega) (by omega)).mono ?_;rintro e w1 ⟨rfl,h1,b1⟩;go_wp2;go_ret;exact⟨rfl,h1,(below_drewN' _ _ _).trans b1⟩
set_option maxHeartbeats 800000 in
set_option maxRecDepth 100000 in
theorem piece_lt(b:Nat)(s:ByteArray)(r:RT)(w:World)(h:RR w b s r)(_hs:s.size≤240)(hp:r.pl<s.size)(_ho:r.op.length≤240)(_hm:r.st.length≤240)(_ht:0≤r.th)(hc:s[r.pl]=60) :
  Calls Tryz.prog 60 #[.pointer (some ⟨b,0,none⟩)] w fun e w'=>e=.returned (.bool (r.piece s.data.toList).2)∧RR w' b s (r.piece s.data.toList).1∧Below b w w':=by
 have hb:=byte_at s r.pl hp;rw[hc]at hb;have hr:r.piece s.data.toList=r.mended s.data.toList:=by simp[RT.piece,hb]
 rw[hr];clear hr hb;have c0:=h.c0;have c1:=h.c1
 go_enter Tryz.func60,Tryz.ntmps60
 go_wp2_with fail
 go_quiet (fail)
 go_wp2_with fail
 go_quiet (fail)
 go_wp2_with fail
 refine(mendedR b s r _ (h.drewN _) _hs (by omega) (by omega) (by omega)).mono ?_;rintro e w1 ⟨rfl,h1,b1⟩;go_wp2;go_ret;exact⟨rfl,h1,(below_drewN' _ _ _).trans b1⟩
set_option maxHeartbeats 800000 in
set_option maxRecDepth 100000 in
theorem piece_q(b:Nat)(s:ByteArray)(r:RT)(w:World)(h:RR w b s r)(_hs:s.size≤240)(hp:r.pl<s.size)(_ho:r.op.length≤240)(_hm:r.st.length≤240)(_ht:0≤r.th)(hc:s[r.pl]=63) :
  Calls Tryz.prog 60 #[.pointer (some ⟨b,0,none⟩)] w fun e w'=>e=.returned (.bool (r.piece s.data.toList).2)∧RR w' b s (r.piece s.data.toList).1∧Below b w w':=by
 have hb:=byte_at s r.pl hp;rw[hc]at hb;have hr:r.piece s.data.toList=r.test s.data.toList 3:=by simp[RT.piece,hb]
 rw[hr];clear hr hb;have c0:=h.c0;have c1:=h.c1
 go_enter Tryz.func60,Tryz.ntmps60
 go_wp2_with fail
 go_quiet (fail)
 go_wp2_with fail
 go_quiet (fail)
 go_wp2_with fail
 refine(testR b 3 s r _ (h.drewN _) _hs (by omega) (by omega) (by omega)).mono ?_;rintro e w1 ⟨rfl,h1,b1⟩;go_wp2;go_ret;exact⟨rfl,h1,(below_drewN' _ _ _).trans b1⟩
set_option maxHeartbeats 800000 in
set_option maxRecDepth 100000 in
theorem piece_x(b:Nat)(s:ByteArray)(r:RT)(w:World)(h:RR w b s r)(_hs:s.size≤240)(hp:r.pl<s.size)(_ho:r.op.length≤240)(_hm:r.st.length≤240)(_ht:0≤r.th)(hc:s[r.pl]=33) :
  Calls Tryz.prog 60 #[.pointer (some ⟨b,0,none⟩)] w fun e w'=>e=.returned (.bool (r.piece s.data.toList).2)∧RR w' b s (r.piece s.data.toList).1∧Below b w w':=by
 have hb:=byte_at s r.pl hp;rw[hc]at hb;have hr:r.piece s.data.toList=r.test s.data.toList 5:=by simp[RT.piece,hb]
 rw[hr];clear hr hb;have c0:=h.c0;have c1:=h.c1
 go_enter Tryz.func60,Tryz.ntmps60
 go_wp2_with fail
 go_quiet (fail)
 go_wp2_with fail
 go_quiet (fail)
 go_wp2_with fail
 refine(testR b 5 s r _ (h.drewN _) _hs (by omega) (by omega) (by omega)).mono ?_;rintro e w1 ⟨rfl,h1,b1⟩;go_wp2;go_ret;exact⟨rfl,h1,(below_drewN' _ _ _).trans b1⟩
set_option maxHeartbeats 800000 in
set_option maxRecDepth 100000 in
theorem piece_rc(b:Nat)(s:ByteArray)(r:RT)(w:World)(h:RR w b s r)(_hs:s.size≤240)(hp:r.pl<s.size)(_ho:r.op.length≤240)(_hm:r.st.length≤240)(_ht:0≤r.th)(hc:s[r.pl]=125) :
  Calls Tryz.prog 60 #[.pointer (some ⟨b,0,none⟩)] w fun e w'=>e=.returned (.bool (r.piece s.data.toList).2)∧RR w' b s (r.piece s.data.toList).1∧Below b w w':=by
 have hb:=byte_at s r.pl hp;rw[hc]at hb;have hr:r.piece s.data.toList=r.bodyEnd s.data.toList:=by simp[RT.piece,hb]
 rw[hr];clear hr hb;have c0:=h.c0;have c1:=h.c1
 go_enter Tryz.func60,Tryz.ntmps60
 go_wp2_with fail
 go_quiet (fail)
 go_wp2_with fail
 go_quiet (fail)
 go_wp2_with fail
 refine(bodyEndR b s r _ (h.drewN _) _hs (by omega) (by omega) (by omega)).mono ?_;rintro e w1 ⟨rfl,h1,b1⟩;go_wp2;go_ret;exact⟨rfl,h1,(below_drewN' _ _ _).trans b1⟩
set_option maxHeartbeats 800000 in
set_option maxRecDepth 100000 in
theorem piece_bar(b:Nat)(s:ByteArray)(r:RT)(w:World)(h:RR w b s r)(_hs:s.size≤240)(hp:r.pl<s.size)(_ho:r.op.length≤240)(_hm:r.st.length≤240)(_ht:0≤r.th)(hc:s[r.pl]=124) :
  Calls Tryz.prog 60 #[.pointer (some ⟨b,0,none⟩)] w fun e w'=>e=.returned (.bool (r.piece s.data.toList).2)∧RR w' b s (r.piece s.data.toList).1∧Below b w w':=by
 have hb:=byte_at s r.pl hp;rw[hc]at hb;have hr:r.piece s.data.toList=r.nextThread:=by simp[RT.piece,hb]
 rw[hr];clear hr hb;have c0:=h.c0;have c1:=h.c1
 go_enter Tryz.func60,Tryz.ntmps60
 go_wp2_with fail
 go_quiet (fail)
 go_wp2_with fail
 go_quiet (fail)
 go_wp2_with fail
 refine(nextThreadR b s r _ (h.drewN _) (by omega) (by omega) (by omega) _ht).mono ?_;rintro e w1 ⟨rfl,h1,b1⟩;go_wp2;go_ret;exact⟨rfl,h1,(below_drewN' _ _ _).trans b1⟩
set_option maxHeartbeats 800000 in
set_option maxRecDepth 100000 in
theorem piece_o(b:Nat)(s:ByteArray)(r:RT)(w:World)(h:RR w b s r)(_hs:s.size≤240)(hp:r.pl<s.size)(_ho:r.op.length≤240)(_hm:r.st.length≤240)(_ht:0≤r.th)(hc:s[r.pl]=111) :
  Calls Tryz.prog 60 #[.pointer (some ⟨b,0,none⟩)] w fun e w'=>e=.returned (.bool (r.piece s.data.toList).2)∧RR w' b s (r.piece s.data.toList).1∧Below b w w':=by
 have hb:=byte_at s r.pl hp;rw[hc]at hb;have hr:r.piece s.data.toList=(r.print,true):=by simp[RT.piece,hb]
 rw[hr];clear hr hb;have c0:=h.c0;have c1:=h.c1
 go_enter Tryz.func60,Tryz.ntmps60
 go_wp2_with fail
 go_quiet (fail)
 go_wp2_with fail
 go_quiet (fail)
 go_wp2_with fail
 refine(printR b s r _ (h.drewN _) (by omega) (by omega) (by omega)).mono ?_;rintro e w1 ⟨rfl,h1,b1⟩;go_wp2;go_ret;exact⟨rfl,h1,(below_drewN' _ _ _).trans b1⟩
set_option maxHeartbeats 800000 in
set_option maxRecDepth 100000 in
theorem piece_no(b:Nat)(s:ByteArray)(r:RT)(w:World)(h:RR w b s r)(_hs:s.size≤240)(hp:r.pl<s.size)(hc:¬(s[r.pl]=103∨s[r.pl]=112∨s[r.pl]=105∨s[r.pl]=111∨s[r.pl]=91∨s[r.pl]=93∨s[r.pl]=60∨s[r.pl]=63∨s[r.pl]=33∨s[r.pl]=125∨s[r.pl]=124)) :
  Calls Tryz.prog 60 #[.pointer (some ⟨b,0,none⟩)] w fun e w'=>e=.returned (.bool (r.piece s.data.toList).2)∧RR w' b s (r.piece s.data.toList).1∧Below b w w':=by
 have hb:=byte_at s r.pl hp;simp only[not_or]at hc;obtain⟨n103,n112,n105,n111,n91,n93,n60,n63,n33,n125,n124⟩:=hc;have hr:r.piece s.data.toList=(r,false):=by simp[RT.piece,hb,n103,n112,n105,n111,n91,n93,n60,n63,n33,n125,n124]
 rw[hr];clear hr hb;have m103:((s[r.pl].toNat:Int)==103)=false:=u8_ne n103;have m112:((s[r.pl].toNat:Int)==112)=false:=u8_ne n112;have m105:((s[r.pl].toNat:Int)==105)=false:=u8_ne n105;have m111:((s[r.pl].toNat:Int)==111)=false:=u8_ne n111;have m91:((s[r.pl].toNat:Int)==91)=false:=u8_ne n91;have m93:((s[r.pl].toNat:Int)==93)=false:=u8_ne n93;have m60:((s[r.pl].toNat:Int)==60)=false:=u8_ne n60;have m63:((s[r.pl].toNat:Int)==63)=false:=u8_ne n63;have m33:((s[r.pl].toNat:Int)==33)=false:=u8_ne n33;have m125:((s[r.pl].toNat:Int)==125)=false:=u8_ne n125;have m124:((s[r.pl].toNat:Int)==124)=false:=u8_ne n124;clear n103 n112 n105 n111 n91 n93 n60 n63 n33 n125 n124;have c0:=h.c0;have c1:=h.c1
 go_enter Tryz.func60,Tryz.ntmps60
 go_wp2_with fail
 go_quiet (fail)
 go_wp2_with fail
 go_quiet (fail)
 go_wp2;go_ret;exact⟨rfl,h.drewN _,below_drewN' _ _ _⟩
theorem pieceR(b:Nat)(s:ByteArray)(r:RT)(w:World)(h:RR w b s r)(hs:s.size≤240)(hp:r.pl<s.size)(ho:r.op.length≤240)(hm:r.st.length≤240)(ht:0≤r.th) :
  Calls Tryz.prog 60 #[.pointer (some ⟨b,0,none⟩)] w fun e w'=>e=.returned (.bool (r.piece s.data.toList).2)∧RR w' b s (r.piece s.data.toList).1∧Below b w w':=by
 by_cases hc:s[r.pl]=103∨s[r.pl]=112∨s[r.pl]=105∨s[r.pl]=111∨s[r.pl]=91∨s[r.pl]=93∨s[r.pl]=60∨s[r.pl]=63∨s[r.pl]=33∨s[r.pl]=125∨s[r.pl]=124
 ·rcases hc with hc|hc|hc|hc|hc|hc|hc|hc|hc|hc|hc
  ·exact piece_g b s r w h hs hp ho hm ht hc
  ·exact piece_p b s r w h hs hp ho hm ht hc
  ·exact piece_i b s r w h hs hp ho hm ht hc
  ·exact piece_o b s r w h hs hp ho hm ht hc
  ·exact piece_lb b s r w h hs hp ho hm ht hc
  ·exact piece_rb b s r w h hs hp ho hm ht hc
  ·exact piece_lt b s r w h hs hp ho hm ht hc
  ·exact piece_q b s r w h hs hp ho hm ht hc
  ·exact piece_x b s r w h hs hp ho hm ht hc
  ·exact piece_rc b s r w h hs hp ho hm ht hc
  ·exact piece_bar b s r w h hs hp ho hm ht hc
 ·exact piece_no b s r w h hs hp hc
def Ended(w:World)(b:Nat)(s:ByteArray)(e:Ending)(w':World):Prop:=
 ∃r,ReachT s.data.toList r∧((r.pl=s.size∧e=.returned (.bool ((r.op.length:Int)==0))∧RR w' b s (r.step 9 r.pl 0 false)) ∨
  (r.pl<s.size∧(r.piece s.data.toList).2=false∧e=.returned (.bool false)∧RR w' b s (r.piece s.data.toList).1))∧Below b w w'
set_option maxHeartbeats 800000 in
set_option maxRecDepth 100000 in
theorem programR(b:Nat)(s:ByteArray)(w:World)(h:RR w b s RT.start)(hs:s.size≤240) :
  Calls Tryz.prog 39 #[.pointer (some ⟨b,0,none⟩)] w fun e w'=>Ended w b s e w':=by
 go_enter Tryz.func39,Tryz.ntmps39
 go_wp2
 go_loopg [3] s.size (fun k _ wr=>∃r,ReachT s.data.toList r∧RR wr b s r∧Below b w wr∧s.size≤k+r.pl)
 case atStart=>exact⟨RT.start,.start,h,Below.refl _ _,by simp⟩
 case round=>
  obtain⟨r,hre,hr,hbe,hk⟩:=hrel;obtain⟨b1,b2,b3,b4⟩:=hre.bd;have hl:s.data.toList.length=s.size:=by simp
  rw[hl]at b1;have c0:=hr.c0;have c1:=hr.c1;obtain⟨ao,co,c3⟩:=hr.c3
  by_cases hlt:r.pl<s.size
  ·have hpr:=pieceT_gt hre (by rw[hl];exact hlt);cases hq:r.piece s.data.toList with
   | mk r1 ok=>
    have HQ:Hid (r.piece s.data.toList=(r1,ok)):=hq;clear hq;cases ok with
    | true=>
     have hgt:r.pl<r1.pl:=by have:=hpr (by rw[HQ.out]);rw[HQ.out]at this;exact this
     have hre1:ReachT s.data.toList r1:=.step hre (by rw[hl];exact hlt) HQ.out;clear hpr hl
     go_wp2_with fail
     go_quiet (fail)
     go_wp2_with fail
     refine(pieceR b s r _ (hr.drewN _) hs hlt (by omega) (by omega) (by omega)).mono ?_;rintro e w1 ⟨rfl,h1,be1⟩;rw[HQ.out]at h1 ⊢;clear HQ;go_wp2
     go_roundg (s.size-r1.pl)
     case measure=>omega
     case rel=>exact⟨r1,hre1,h1,(hbe.trans (below_drewN' _ _ _)).trans be1,by omega⟩
    | false=>
     clear hpr hl
     go_wp2_with fail
     go_quiet (fail)
     go_wp2_with fail
     refine(pieceR b s r _ (hr.drewN _) hs hlt (by omega) (by omega) (by omega)).mono ?_;rintro e w1 ⟨rfl,h1,be1⟩;have HH:Hid (RR w1 b s (r.piece s.data.toList).1):=h1;clear h1;rw[HQ.out];go_wp2;go_ret;exact⟨r,hre,.inr ⟨hlt,by rw[HQ.out],rfl,HH.out⟩,(hbe.trans (below_drewN' _ _ _)).trans be1⟩
  ·clear hl
   go_wp2_with fail
   go_quiet (fail)
   go_wp2_with fail
   refine(stepR b _ _ _ _ _ _ s r _ (hr.drewN _) (by omega) (by omega)).mono ?_;rintro e w1 ⟨rfl,h1,b1',_⟩;obtain⟨ao',co',d3⟩:=h1.c3;have hop:(r.step 9 r.pl 0 false).op.length=r.op.length:=rfl;rw[hop]at d3;go_wp2;go_ret;exact⟨r,hre,.inl ⟨by omega,rfl,h1⟩,(hbe.trans (below_drewN' _ _ _)).trans b1'⟩
def nestS(m:ST):Bool:=m.kind==6&&((m.num==0&&m.h0)||(m.num==1&&m.h1)||(m.num==2&&m.h2)||(m.num==3&&m.h3)||(m.num==4&&m.h4))
theorem nest_find(l:List ST):(mksS l).find? nestB=(l.find? nestS).bind mkS∧(∀m,l.find? nestS=some m→∃k,mkS m=some k∧k.place=m.place):=by
 induction l with
 | nil=>exact⟨rfl,by simp⟩
 | cons x r ih=>
  have hp:∀k,mkS x=some k→nestB k=nestS x∧k.place=x.place:=by
   intro k hk;unfold mkS at hk
   split at hk
   ·have:=Option.some.inj hk;subst this;rename_i h6;simp[nestB,nestS,h6]
   ·split at hk
    ·have:=Option.some.inj hk;subst this;rename_i h6 h12;have e3:(x.kind==3)=false:=by rw[beq_eq_false_iff_ne];omega
     have e6:(x.kind==6)=false:=by rw[beq_eq_false_iff_ne];omega
     simp[nestB,nestS,e3,e6]
    ·cases hk
  have hn:mkS x=none→nestS x=false:=by
   intro hk;unfold mkS at hk
   split at hk
   ·cases hk
   ·rename_i h6;have e6:(x.kind==6)=false:=by rw[beq_eq_false_iff_ne];omega
    simp[nestS,e6]
  cases hx:mkS x with
  | none=>
   have h0:=hn hx;refine⟨?_,?_⟩
   ·rw[mksS,List.filterMap_cons,hx,List.find?_cons,h0];exact ih.1
   ·intro m hm;rw[List.find?_cons,h0]at hm;exact ih.2 m hm
  | some k=>
   obtain⟨h1,h2⟩:=hp k hx;cases hq:nestS x with
   | true=>
    refine⟨?_,?_⟩
    ·rw[mksS,List.filterMap_cons,hx];simp only[List.find?_cons,h1,hq,Option.bind_some,hx]
    ·intro m hm;rw[List.find?_cons,hq]at hm;have:=Option.some.inj hm;subst this;exact⟨k,hx,h2⟩
   | false=>
    refine⟨?_,?_⟩
    ·rw[mksS,List.filterMap_cons,hx];simp only[List.find?_cons,h1,hq];exact ih.1
    ·intro m hm;rw[List.find?_cons,hq]at hm;exact ih.2 m hm
set_option maxHeartbeats 800000 in
set_option maxRecDepth 100000 in
theorem nested_any(m:ST)(w:World) :
  Calls Tryz.prog 40 #[.agg #[.int .i64 m.kind,.int .i64 m.place,.int .i64 m.thread,.int .i64 m.num,.bool m.mend,.int .i64 m.nx,.int .i64 m.el,.bool m.h0,.bool m.h1,.bool m.h2,.bool m.h3,.bool m.h4]] w fun e w'=>e=.returned (.bool (nestS m))∧∃o,w'=w.alloc o:=by
 obtain⟨kind,place,thread,num,mend,nx,el,h0,h1,h2,h3,h4⟩:=m;unfold nestS;simp only
 by_cases hk:kind=6
 ·subst hk
  by_cases hn:num<0
  ·have e:(((6:Int)==6)&&((num==0&&h0)||(num==1&&h1)||(num==2&&h2)||(num==3&&h3)||(num==4&&h4)))=false:=by
    have a0:(num==0)=false:=by rw[beq_eq_false_iff_ne];omega
    have a1:(num==1)=false:=by rw[beq_eq_false_iff_ne];omega
    have a2:(num==2)=false:=by rw[beq_eq_false_iff_ne];omega
    have a3:(num==3)=false:=by rw[beq_eq_false_iff_ne];omega
    have a4:(num==4)=false:=by rw[beq_eq_false_iff_ne];omega
    simp[a0,a1,a2,a3,a4]
   rw[e];clear e
   go_enter Tryz.func40,Tryz.ntmps40
   go_wp2;go_ret;exact⟨rfl,_,rfl⟩
  ·by_cases hm:5≤num
   ·have e:(((6:Int)==6)&&((num==0&&h0)||(num==1&&h1)||(num==2&&h2)||(num==3&&h3)||(num==4&&h4)))=false:=by
     have a0:(num==0)=false:=by rw[beq_eq_false_iff_ne];omega
     have a1:(num==1)=false:=by rw[beq_eq_false_iff_ne];omega
     have a2:(num==2)=false:=by rw[beq_eq_false_iff_ne];omega
     have a3:(num==3)=false:=by rw[beq_eq_false_iff_ne];omega
     have a4:(num==4)=false:=by rw[beq_eq_false_iff_ne];omega
     simp[a0,a1,a2,a3,a4]
    rw[e];clear e
    go_enter Tryz.func40,Tryz.ntmps40
    go_wp2;go_ret;exact⟨rfl,_,rfl⟩
   ·have hc:num=0∨num=1∨num=2∨num=3∨num=4:=by omega
    clear hn hm;rcases hc with rfl|rfl|rfl|rfl|rfl
    all_goals
     simp
     go_enter Tryz.func40,Tryz.ntmps40
     go_wp2;go_ret;exact⟨rfl,_,rfl⟩
 ·have hk':(kind==6)=false:=by simpa using hk
  have hk2:(kind != 6)=true:=by simpa using hk
  rw[hk',Bool.false_and];clear hk hk'
  go_enter Tryz.func40,Tryz.ntmps40
  go_wp2;go_ret;exact⟨rfl,_,rfl⟩
def ReadOut(w:World)(s:ByteArray)(e:Ending)(w':World):Prop:=
  Below w.heap.size w w' ∧
  ((240<s.size∧e=.returned (.tuple #[.slice none 0 0,.int .i64 1,.int .i64 0])) ∨
   (s.size≤240∧∃r,ReachT s.data.toList r ∧
    ((r.pl=s.size∧r.op≠[]∧e=.returned (.tuple #[.slice none 0 0,.int .i64 2,.int .i64 r.pl])) ∨
     (r.pl<s.size∧(r.piece s.data.toList).2=false∧e=.returned (.tuple #[.slice none 0 0,.int .i64 2,.int .i64 (r.piece s.data.toList).1.pl])) ∨
     (r.pl=s.size∧r.op=[]∧∃m,(r.step 9 r.pl 0 false).st.find? nestS=some m∧e=.returned (.tuple #[.slice none 0 0,.int .i64 3,.int .i64 m.place])) ∨
     (r.pl=s.size∧r.op=[]∧(r.step 9 r.pl 0 false).st.find? nestS=none∧∃am cm,e=.returned (.tuple #[.slice am (r.step 9 r.pl 0 false).st.length cm,.int .i64 0,.int .i64 0]) ∧
        w'.ownsRow w.heap.size 88 12 (.slice am (r.step 9 r.pl 0 false).st.length cm) (r.step 9 r.pl 0 false).st.length (stsV (r.step 9 r.pl 0 false).st)))))
theorem find_none_step{l:List ST}{k:Nat}{m:ST}(h:l[k]?=some m)(h0:(l.take k).find? nestS=none)(h1:nestS m=false):(l.take (k+1)).find? nestS=none:=by
 obtain⟨hk,rfl⟩:=List.getElem?_eq_some_iff.1 h;rw[List.take_succ_eq_append_getElem hk,List.find?_append,h0];simp[h1]
theorem find_hit_step{l:List ST}{k:Nat}{m:ST}(h:l[k]?=some m)(h0:(l.take k).find? nestS=none)(h1:nestS m=true):l.find? nestS=some m:=by
 obtain⟨hk,rfl⟩:=List.getElem?_eq_some_iff.1 h;have:l=l.take k++l[k]::l.drop (k+1):=by rw[List.getElem_cons_drop,List.take_append_drop]
 refine(congrArg (List.find? nestS) this).trans ?_;rw[List.find?_append,h0,List.find?_cons,h1];rfl
theorem ownsRow_lower{w:World}{base base':Nat}{e:TypeId}{size:Nat}{v:Value}{n:Nat}{xs:List Value}(h:w.ownsRow base e size v n xs)(hb:base'≤base):w.ownsRow base' e size v n xs:=by
 refine⟨h.1,?_⟩;rcases h.2 with h0|⟨g,cap,cur,hv,hg,r⟩
 ·exact .inl h0
 ·exact .inr ⟨g,cap,cur,hv,by omega,r⟩
theorem rr_start(w:World)(s:ByteArray):RR (w.alloc (.cells #[.string s,.int .i64 0,.int .i64 1,.slice none 0 0,.slice none 0 0] 86)) w.heap.size s RT.start:=by
 refine⟨none,0,none,0,by simp,?_,?_,?_,?_,?_,fun i=>World.frozen?_alloc_at _ _ _ _ rfl,World.ownsRow_nil _ _ _ _,World.ownsRow_nil _ _ _ _⟩
 all_goals (rw[World.cell?_alloc_at _ _ _ _ rfl];rfl)
set_option maxHeartbeats 1600000 in
set_option maxRecDepth 100000 in
theorem read_long(s:ByteArray)(w:World)(h:240<s.size)(hs:s.size≤maxLen) :
  Calls Tryz.prog 17 #[.string s] w fun e w'=>ReadOut w s e w':=by
 unfold maxLen at hs;have hX:Hid (240<s.size):=h
 go_enter Tryz.func17,Tryz.ntmps17
 go_wp2
 go_ret3
 exact⟨Below.refl _ _,.inl ⟨hX.out,rfl⟩⟩
set_option maxHeartbeats 1600000 in
set_option maxRecDepth 100000 in
theorem read_short(s:ByteArray)(w:World)(h:s.size≤240) :
  Calls Tryz.prog 17 #[.string s] w fun e w'=>ReadOut w s e w':=by
 have hst:=rr_start w s;have hbs:Below w.heap.size w (w.alloc (.cells #[.string s,.int .i64 0,.int .i64 1,.slice none 0 0,.slice none 0 0] 86)):=(Below.refl _ _).alloc (Nat.le_refl _) _
 go_enter Tryz.func17,Tryz.ntmps17
 go_wp2_with fail
 refine(programR _ s _ hst h).mono ?_;rintro e w1 ⟨r,hre,hcase,hbe⟩;obtain⟨b1,b2,b3,b4⟩:=hre.bd;have hl:s.data.toList.length=s.size:=by simp
 rw[hl]at b1;clear hl hst;have HB:Hid (Below w.heap.size w w1):=hbs.trans hbe;clear hbs hbe;rcases hcase with⟨hend,rfl,hr⟩|⟨hlt,hpf,rfl,hr⟩
 ·by_cases ho:r.op=[]
  ·have e0:((r.op.length:Int)==0)=true:=by rw[ho];rfl
   rw[e0];obtain⟨ao,co,am,cm,hd⟩:=hr;have RE:Hid (ReachT s.data.toList r):=hre;have HO:Hid (r.op=[]):=ho;have HE:Hid (r.pl=s.size):=hend;have c4:=hd.c4;have HD:Hid (RD w1 w.heap.size s r.pl r.th r.op.reverse (r.step 9 r.pl 0 false).st ao co am cm):=hd;clear hre ho hend hd e0;have b5:(r.step 9 r.pl 0 false).st.length≤241:=by simp[RT.step];omega
   obtain⟨n,hn⟩:∃n,n=(r.step 9 r.pl 0 false).st.length:=⟨_,rfl⟩;rw[←hn]at c4 b5;have HN:Hid (n=(r.step 9 r.pl 0 false).st.length):=hn;clear hn;go_wp2
   go_loopw [7] (fun i wr=>∃k:Nat,k≤n∧i=.int .i64 k∧RD wr w.heap.size s r.pl r.th r.op.reverse (r.step 9 r.pl 0 false).st ao co am cm∧Below w.heap.size w wr∧((r.step 9 r.pl 0 false).st.take k).find? nestS=none) (fun i _=>n-(intOf i).toNat)
   case atStart=>exact⟨0,Nat.zero_le _,rfl,HD.out,HB.out,rfl⟩
   case round=>
    obtain⟨k,hk,rfl,hrd,hbw,hf⟩:=hrel;have HF:Hid (((r.step 9 r.pl 0 false).st.take k).find? nestS=none):=hf;clear hf;have d4:=hrd.c4;rw[←HN.out]at d4
    by_cases hkn:k<n
    ·obtain⟨m,hm⟩:∃m,(r.step 9 r.pl 0 false).st[k]?=some m:=⟨(r.step 9 r.pl 0 false).st[k]'(by rw[←HN.out];exact hkn),List.getElem?_eq_getElem _⟩;obtain⟨g,rfl,_⟩:=hrd.stepForm (by rw[←HN.out];omega);have q0:=(hrd.stepCell rfl k m hm 0 (by decide) _ rfl).1;have q1:=(hrd.stepCell rfl k m hm 1 (by decide) _ rfl).1;have q2:=(hrd.stepCell rfl k m hm 2 (by decide) _ rfl).1;have q3:=(hrd.stepCell rfl k m hm 3 (by decide) _ rfl).1;have q4:=(hrd.stepCell rfl k m hm 4 (by decide) _ rfl).1;have q5:=(hrd.stepCell rfl k m hm 5 (by decide) _ rfl).1;have q6:=(hrd.stepCell rfl k m hm 6 (by decide) _ rfl).1;have q7:=(hrd.stepCell rfl k m hm 7 (by decide) _ rfl).1;have q8:=(hrd.stepCell rfl k m hm 8 (by decide) _ rfl).1;have q9:=(hrd.stepCell rfl k m hm 9 (by decide) _ rfl).1;have q10:=(hrd.stepCell rfl k m hm 10 (by decide) _ rfl).1;have q11:=(hrd.stepCell rfl k m hm 11 (by decide) _ rfl).1;rw[Nat.add_zero]at q0;have HM:Hid ((r.step 9 r.pl 0 false).st[k]?=some m):=hm;have HRD:Hid (RD wr w.heap.size s r.pl r.th r.op.reverse (r.step 9 r.pl 0 false).st ao co (some ⟨g,0,none⟩) cm):=hrd;clear hm hrd
     go_wp2_with fail
     refine(nested_any m _).mono ?_;rintro e w2 ⟨rfl,o,hw2⟩;have d4':w2.cell? ⟨w.heap.size,4,none⟩=some (.slice (some ⟨g,0,none⟩) n cm):=by rw[hw2];have:=(HRD.out.alloc o).c4;rw[←HN.out]at this;exact this
     have q1':w2.cell? ⟨g,k*12+1,none⟩=some (.int .i64 m.place):=by rw[hw2];exact((HRD.out.alloc o).stepCell rfl k m HM.out 1 (by decide) _ rfl).1
     have RD2:Hid (RD w2 w.heap.size s r.pl r.th r.op.reverse (r.step 9 r.pl 0 false).st ao co (some ⟨g,0,none⟩) cm):=by rw[hw2];exact HRD.out.alloc o
     have BE2:Hid (Below w.heap.size w w2):=by rw[hw2];exact hbw.alloc (by have:=HRD.out.hb;omega) o
     clear hw2 q0 q1 q2 q3 q4 q5 q6 q7 q8 q9 q10 q11 hbw d4;cases hnb:nestS m with
     | true=>
      go_wp2_with fail
      go_quiet (fail)
      go_wp2
      go_ret3
      exact⟨BE2.out.trans (below_drewN' _ _ _),.inr ⟨h,r,RE.out,.inr (.inr (.inl ⟨HE.out,HO.out,m,find_hit_step HM.out HF.out hnb,rfl⟩))⟩⟩
     | false=>
      go_wp2
      go_roundw
      case rel=>exact⟨k+1,by omega,by go_num,RD2.out,BE2.out,find_none_step HM.out HF.out hnb⟩
      case measure=>simp[intOf];omega
    ·have hkk:k=n:=by omega
     have HRD:Hid (RD wr w.heap.size s r.pl r.th r.op.reverse (r.step 9 r.pl 0 false).st ao co am cm):=hrd;have BE2:Hid (Below w.heap.size w wr):=hbw;have HKK:Hid (k=n):=hkk;clear hrd hbw hkk;go_wp2
     go_ret3
     refine⟨BE2.out,.inr ⟨h,r,RE.out,.inr (.inr (.inr ⟨HE.out,HO.out,?_,am,cm,?_,ownsRow_lower HRD.out.rm (by omega)⟩))⟩⟩
     ·have:=HF.out;rw[HKK.out,HN.out,List.take_length]at this;exact this
     ·rw[←HN.out];rfl
  ·have hlen:r.op.length≠0:=by simpa using ho
   have e0:((r.op.length:Int)==0)=false:=by rw[beq_eq_false_iff_ne];omega
   rw[e0];have c1:=hr.c1;have HE:Hid (r.pl=s.size):=hend;clear e0 hend
   go_wp2_with fail
   go_quiet (fail)
   go_wp2
   go_ret3
   exact⟨HB.out.trans (below_drewN' _ _ _),.inr ⟨h,r,hre,.inl ⟨HE.out,ho,rfl⟩⟩⟩
 ·have c1:=hr.c1;have HPF:Hid ((r.piece s.data.toList).2=false):=hpf;clear hpf
  go_wp2_with fail
  go_quiet (fail)
  go_wp2
  go_ret3
  exact⟨HB.out.trans (below_drewN' _ _ _),.inr ⟨h,r,hre,.inr (.inl ⟨hlt,HPF.out,rfl⟩)⟩⟩
end Go.Proofs.YtdgkpkdinfklaabGreat
