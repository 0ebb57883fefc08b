import Derived.Test.YtdgkpkdinfklaabGreatGSP
import Derived.Test.YtdgkpkdinfklaabGreatGL
import Derived.Deep.RegionWith
namespace Go.Proofs.YtdgkpkdinfklaabGreat
open Go.RowKit
def spV(s:SP)(v:Value):List Value:=stV s.acc++[v,.int .i64 s.lock,.bool s.set]
def spsV:List SP→List Value→List Value
 | s::S,v::V=>spV s v++spsV S V
 | _,_=>[]
theorem stV_len(m:ST):(stV m).length=12:=rfl
theorem spV_len(s:SP)(v:Value):(spV s v).length=15:=by simp[spV,stV_len]
theorem spsV_get:∀(S:List SP) (V:List Value) (i:Nat) (s:SP) (v:Value),S[i]?=some s→V[i]?=some v→∀j,j<15→(spsV S V)[i*15+j]?=(spV s v)[j]?:=by
 intro S
 induction S with
 | nil=>intro V i s v h;simp at h
 | cons t S ih=>
  intro V i s v hs hv j hj;cases V with
  | nil=>simp at hv
  | cons u V=>
   rw[spsV];cases i with
   | zero=>
    simp only[List.getElem?_cons_zero,Option.some.injEq]at hs hv;subst hs hv;rw[Nat.zero_mul,Nat.zero_add,List.getElem?_append_left (by rw[spV_len];exact hj)]
   | succ i=>
    rw[List.getElem?_append_right (by rw[spV_len];omega),spV_len,show(i+1)*15+j-15=i*15+j by omega];exact ih V i s v (by simpa using hs) (by simpa using hv) j hj
theorem spsV_set:∀(S:List SP) (V:List Value) (i:Nat) (s:SP) (v:Value),S[i]?=some s→V[i]?=some v→∀(t:SP) (j:Nat) (u:Value),j<15→(spV s v).set j u=spV t v→(spsV S V).set (i*15+j) u=spsV (S.set i t) V:=by
 intro S
 induction S with
 | nil=>intro V i s v h;simp at h
 | cons x S ih=>
  intro V i s v hs hv t j u hj he;cases V with
  | nil=>simp at hv
  | cons y V=>
   rw[spsV];cases i with
   | zero=>
    simp only[List.getElem?_cons_zero,Option.some.injEq]at hs hv;subst hs hv;rw[Nat.zero_mul,Nat.zero_add,List.set_append_left _ _ (by rw[spV_len];exact hj),he,List.set_cons_zero,spsV]
   | succ i=>
    rw[List.set_append_right _ _ (by rw[spV_len];omega),spV_len,show(i+1)*15+j-15=i*15+j by omega,List.set_cons_succ,spsV];rw[ih V i s v (by simpa using hs) (by simpa using hv) t j u hj he]
def prsV(P:List (Nat×Nat)):List Value:=P.flatMap fun p=>[.int .i64 (p.1:Int),.int .i64 (p.2:Int)]
theorem prsV_get:∀(P:List (Nat×Nat)) (i:Nat) (p:Nat×Nat),P[i]?=some p→(prsV P)[i*2]?=some (.int .i64 (p.1:Int))∧(prsV P)[i*2+1]?=some (.int .i64 (p.2:Int)):=by
 intro P
 induction P with
 | nil=>intro i p h;simp at h
 | cons q P ih=>
  intro i p h;have e:prsV (q::P)=.int .i64 (q.1:Int)::.int .i64 (q.2:Int)::prsV P:=rfl;rw[e];cases i with
  | zero=>simp at h;subst h;exact⟨rfl,rfl⟩
  | succ i=>
   have:=ih i p (by simpa using h);rw[show(i+1)*2=i*2+1+1 by omega];exact this
structure SM(w:World)(B sb:Nat)(vs vp:Value)(O:List Value)(S:List SP)(V:List Value)(P:List (Nat×Nat)):Prop where
 blk:Blk w sb (vs::vp::O) 145
 sp:w.ownsRow B 164 15 vs S.length (spsV S V)
 pr:w.ownsRow B 166 2 vp P.length (prsV P)
 vl:V.length=S.length
 pv:∀(i:Nat) (s:SP) (v:Value),S[i]?=some s→V[i]?=some v→∃a c,v=.slice a s.pls.length c
theorem row_slice{w:World}{B e size n:Nat}{v:Value}{xs:List Value}(h:w.ownsRow B e size v n xs):∃a c,v=.slice a n c:=by
 rcases h.2 with⟨hv,h0⟩|⟨g,cap,cur,hv,_⟩
 ·exact⟨none,0,by rw[hv,h0]⟩
 ·exact⟨_,_,hv⟩
theorem grown_below{w w':World}{r:Option Nat}(h:Below w.heap.size w w'):w.grownBy w' r:=⟨h.os,h.tape,h.output,h.size,fun k hk _=>h.block k hk⟩
theorem grown_trans{a b c:World}{r:Option Nat}(h:a.grownBy b r)(k:b.grownBy c r):a.grownBy c r:=
 ⟨k.os.trans h.os,k.tape.trans h.tape,k.output.trans h.output,Nat.le_trans h.size k.size,fun i hi hr=>(k.block i (Nat.lt_of_lt_of_le hi h.size) hr).trans (h.block i hi hr)⟩
section
variable {w w' : World} {B sb : Nat} {vs vp : Value} {O : List Value} {S : List SP} {V : List Value} {P : List (Nat × Nat)}
theorem SM.below(h:SM w B sb vs vp O S V P)(hb:Below w.heap.size w w'):SM w' B sb vs vp O S V P:=
 ⟨h.blk.chg (chg_of_below hb []) (by simp),ownsRow_later h.sp hb,ownsRow_later h.pr hb,h.vl,h.pv⟩
theorem SM.c0(h:SM w B sb vs vp O S V P):w.cell? ⟨sb,0,none⟩=some vs:=h.blk.cell 0 _ rfl
theorem SM.c1(h:SM w B sb vs vp O S V P):w.cell? ⟨sb,1,none⟩=some vp:=h.blk.cell 1 _ rfl
theorem SM.spot(h:SM w B sb vs vp O S V P){i:Nat}{s:SP}(hs:S[i]?=some s):∃g c v,vs=.slice (some ⟨g,0,none⟩) S.length c∧V[i]?=some v∧∀j u,j<15→(spV s v)[j]?=some u→w.cell? ⟨g,i*15+j,none⟩=some u:=by
 have hi:=(List.getElem?_eq_some_iff.1 hs).1;obtain⟨g,c,hv,_,_⟩:=h.sp.form (by omega);have hvi:=List.getElem?_eq_getElem (show i<V.length by rw[h.vl];exact hi);refine⟨g,c,_,hv,hvi,fun j u hj hu=>?_⟩;have hsp:=h.sp;rw[hv]at hsp;exact(hsp.cellAt (i*15+j) (by omega)).trans ((spsV_get S V i s _ hs hvi j hj).trans hu)
theorem SM.pair(h:SM w B sb vs vp O S V P){i:Nat}{p:Nat×Nat}(hp:P[i]?=some p):∃g c,vp=.slice (some ⟨g,0,none⟩) P.length c∧w.cell? ⟨g,i*2,none⟩=some (.int .i64 (p.1:Int))∧w.cell? ⟨g,i*2+1,none⟩=some (.int .i64 (p.2:Int)):=by
 have hi:=(List.getElem?_eq_some_iff.1 hp).1;obtain⟨g,c,hv,_,_⟩:=h.pr.form (by omega);have hpr:=h.pr;rw[hv]at hpr;obtain⟨e1,e2⟩:=prsV_get P i p hp;exact⟨g,c,hv,(hpr.cellAt (i*2) (by omega)).trans e1,(hpr.cellAt (i*2+1) (by omega)).trans e2⟩
theorem SM.store(h:SM w B sb vs vp O S V P){g c i:Nat}{s t:SP}(hv:vs=.slice (some ⟨g,0,none⟩) S.length c)(hs:S[i]?=some s)(j:Nat)(u:Value)(hj:j<15)(ht:∀v,(spV s v).set j u=spV t v)(hp:t.pls=s.pls) :
  SM (w.setCell ⟨g,i*15+j,none⟩ u) B sb vs vp O (S.set i t) V P∧w.grownBy (w.setCell ⟨g,i*15+j,none⟩ u) vs.ownBlock:=by
 have hi:=(List.getElem?_eq_some_iff.1 hs).1;have hvi:=List.getElem?_eq_getElem (show i<V.length by rw[h.vl];exact hi);have hsp:=h.sp;rw[hv]at hsp;obtain⟨r1,r2⟩:=hsp.stored (i*15+j) u;rw[spsV_set S V i s _ hs hvi t j u hj (ht _)]at r1;have hob:vs.ownBlock=some g:=by rw[hv];rfl
 have hne:=row_ne h.sp h.blk (by decide);rw[hob]at hne;refine⟨⟨?_,?_,?_,by rw[List.length_set];exact h.vl,?_⟩,by rw[hob];exact r2⟩
 ·exact h.blk.other (by show sb≠g;exact fun e=>hne (by rw[e])) _
 ·rw[List.length_set];rw[hv];exact r1
 ·refine h.pr.kept r2 ?_;have:=rows_apart h.pr h.sp (by decide);rw[hob]at this;exact this
 ·intro k x v hx hv';rw[List.getElem?_set]at hx
  by_cases e:i=k
  ·subst e;rw[if_pos rfl,if_pos hi]at hx;have:t=x:=Option.some.inj hx;subst this;obtain⟨a,cc,e⟩:=h.pv i s v hs hv';exact⟨a,cc,by rw[hp];exact e⟩
  ·rw[if_neg e]at hx;exact h.pv k x v hx hv'
theorem SM.fz(h:SM w B sb vs vp O S V P){g c:Nat}(hv:vs=.slice (some ⟨g,0,none⟩) S.length c)(j:Nat):w.frozen? ⟨g,j,none⟩=false:=by
 rcases h.sp.2 with⟨h0,_⟩|⟨g',cap,cur,hv',_,hh,_⟩
 ·rw[hv]at h0;cases h0
 ·rw[hv]at hv';cases hv';exact frozen_of_row w g j _ _ hh
end
set_option maxHeartbeats 1600000 in
set_option maxRecDepth 100000 in
theorem isSettled_any{w:World}{B sb:Nat}{vs vp:Value}{O:List Value}{S:List SP}{V:List Value}{P:List (Nat×Nat)}(h:SM w B sb vs vp O S V P)(i:Nat)(hi:i<S.length) :
  Calls Tryz.prog 121 #[.pointer (some ⟨sb,0,none⟩),.int .i64 (i:Int)] w fun e w'=>e=.returned (.bool (stS S i))∧Below w.heap.size w w':=by
 have hs:=List.getElem?_eq_getElem hi;generalize S[i]=s at hs;obtain⟨g,c,v,hv,hvi,hcell⟩:=h.spot hs;have c0:=h.c0;rw[hv]at c0;have q:=hcell 14 (.bool s.set) (by decide) rfl;have HR:Hid (stS S i=s.set):=by show _=_;rw[stS,hs]
 generalize stS S i=r at HR ⊢;generalize S.length=n at *;clear hcell hvi hs hv h;have hi':(i:Int)<(n:Int):=by omega
 go_enter Tryz.func121,Tryz.ntmps121
 go_wp2;go_ret;rw[HR.out];exact⟨rfl,Below.refl _ _⟩
set_option maxHeartbeats 1600000 in
set_option maxRecDepth 100000 in
theorem meets_any(g oa ob:Nat)(a b:ST)(la lb:Int)(w:World)(ha:∀l,l<5→w.cell? ⟨g,oa+7+l,none⟩=some (.bool (hOfT a l)))(hb:∀l,l<5→w.cell? ⟨g,ob+7+l,none⟩=some (.bool (hOfT b l)))
  (hla:w.cell? ⟨g,oa+13,none⟩=some (.int .i64 la))(hlb:w.cell? ⟨g,ob+13,none⟩=some (.int .i64 lb)) :
  Calls Tryz.prog 126 #[.pointer (some ⟨g,oa,none⟩),.pointer (some ⟨g,ob,none⟩)] w fun e w'=>e=.returned (.bool (mtB a b la lb))∧∃q,w'=w.drewN q:=by
 have HA:Hid (∀l,l<5→w.cell? ⟨g,oa+7+l,none⟩=some (.bool (hOfT a l))):=ha;have HB:Hid (∀l,l<5→w.cell? ⟨g,ob+7+l,none⟩=some (.bool (hOfT b l))):=hb;clear ha hb;obtain⟨R,hR⟩:∃R,R=mtB a b la lb:=⟨_,rfl⟩;have HR:Hid (R=mtB a b la lb):=hR;rw[←hR];clear hR
 go_enter Tryz.func126,Tryz.ntmps126
 go_wp2
 go_loopw [5] (fun iv wr=>∃(i q:Nat),i≤5∧iv=.int .i64 i∧wr=w.drewN q∧((List.range i).any fun l=>(hOfT a l||la==(l:Int))&&(hOfT b l||lb==(l:Int)))=false) (fun iv _=>5-(intOf iv).toNat)
 case atStart=>exact⟨0,0,by omega,rfl,rfl,rfl⟩
 case round=>
  obtain⟨i,q,hi,rfl,rfl,hno⟩:=hrel;have HNO:Hid (((List.range i).any fun l=>(hOfT a l||la==(l:Int))&&(hOfT b l||lb==(l:Int)))=false):=hno;clear hno
  by_cases hi5:i<5
  ·have ca:=HA.out i hi5;have cb:=HB.out i hi5;have HSN:Hid (((List.range (i+1)).any fun l=>(hOfT a l||la==(l:Int))&&(hOfT b l||lb==(l:Int)))=((hOfT a i||la==(i:Int))&&(hOfT b i||lb==(i:Int)))):=by
    show _=_;rw[List.range_succ,List.any_append,HNO.out];simp
   have HT:Hid (((hOfT a i||la==(i:Int))&&(hOfT b i||lb==(i:Int)))=true→R=true):=by
    intro h;rw[HR.out,mtB,List.any_eq_true];exact⟨i,by simpa using hi5,h⟩
   generalize hOfT a i=x at ca HSN HT;generalize hOfT b i=y at cb HSN HT;have hi5':(i:Int)<5:=by omega
   cases h1:(la==(i:Int))<;>cases h2:(lb==(i:Int))<;>cases x<;>cases y
   all_goals
    rw[h1,h2]at HSN HT;go_wp2
    first
     | exact⟨⟨i+1,q,by omega,by go_num,rfl,HSN.out⟩,by simp[intOf];omega⟩
     | (go_ret;rw[HT.out rfl];exact⟨rfl,_,rfl⟩)
  ·have hi':i=5:=by omega
   subst hi';have HF:Hid (R=false):=by
    show _=_;rw[HR.out,mtB];exact HNO.out
   go_wp2;go_ret;rw[HF.out];exact⟨rfl,_,rfl⟩
set_option maxHeartbeats 1600000 in
set_option maxRecDepth 100000 in
theorem isOpenS_any{w:World}{B sb:Nat}{vs vp:Value}{O:List Value}{S:List SP}{V:List Value}{P:List (Nat×Nat)}(h:SM w B sb vs vp O S V P)(i j:Nat)(hi:i<S.length)(hj:j<S.length) :
  Calls Tryz.prog 120 #[.pointer (some ⟨sb,0,none⟩),.agg #[.int .i64 (i:Int),.int .i64 (j:Int)]] w fun e w'=>e=.returned (.bool (opS S (i,j)))∧Below w.heap.size w w':=by
 have hs:=List.getElem?_eq_getElem hi;generalize S[i]=s at hs;have ht:=List.getElem?_eq_getElem hj;generalize S[j]=t at ht;have HR:Hid (opS S (i,j)=!mtB s.acc t.acc s.lock t.lock):=by show _=_;rw[opS,hs,ht]
 have B1:Hid (∀o,Below w.heap.size w (w.alloc o)):=fun o=>(Below.refl _ _).alloc (Nat.le_refl _) o
 have hsb:=h.blk.lt;obtain⟨g,c,v,hv,_,_⟩:=h.spot hs;have HM:Hid (∀W,Below w.heap.size w W→W.cell? ⟨sb,0,none⟩=some (.slice (some ⟨g,0,none⟩) S.length c)∧∀n,Calls Tryz.prog 126 #[.pointer (some ⟨g,i*15,none⟩),.pointer (some ⟨g,j*15,none⟩)] (W.drewN n) fun e w'=>e=.returned (.bool (mtB s.acc t.acc s.lock t.lock))∧∃q,w'=(W.drewN n).drewN q):=by
  intro W hW;have hc:=(h.below hW).c0;rw[hv]at hc;refine⟨hc,fun n=>?_⟩;have h':=h.below (hW.trans (below_drewN' _ _ n));obtain⟨g1,c1,v1,hv1,_,hcell⟩:=h'.spot hs;obtain⟨g',c',v',hv',_,hcell'⟩:=h'.spot ht;rw[hv]at hv' hv1;cases hv';cases hv1;refine meets_any g (i*15) (j*15) s.acc t.acc s.lock t.lock _ (fun l hl=>?_) (fun l hl=>?_) (hcell 13 _ (by decide) rfl) (hcell' 13 _ (by decide) rfl)
  ·rw[Nat.add_assoc];refine hcell (7+l) _ (by omega) ?_;have:l=0∨l=1∨l=2∨l=3∨l=4:=by omega
   rcases this with rfl|rfl|rfl|rfl|rfl<;>rfl
  ·rw[Nat.add_assoc];refine hcell' (7+l) _ (by omega) ?_;have:l=0∨l=1∨l=2∨l=3∨l=4:=by omega
   rcases this with rfl|rfl|rfl|rfl|rfl<;>rfl
 generalize opS S (i,j)=r at HR ⊢;generalize mtB s.acc t.acc s.lock t.lock=mm at HR HM;clear hv hs ht h;generalize S.length=n at *;have hi':(i:Int)<(n:Int):=by omega
 have hj':(j:Int)<(n:Int):=by omega
 go_enter Tryz.func120,Tryz.ntmps120
 go_wp2_with fail
 have p0:(w.alloc (.cells #[.int .i64 (i:Int),.int .i64 (j:Int)] 166)).cell? ⟨w.heap.size,0,none⟩=some (.int .i64 (i:Int)):=(Blk.new (l:=[.int .i64 (i:Int),.int .i64 (j:Int)])).cell 0 _ rfl;have p1:(w.alloc (.cells #[.int .i64 (i:Int),.int .i64 (j:Int)] 166)).cell? ⟨w.heap.size,1,none⟩=some (.int .i64 (j:Int)):=(Blk.new (l:=[.int .i64 (i:Int),.int .i64 (j:Int)])).cell 1 _ rfl;have BB:=B1.out (.cells #[.int .i64 (i:Int),.int .i64 (j:Int)] 166);generalize w.alloc (.cells #[.int .i64 (i:Int),.int .i64 (j:Int)] 166)=W at BB p0 p1 ⊢;obtain⟨ci,HK0⟩:=HM.out W BB;clear HK0;have HBB:Hid (Below w.heap.size w W):=BB;have HP0:Hid (W.cell? ⟨w.heap.size,0,none⟩=some (.int .i64 (i:Int))):=p0;have HP1:Hid (W.cell? ⟨w.heap.size,1,none⟩=some (.int .i64 (j:Int))):=p1;clear BB
 go_quiet (fail)
 go_wp2_with fail
 have BB2:=HBB.out.trans (below_drewN' w.heap.size W nq);have p20:(W.drewN nq).cell? ⟨w.heap.size,0,none⟩=some (.int .i64 (i:Int)):=HP0.out;have p21:(W.drewN nq).cell? ⟨w.heap.size,1,none⟩=some (.int .i64 (j:Int)):=HP1.out;obtain⟨ci2,HK0⟩:=HM.out _ BB2;generalize W.drewN nq=W2 at BB2 p20 p21 ci2 HK0 ⊢;have HK:Hid (∀n,Calls Tryz.prog 126 #[.pointer (some ⟨g,i*15,none⟩),.pointer (some ⟨g,j*15,none⟩)] (W2.drewN n) fun e w'=>e=.returned (.bool mm)∧∃q,w'=(W2.drewN n).drewN q):=HK0;have HBB2:Hid (Below w.heap.size w W2):=BB2;clear HK0 HM BB2 p0 p1 ci
 go_quiet ((go_at_call 126;exact Calls.quiet_of (HK.out _)))
 go_wp2_with fail
 go_ret;rw[HR.out];exact⟨rfl,HBB2.out.trans (below_drewN' _ _ _)⟩
def nxGo(S:List SP):List (Nat×Nat)→Int→Int
 | [],r=>r
 | p::ps,r=>if opS S p=true then(if stS S p.1=true then(if stS S p.2=true then nxGo S ps r else(p.2:Int))else(if stS S p.2=true then(p.1:Int)else nxGo S ps (if r=-1 then(p.1:Int)else r)))else nxGo S ps r
def cwF(rec:List SP→Int→Option (List SP))(sd:List SP→Bool)(S:List SP)(m:Nat)(l c:Int):Option (List SP):=
 if c-(if l≠-1 then(plS S m:Int)else 0)<0 then none else if sd (setS S m l true)=true then rec (setS S m l true) (c-(if l≠-1 then(plS S m:Int)else 0))else none
def fstF(f:Int→Option (List SP)):List Int→Option (List SP)
 | []=>none
 | l::ls=>match f l with|some S'=>some S'|none=>fstF f ls
def cloF(sd:List SP→Bool)(P:List (Nat×Nat)):Nat→List SP→Int→Option (List SP)
 | 0,_,_=>none
 | M+1,S,c=>if nxGo S P (-1)=-1 then some S else fstF (fun l=>cwF (cloF sd P M) sd S (nxGo S P (-1)).toNat l c) [0,1,2,3,4,-1]
theorem cloF_here{sd:List SP→Bool}{P:List (Nat×Nat)}{M:Nat}{S:List SP}{c:Int}(h:nxGo S P (-1)=-1):cloF sd P (M+1) S c=some S:=by rw[cloF,if_pos h]
theorem cloF_try{sd:List SP→Bool}{P:List (Nat×Nat)}{M n:Nat}{S:List SP}{c:Int}(h:nxGo S P (-1)=(n:Int)):cloF sd P (M+1) S c=fstF (fun l=>cwF (cloF sd P M) sd S n l c) [0,1,2,3,4,-1]:=by
 rw[cloF,if_neg (by rw[h];omega),h];rfl
theorem fstF_hit{f:Int→Option (List SP)}{k:Nat}{S':List SP}(hk:k<5)(hn:∀l:Int,0≤l→l<k→f l=none)(h:f (k:Int)=some S'):fstF f [0,1,2,3,4,-1]=some S':=by
 have:k=0∨k=1∨k=2∨k=3∨k=4:=by omega
 rcases this with rfl|rfl|rfl|rfl|rfl
 ·have h':f 0=some S':=h;simp[fstF,h']
 ·have h':f 1=some S':=h;simp[fstF,hn 0 (by decide) (by decide),h']
 ·have h':f 2=some S':=h;simp[fstF,hn 0 (by decide) (by decide),hn 1 (by decide) (by decide),h']
 ·have h':f 3=some S':=h;simp[fstF,hn 0 (by decide) (by decide),hn 1 (by decide) (by decide),hn 2 (by decide) (by decide),h']
 ·have h':f 4=some S':=h;simp[fstF,hn 0 (by decide) (by decide),hn 1 (by decide) (by decide),hn 2 (by decide) (by decide),hn 3 (by decide) (by decide),h']
theorem fstF_last{f:Int→Option (List SP)}(hn:∀l:Int,0≤l→l<(5:Nat)→f l=none):fstF f [0,1,2,3,4,-1]=f (-1):=by
 simp only[fstF,hn 0 (by decide) (by decide),hn 1 (by decide) (by decide),hn 2 (by decide) (by decide),hn 3 (by decide) (by decide),hn 4 (by decide) (by decide)];cases f (-1)<;>rfl
def NextOut(S:List SP)(P:List (Nat×Nat))(e:Ending):Prop:=∃r:Int,e=.returned (.int .i64 r)∧nxGo S P (-1)=r∧((r=-1∧∀p∈P,opS S p=true→stS S p.1=true∧stS S p.2=true)∨∃n:Nat,r=n∧n<S.length∧stS S n=false)
def NxJ(S:List SP)(P:List (Nat×Nat))(k:Nat)(r:Int):Prop:=(r=-1∧∀p∈P.take k,opS S p=true→stS S p.1=true∧stS S p.2=true)∨∃n:Nat,r=n∧n<S.length∧stS S n=false
def NxI(S:List SP)(P:List (Nat×Nat))(k:Nat)(r:Int):Prop:=nxGo S P (-1)=nxGo S (P.drop k) r∧NxJ S P k r
theorem NxI.step{S:List SP}{P:List (Nat×Nat)}{k:Nat}{r r':Int}{p:Nat×Nat}(h:NxI S P k r)(hp:P[k]?=some p)(he:∀ps,nxGo S (p::ps) r=nxGo S ps r')(hj:NxJ S P (k+1) r'):NxI S P (k+1) r':=by
 refine⟨?_,hj⟩;obtain⟨hk,rfl⟩:=List.getElem?_eq_some_iff.1 hp;rw[h.1,List.drop_eq_getElem_cons hk,he]
theorem NxI.ret{S:List SP}{P:List (Nat×Nat)}{k:Nat}{r v:Int}{p:Nat×Nat}(h:NxI S P k r)(hp:P[k]?=some p)(he:∀ps,nxGo S (p::ps) r=v):nxGo S P (-1)=v:=by
 obtain⟨hk,rfl⟩:=List.getElem?_eq_some_iff.1 hp;rw[h.1,List.drop_eq_getElem_cons hk,he]
theorem NxJ.skip{S:List SP}{P:List (Nat×Nat)}{k:Nat}{r:Int}{p:Nat×Nat}(h:NxJ S P k r)(hp:P[k]?=some p)(ho:opS S p=true→stS S p.1=true∧stS S p.2=true):NxJ S P (k+1) r:=by
 rcases h with⟨h1,h2⟩|h
 ·refine .inl ⟨h1,fun q hq=>?_⟩;obtain⟨hk,rfl⟩:=List.getElem?_eq_some_iff.1 hp;rw[List.take_succ_eq_append_getElem hk,List.mem_append,List.mem_singleton]at hq;rcases hq with hq|rfl
  ·exact h2 q hq
  ·exact ho
 ·exact .inr h
set_option maxHeartbeats 1600000 in
set_option maxRecDepth 100000 in
theorem nextS_any{w:World}{B sb:Nat}{vs vp:Value}{O:List Value}{S:List SP}{V:List Value}{P:List (Nat×Nat)}(h:SM w B sb vs vp O S V P)(hin:InvS S P)(hl:P.length≤1000000) :
  Calls Tryz.prog 100 #[.pointer (some ⟨sb,0,none⟩)] w fun e w'=>NextOut S P e∧Below w.heap.size w w':=by
 have HM:Hid (SM w B sb vs vp O S V P):=h;have HI:Hid (InvS S P):=hin;obtain⟨N,hN⟩:∃N,N=P.length:=⟨_,rfl⟩;have HN:Hid (N=P.length):=hN;obtain⟨ap,cp,hvp⟩:=row_slice h.pr;rw[←hN]at hvp hl;subst hvp;have hsb:=h.blk.lt;have c1w:=h.c1;clear h hin hN
 go_enter Tryz.func100,Tryz.ntmps100
 go_wp2
 go_loopw [3,4] (fun nv iv wr=>∃(k:Nat) (r:Int),k≤N∧nv=.int .i64 r∧iv=.int .i64 k∧NxI S P k r∧Below w.heap.size w wr) (fun _ iv _=>N-(intOf iv).toNat)
 case atStart=>exact⟨0,-1,Nat.zero_le _,rfl,rfl,⟨rfl,.inl ⟨rfl,fun p hp=>by simp at hp⟩⟩,Below.refl _ _⟩
 case round=>
  obtain⟨k,r,hk,rfl,rfl,hnx,hbe⟩:=hrel;have HX:Hid (NxI S P k r):=hnx;have HB:Hid (Below w.heap.size w wr):=hbe;have hsz:=hbe.size;have HMr:Hid (SM wr B sb vs (.slice ap N cp) O S V P):=HM.out.below hbe;have c1:=HMr.out.c1;clear hnx hbe
  by_cases hlt:k<N
  ·obtain⟨⟨x,y⟩,hp⟩:∃p,P[k]?=some p:=⟨P[k]'(by rw[←HN.out];exact hlt),List.getElem?_eq_getElem _⟩;obtain⟨g,c,hv,q0,q1⟩:=HMr.out.pair hp;have hN2:N=P.length:=HN.out;rw[←hN2]at hv;cases hv;have HP:Hid (P[k]?=some (x,y)):=hp;obtain⟨hx,hy⟩:=HI.out.prs (x,y) (List.mem_of_getElem? hp);simp only at hx hy q0 q1;clear hp hN2;have hk':(k:Int)<(N:Int):=by omega
   go_wp2_with fail
   have hba:Below wr.heap.size wr (wr.alloc (.cells #[.int .i64 (x:Int),.int .i64 (y:Int)] 166)):=(Below.refl _ _).alloc (Nat.le_refl _) _;refine(isOpenS_any (HMr.out.below hba) x y hx hy).mono ?_;rintro e w1 ⟨rfl,hb1⟩;have p0:w1.cell? ⟨wr.heap.size,0,none⟩=some (.int .i64 (x:Int)):=(hb1.cell (p:=⟨wr.heap.size,0,none⟩) (by simp)).trans ((Blk.new (l:=[.int .i64 (x:Int),.int .i64 (y:Int)])).cell 0 _ rfl);have p1:w1.cell? ⟨wr.heap.size,1,none⟩=some (.int .i64 (y:Int)):=(hb1.cell (p:=⟨wr.heap.size,1,none⟩) (by simp)).trans ((Blk.new (l:=[.int .i64 (x:Int),.int .i64 (y:Int)])).cell 1 _ rfl);have hbw:Below w.heap.size w w1:=HB.out.trans ((hba.trans (hb1.mono (by simp))).mono hsz);have HB1:Hid (Below w.heap.size w w1):=hbw;have HM1:Hid (SM w1 B sb vs (.slice (some ⟨g,0,none⟩) N cp) O S V P):=HM.out.below hbw;have hpl:wr.heap.size<w1.heap.size:=by have:=hb1.size;simp at this;omega
   clear hba hb1 hbw q0 q1;cases ho:opS S (x,y)with
   | false=>
    have HS:Hid (NxI S P (k+1) r):=HX.out.step HP.out (fun ps=>by rw[nxGo,if_neg (by rw[ho];decide)]) (HX.out.2.skip HP.out (fun h=>by rw[ho]at h;cases h));clear ho;go_wp2
    go_roundw
    case rel=>exact⟨k+1,r,by omega,rfl,by go_num,HS.out,HB1.out⟩
    case measure=>simp[intOf];omega
   | true=>
    have HOT:Hid (opS S (x,y)=true):=ho;clear ho
    go_wp2_with fail
    refine(isSettled_any HM1.out x hx).mono ?_;rintro e w2 ⟨rfl,hb2⟩;have p2:w2.cell? ⟨wr.heap.size,1,none⟩=some (.int .i64 (y:Int)):=(hb2.cell (p:=⟨wr.heap.size,1,none⟩) hpl).trans p1;have p20:w2.cell? ⟨wr.heap.size,0,none⟩=some (.int .i64 (x:Int)):=(hb2.cell (p:=⟨wr.heap.size,0,none⟩) hpl).trans p0;have HB2:Hid (Below w.heap.size w w2):=HB1.out.trans (hb2.mono HB1.out.size);have hpl2:wr.heap.size<w2.heap.size:=by have:=hb2.size;omega
    clear hb2 p0 p1
    go_wp2_with fail
    refine(isSettled_any (HM.out.below HB2.out) y hy).mono ?_;rintro e w3 ⟨rfl,hb3⟩;have p3:w3.cell? ⟨wr.heap.size,1,none⟩=some (.int .i64 (y:Int)):=(hb3.cell (p:=⟨wr.heap.size,1,none⟩) hpl2).trans p2;have p30:w3.cell? ⟨wr.heap.size,0,none⟩=some (.int .i64 (x:Int)):=(hb3.cell (p:=⟨wr.heap.size,0,none⟩) hpl2).trans p20;have HB3:Hid (Below w.heap.size w w3):=HB2.out.trans (hb3.mono HB2.out.size);clear hb3 p2 p20;cases h1:stS S x with
    | true=>
     cases h2:stS S y with
     | true=>
      have HS:Hid (NxI S P (k+1) r):=HX.out.step HP.out (fun ps=>by rw[nxGo,if_pos HOT.out,if_pos h1,if_pos h2]) (HX.out.2.skip HP.out (fun _=>⟨h1,h2⟩));clear h1 h2;cases br:(r==-1)
      all_goals
       go_wp2;exact⟨⟨k+1,r,by omega,rfl,by go_num,HS.out,HB3.out⟩,by simp[intOf];omega⟩
     | false=>
      have HO:Hid (NextOut S P (.returned (.int .i64 (y:Int)))):=⟨_,rfl,HX.out.ret HP.out (fun ps=>by rw[nxGo,if_pos HOT.out,if_pos h1,if_neg (by rw[h2];decide)]),.inr ⟨y,rfl,hy,h2⟩⟩;clear h1 h2;go_wp2;go_ret;exact⟨HO.out,HB3.out⟩
    | false=>
     cases h2:stS S y with
     | true=>
      have HO:Hid (NextOut S P (.returned (.int .i64 (x:Int)))):=⟨_,rfl,HX.out.ret HP.out (fun ps=>by rw[nxGo,if_pos HOT.out,if_neg (by rw[h1];decide),if_pos h2]),.inr ⟨x,rfl,hx,h1⟩⟩;clear h1 h2;go_wp2;go_ret;exact⟨HO.out,HB3.out⟩
     | false=>
      by_cases hr:r=-1
      ·subst hr;have HS:Hid (NxI S P (k+1) (x:Int)):=HX.out.step HP.out (fun ps=>by rw[nxGo,if_pos HOT.out,if_neg (by rw[h1];decide),if_neg (by rw[h2];decide),if_pos rfl]) (.inr ⟨x,rfl,hx,h1⟩);clear h1 h2;go_wp2;exact⟨⟨k+1,_,by omega,rfl,by go_num,HS.out,HB3.out⟩,by simp[intOf];omega⟩
      ·have br:(r==-1)=false:=by simpa using hr
       have HS:Hid (NxI S P (k+1) r):=by
        refine HX.out.step HP.out (fun ps=>by rw[nxGo,if_pos HOT.out,if_neg (by rw[h1];decide),if_neg (by rw[h2];decide),if_neg hr]) ?_;rcases HX.out.2 with⟨e,_⟩|h
        ·exact absurd e hr
        ·exact .inr h
       clear h1 h2 hr;go_wp2;exact⟨⟨k+1,r,by omega,rfl,by go_num,HS.out,HB3.out⟩,by simp[intOf];omega⟩
  ·have hkn:k=N:=by omega
   have HO:Hid (NextOut S P (.returned (.int .i64 r))):=by
    refine⟨r,rfl,by rw[HX.out.1,List.drop_of_length_le (by rw[←HN.out];omega),nxGo],?_⟩;rcases HX.out.2 with⟨e,h2⟩|h
    ·refine .inl ⟨e,fun p hp=>h2 p ?_⟩;rw[List.take_of_length_le (by rw[←HN.out];omega)];exact hp
    ·exact .inr h
   go_wp2;go_ret;exact⟨HO.out,HB.out⟩
set_option maxHeartbeats 1600000 in
set_option maxRecDepth 100000 in
theorem lost_any{w:World}{B sb:Nat}{vs vp:Value}{O:List Value}{S:List SP}{V:List Value}{P:List (Nat×Nat)}(h:SM w B sb vs vp O S V P)(hin:InvS S P)(hl:P.length≤1000000) :
  Calls Tryz.prog 127 #[.pointer (some ⟨sb,0,none⟩)] w fun e w'=>(∃r,e=.returned (.bool r)∧(r=true↔∃p∈P,stS S p.1=true∧stS S p.2=true∧opS S p=true))∧Below w.heap.size w w':=by
 have HM:Hid (SM w B sb vs vp O S V P):=h;have HI:Hid (InvS S P):=hin;obtain⟨N,hN⟩:∃N,N=P.length:=⟨_,rfl⟩;have HN:Hid (N=P.length):=hN;obtain⟨ap,cp,hvp⟩:=row_slice h.pr;rw[←hN]at hvp hl;subst hvp;have hsb:=h.blk.lt;have c1w:=h.c1;clear h hin hN
 go_enter Tryz.func127,Tryz.ntmps127
 go_wp2
 go_loopw [3] (fun iv wr=>∃(k:Nat),k≤N∧iv=.int .i64 k∧(∀p∈P.take k,¬(stS S p.1=true∧stS S p.2=true∧opS S p=true))∧Below w.heap.size w wr) (fun iv _=>N-(intOf iv).toNat)
 case atStart=>exact⟨0,Nat.zero_le _,rfl,fun p hp=>by simp at hp,Below.refl _ _⟩
 case round=>
  obtain⟨k,hk,rfl,hno,hbe⟩:=hrel;have HX:Hid (∀p∈P.take k,¬(stS S p.1=true∧stS S p.2=true∧opS S p=true)):=hno;have HB:Hid (Below w.heap.size w wr):=hbe;have hsz:=hbe.size;have HMr:Hid (SM wr B sb vs (.slice ap N cp) O S V P):=HM.out.below hbe;have c1:=HMr.out.c1;clear hno hbe
  by_cases hlt:k<N
  ·obtain⟨⟨x,y⟩,hp⟩:∃p,P[k]?=some p:=⟨P[k]'(by rw[←HN.out];exact hlt),List.getElem?_eq_getElem _⟩;obtain⟨g,c,hv,q0,q1⟩:=HMr.out.pair hp;have hN2:N=P.length:=HN.out;rw[←hN2]at hv;cases hv;have HP:Hid (P[k]?=some (x,y)):=hp;obtain⟨hx,hy⟩:=HI.out.prs (x,y) (List.mem_of_getElem? hp);simp only at hx hy q0 q1;clear hp hN2;have HSK:Hid (¬(stS S x=true∧stS S y=true∧opS S (x,y)=true)→∀p∈P.take (k+1),¬(stS S p.1=true∧stS S p.2=true∧opS S p=true)):=by
    intro hno q hq;obtain⟨hk',e⟩:=List.getElem?_eq_some_iff.1 HP.out;rw[List.take_succ_eq_append_getElem hk',List.mem_append,List.mem_singleton,e]at hq;rcases hq with hq|rfl
    ·exact HX.out q hq
    ·exact hno
   have hk':(k:Int)<(N:Int):=by omega
   go_wp2_with fail
   refine(isSettled_any HMr.out x hx).mono ?_;rintro e w2 ⟨rfl,hb2⟩;have HB2:Hid (Below w.heap.size w w2):=HB.out.trans (hb2.mono hsz);have HM2:Hid (SM w2 B sb vs (.slice (some ⟨g,0,none⟩) N cp) O S V P):=HM.out.below HB2.out;obtain⟨g',c',hv',q20,q21⟩:=HM2.out.pair HP.out;rw[←HN.out]at hv';cases hv';simp only at q20 q21;have c12:=HM2.out.c1;clear hb2 q0 q1 c1
   go_wp2_with fail
   refine(isSettled_any HM2.out y hy).mono ?_;rintro e w3 ⟨rfl,hb3⟩;have HB3:Hid (Below w.heap.size w w3):=HB2.out.trans (hb3.mono HB2.out.size);have HM3:Hid (SM w3 B sb vs (.slice (some ⟨g,0,none⟩) N cp) O S V P):=HM.out.below HB3.out;obtain⟨g',c',hv',q30,q31⟩:=HM3.out.pair HP.out;rw[←HN.out]at hv';cases hv';simp only at q30 q31;have c13:=HM3.out.c1;clear hb3 q20 q21 c12;cases h1:stS S x with
   | false=>
    have HS:=HSK.out (fun h=>by rw[h1]at h;cases h.1);have HS':Hid (∀p∈P.take (k+1),¬(stS S p.1=true∧stS S p.2=true∧opS S p=true)):=HS;clear h1 HS;go_wp2
    go_roundw
    case rel=>exact⟨k+1,by omega,by go_num,HS'.out,HB3.out⟩
    case measure=>simp[intOf];omega
   | true=>
    cases h2:stS S y with
    | false=>
     have HS:=HSK.out (fun h=>by rw[h2]at h;cases h.2.1);have HS':Hid (∀p∈P.take (k+1),¬(stS S p.1=true∧stS S p.2=true∧opS S p=true)):=HS;clear h1 h2 HS;go_wp2
     go_roundw
     case rel=>exact⟨k+1,by omega,by go_num,HS'.out,HB3.out⟩
     case measure=>simp[intOf];omega
    | true=>
     have H12:Hid (stS S x=true∧stS S y=true):=⟨h1,h2⟩;clear h1 h2
     go_wp2_with fail
     refine(isOpenS_any HM3.out x y hx hy).mono ?_;rintro e w4 ⟨rfl,hb4⟩;have HB4:Hid (Below w.heap.size w w4):=HB3.out.trans (hb4.mono HB3.out.size);clear hb4 q30 q31 c13;cases ho:opS S (x,y)with
     | false=>
      have HS:=HSK.out (fun h=>by rw[ho]at h;cases h.2.2);have HS':Hid (∀p∈P.take (k+1),¬(stS S p.1=true∧stS S p.2=true∧opS S p=true)):=HS;clear ho HS;go_wp2;exact⟨⟨k+1,by omega,by go_num,HS'.out,HB4.out⟩,by simp[intOf];omega⟩
     | true=>
      have HT:Hid (∃p∈P,stS S p.1=true∧stS S p.2=true∧opS S p=true):=⟨(x,y),List.mem_of_getElem? HP.out,H12.out.1,H12.out.2,ho⟩;clear ho;go_wp2;go_ret;exact⟨⟨true,rfl,fun _=>HT.out,fun _=>rfl⟩,HB4.out⟩
  ·have hkn:k=N:=by omega
   have HF:Hid (¬∃p∈P,stS S p.1=true∧stS S p.2=true∧opS S p=true):=by
    rintro⟨p,hp,h⟩;refine HX.out p ?_ h;rw[List.take_of_length_le (by rw[←HN.out];omega)];exact hp
   go_wp2;go_ret;exact⟨⟨false,rfl,⟨fun h=>(by cases h),fun h=>absurd h HF.out⟩⟩,HB.out⟩
end Go.Proofs.YtdgkpkdinfklaabGreat
