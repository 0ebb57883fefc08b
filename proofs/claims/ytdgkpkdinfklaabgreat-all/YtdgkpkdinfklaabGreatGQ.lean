import Derived.Test.YtdgkpkdinfklaabGreatGJ
import Derived.Test.YtdgkpkdinfklaabGreatGP
namespace Go.Proofs.YtdgkpkdinfklaabGreat
def Lf(F:List ST)(K:List UInt8)(k:Nat)(s:List UInt8):Prop:=∃n e,Sg F 0 F.length K k s n∧F[n]?=some e∧e.kind=9
theorem Sg.here{F:List ST}{lo hi:Nat}{K s:List UInt8}{k n:Nat}(h:Sg F lo hi K k s n){e:ST}(he:F[n]?=some e):∃u,F[k]?=some u:=by
 cases h with
 | nil=>exact⟨e,he⟩
 | jump u _ _ h3=>exact⟨u,h3⟩
 | acc u _ _ _ _ h3=>exact⟨u,h3⟩
 | add u _ _ _ h3=>exact⟨u,h3⟩
 | out u _ _ h3=>exact⟨u,h3⟩
 | take u _ _ _ _ h3=>exact⟨u,h3⟩
 | give u _ _ _ _ h3=>exact⟨u,h3⟩
 | branch u _ _ h3=>exact⟨u,h3⟩
 | loop u _ _ h3=>exact⟨u,h3⟩
theorem Sg.jumped{F:List ST}{lo hi:Nat}{K s:List UInt8}{k n:Nat}(h:Sg F lo hi K k s n){u e:ST}(hu:F[k]?=some u)(h8:u.kind=8)(he:F[n]?=some e)(h9:e.kind=9):∃k':Nat,u.nx=k'∧Sg F lo hi K k' s n:=by
 cases h with
 | nil=>
  rw[he]at hu;have:=Option.some.inj hu;subst this;omega
 | jump v _ _ h3 _ h5 h6=>
  rw[h3]at hu;have:=Option.some.inj hu;subst this;exact⟨_,h5,h6⟩
 | acc v c x _ _ h3 hc=>
  rw[h3]at hu;have:=Option.some.inj hu;subst this;rcases hc with⟨_,hc⟩|⟨_,hc⟩<;>omega
 | add v _ _ _ h3 hc=>rw[h3]at hu;have:=Option.some.inj hu;subst this;omega
 | out v _ _ h3 hc=>rw[h3]at hu;have:=Option.some.inj hu;subst this;omega
 | take v _ _ _ _ h3 hc=>rw[h3]at hu;have:=Option.some.inj hu;subst this;omega
 | give v _ _ _ _ h3 hc=>rw[h3]at hu;have:=Option.some.inj hu;subst this;omega
 | branch v _ _ h3 hc=>rw[h3]at hu;have:=Option.some.inj hu;subst this;omega
 | loop v _ _ h3 hc=>rw[h3]at hu;have:=Option.some.inj hu;subst this;omega
def LastEnd(F:List ST):Prop:=∀s,F[F.length-1]?=some s→s.kind=9
theorem upcN_of{F:List ST}(hj:JOk F)(hl:LastEnd F):∀(fuel k:Nat) {K s:List UInt8} {n:Nat} {e:ST},Sg F 0 F.length K k s n→F[n]?=some e→e.kind=9→F.length-k≤fuel→∃m u,F[m]?=some u∧u.kind≠8∧upcN F fuel k=u∧Sg F 0 F.length K m s n:=by
 intro fuel
 induction fuel with
 | zero=>
  intro k K s n e h he h9 hf;obtain⟨u,hu⟩:=h.here he;have:=(List.getElem?_eq_some_iff.1 hu).1;omega
 | succ fuel ih=>
  intro k K s n e h he h9 hf;obtain⟨u,hu⟩:=h.here he;have hk:=(List.getElem?_eq_some_iff.1 hu).1;have hn:¬((k:Int)<0):=by omega
  by_cases h8:u.kind=8
  ·obtain⟨k',hk',hs⟩:=h.jumped hu h8 he h9;have hup:upcN F (fuel+1) k=upcN F fuel k':=by
    rw[upcN,if_neg hn,Int.toNat_natCast,hu];simp only;rw[if_pos h8,hk']
   rw[hup];rcases hj k u hu h8 with h1|⟨m,t,e1,e2,e3⟩
   ·rw[hk']at h1;exact ih k' hs he h9 (by omega)
   ·have hm:m=k':=by rw[hk']at e1;omega
    subst hm;have hk1:k≠F.length-1:=fun hc=>by
     have:=hl u (by rw[←hc];exact hu);omega
    obtain⟨f,rfl⟩:∃f,fuel=f+1:=⟨fuel-1,by omega⟩;refine⟨m,t,e2,by omega,?_,hs⟩;rw[upcN,if_neg (by omega),Int.toNat_natCast,e2];simp only;rw[if_neg (by omega)]
  ·refine⟨k,u,hu,h8,?_,h⟩;rw[upcN,if_neg hn,Int.toNat_natCast,hu];simp only;rw[if_neg h8]
inductive Nx(F:List ST)(u:ST):List UInt8→List UInt8→Prop
 | fin:u.kind=9→Nx F u [] []
 | get {K s:List UInt8} (v:UInt8) (k:Nat):u.kind=1→inU [120,121,122] v=true→u.num=(v.toNat:Int)-120→u.nx=k→Lf F K k s→Nx F u K (103::v::s)
 | put {K s:List UInt8} (v:UInt8) (k:Nat):u.kind=2→inU [120,121,122] v=true→u.num=(v.toNat:Int)-120→u.nx=k→Lf F K k s→Nx F u K (112::v::s)
 | add {K s:List UInt8} (d:UInt8) (k:Nat):u.kind=3→inU [48,49,50,51,52,53,54,55,56,57] d=true→u.num=(d.toNat:Int)-48→u.nx=k→Lf F K k s→Nx F u K (105::d::s)
 | out {K s:List UInt8} (k:Nat):u.kind=4→u.nx=k→Lf F K k s→Nx F u K (111::s)
 | take {K s:List UInt8} (c l:UInt8) (k:Nat):u.kind=6→(c=91∧u.mend=false∨c=60∧u.mend=true)→inU [65,66,67,68,69] l=true→u.num=(l.toNat:Int)-65→u.nx=k→Lf F (l::K) k s→Nx F u K (c::l::s)
 | give {K s:List UInt8} (c l:UInt8) (k:Nat):u.kind=7→(c=93∧u.mend=false∨c=62∧u.mend=true)→u.num=(l.toNat:Int)-65→u.nx=k→Lf F K k s→Nx F u (l::K) (c::s)
 | branch {K a b s:List UInt8} (k e:Nat):u.kind=5→u.nx=k→u.el=e→(∀d z,blkG d (a++z)=(a++(blkG d z).1,(blkG d z).2))→(∀d z,blkG d (b++z)=(b++(blkG d z).1,(blkG d z).2))→Lf F K k (a++s)→Lf F K e (b++s)→Nx F u K (63::123::(a++125::123::(b++125::s)))
 | loop {K a s:List UInt8} (k e:Nat):u.kind=5→u.nx=k→u.el=e→(∀d z,blkG d (a++z)=(a++(blkG d z).1,(blkG d z).2))→Lf F K k (a++33::123::(a++125::s))→Lf F K e s→Nx F u K (33::123::(a++125::s))
theorem Lf.next{F:List ST}(hj:JOk F)(hl:LastEnd F){K s:List UInt8}{k:Nat}(h:Lf F K k s):Nx F (upc F k) K s:=by
 obtain⟨n,e,hs,he,h9⟩:=h;obtain⟨m,u,hu,h8,hup,hm⟩:=upcN_of hj hl F.length k hs he h9 (by omega);have:upc F k=u:=hup;rw[this];have H:=hm;cases hm with
 | nil=>
  rw[he]at hu;have:=Option.some.inj hu;subst this;exact .fin h9
 | jump v _ _ h3 h4=>rw[h3]at hu;have:=Option.some.inj hu;subst this;exact absurd h4 h8
 | acc v c x _ _ h3 hc hx hn hq hr=>
  rw[h3]at hu;have:=Option.some.inj hu;subst this;rcases hc with⟨rfl,hc⟩|⟨rfl,hc⟩
  ·exact .get x _ hc hx hn hq ⟨n,e,hr,he,h9⟩
  ·exact .put x _ hc hx hn hq ⟨n,e,hr,he,h9⟩
 | add v d _ _ h3 hc hx hn hq hr=>rw[h3]at hu;have:=Option.some.inj hu;subst this;exact .add d _ hc hx hn hq ⟨n,e,hr,he,h9⟩
 | out v _ _ h3 hc hq hr=>rw[h3]at hu;have:=Option.some.inj hu;subst this;exact .out _ hc hq ⟨n,e,hr,he,h9⟩
 | take v c l _ _ h3 hc hx hl' hn hq hr=>rw[h3]at hu;have:=Option.some.inj hu;subst this;exact .take c l _ hc hx hl' hn hq ⟨n,e,hr,he,h9⟩
 | give v c l _ _ h3 hc hx hn hq hr=>rw[h3]at hu;have:=Option.some.inj hu;subst this;exact .give c l _ hc hx hn hq ⟨n,e,hr,he,h9⟩
 | branch v _ _ h3 hc hq he' ha hb hr=>rw[h3]at hu;have:=Option.some.inj hu;subst this;exact .branch _ _ hc hq he' ha.blk hb.blk ⟨n,e,ha.cat0 hr,he,h9⟩ ⟨n,e,hb.cat0 hr,he,h9⟩
 | loop v _ _ h3 hc hq he' ha hr=>rw[h3]at hu;have:=Option.some.inj hu;subst this;exact .loop _ _ hc hq he' ha.blk ⟨n,e,ha.cat0 H,he,h9⟩ ⟨n,e,hr,he,h9⟩
theorem inU_range{l:UInt8}(h:inU [65,66,67,68,69] l=true):65≤l.toNat∧l.toNat<70:=by
 rw[inU_mem]at h;simp at h;rcases h with rfl|rfl|rfl|rfl|rfl<;>decide
theorem glob_range{l:UInt8}(h:inU [120,121,122] l=true):120≤l.toNat∧l.toNat<123:=by
 rw[inU_mem]at h;simp at h;rcases h with rfl|rfl|rfl<;>decide
theorem digit_range{l:UInt8}(h:inU [48,49,50,51,52,53,54,55,56,57] l=true):48≤l.toNat∧l.toNat<58:=by
 rw[inU_mem]at h;simp at h;rcases h with rfl|rfl|rfl|rfl|rfl|rfl|rfl|rfl|rfl|rfl<;>decide
def CK.Bd(c:CK)(k:Int):Prop:=∀i,0≤c.get i∧c.get i≤k
theorem CK.Bd.of{c:CK}{k:Int}(h0:0≤c.c0∧c.c0≤k)(h1:0≤c.c1∧c.c1≤k)(h2:0≤c.c2∧c.c2≤k)(h3:0≤c.c3∧c.c3≤k):c.Bd k:=by
 intro i
 match i with
 | 0=>exact h0
 | 1=>exact h1
 | 2=>exact h2
 | (n+3)=>exact h3
theorem CK.Bd.set{c:CK}{k:Int}(h:c.Bd k)(i:Nat){x:Int}(hx:0≤x∧x≤k):(c.set i x).Bd k:=by
 have a0:=h 0;have a1:=h 1;have a2:=h 2;have a3:=h 3
 match i with
 | 0=>exact .of hx a1 a2 a3
 | 1=>exact .of a0 hx a2 a3
 | 2=>exact .of a0 a1 hx a3
 | (n+3)=>exact .of a0 a1 a2 hx
theorem mx_bd{a b k:Int}(ha:0≤a∧a≤k)(hb:0≤b∧b≤k):0≤mx a b∧mx a b≤k:=by unfold mx;split<;>assumption
theorem CK.Bd.learn{c d:CK}{k:Int}(h:c.Bd k)(h':d.Bd k):(c.learn d).Bd k:=.of (mx_bd (h 0) (h' 0)) (mx_bd (h 1) (h' 1)) (mx_bd (h 2) (h' 2)) (mx_bd (h 3) (h' 3))
theorem CK.Bd.mono{c:CK}{k m:Int}(h:c.Bd k)(hm:k≤m):c.Bd m:=fun i=>⟨(h i).1,by have:=(h i).2;omega⟩
theorem CK.Bd.zero(k:Nat):CK.zero.Bd k:=.of ⟨by decide,by show(0:Int)≤k;omega⟩ ⟨by decide,by show(0:Int)≤k;omega⟩ ⟨by decide,by show(0:Int)≤k;omega⟩ ⟨by decide,by show(0:Int)≤k;omega⟩
def Left(F:List ST)(t:TH):Prop:=∃(K s:List UInt8) (m:Nat),t.next=m∧Lf F K m s∧∀l∈K,inU [65,66,67,68,69] l=true
structure RI(F:List ST)(k:Nat)(ths:List TH)(c:CS):Prop where
 n4:ths.length≤4
 nm:∀(i:Nat) (t:TH),ths[i]?=some t→t.name=(i:Int)+1
 lf:∀t∈ths,Left F t
 rg:∀t∈ths,0≤t.reg∧t.reg≤9
 kn:∀t∈ths,t.kn.Bd k
 gl3:c.gl.length=3
 lk5:c.lk.length=5
 gv:∀g∈c.gl,0≤g.val∧g.val≤9
 lkn:∀l∈c.lk,l.kn.Bd k
 pr:c.pr.length≤k
theorem Nx.ok{F:List ST}{u:ST}{K s:List UInt8}(h:Nx F u K s)(hK:∀l∈K,inU [65,66,67,68,69] l=true):StOk u∧(u.kind=9∨(1≤u.kind∧u.kind≤7)):=by
 cases h with
 | fin h=>exact⟨⟨fun e=>by omega,fun e=>by omega,fun e=>by omega⟩,.inl h⟩
 | get v k h hv hn=>have:=glob_range hv;exact⟨⟨fun e=>by omega,fun e=>by omega,fun e=>by omega⟩,.inr (by omega)⟩
 | put v k h hv hn=>have:=glob_range hv;exact⟨⟨fun e=>by omega,fun e=>by omega,fun e=>by omega⟩,.inr (by omega)⟩
 | add d k h hv hn=>have:=digit_range hv;exact⟨⟨fun e=>by omega,fun e=>by omega,fun e=>by omega⟩,.inr (by omega)⟩
 | out k h=>exact⟨⟨fun e=>by omega,fun e=>by omega,fun e=>by omega⟩,.inr (by omega)⟩
 | take c l k h hc hv hn=>have:=inU_range hv;exact⟨⟨fun e=>by omega,fun e=>by omega,fun e=>by omega⟩,.inr (by omega)⟩
 | give c l k h hc hn=>have:=inU_range (hK l (by simp));exact⟨⟨fun e=>by omega,fun e=>by omega,fun e=>by omega⟩,.inr (by omega)⟩
 | branch k e h=>exact⟨⟨fun e=>by omega,fun e=>by omega,fun e=>by omega⟩,.inr (by omega)⟩
 | loop k e h=>exact⟨⟨fun e=>by omega,fun e=>by omega,fun e=>by omega⟩,.inr (by omega)⟩
theorem RI.fit{F:List ST}(hj:JOk F)(hl:LastEnd F){k:Nat}{ths:List TH}{c:CS}(h:RI F k ths c)(hk:k≤1000):Fit F ths c:=by
 refine⟨h.n4,fun t ht=>?_,by have:=h.pr;omega⟩;obtain⟨K,s,m,e1,e2,e3⟩:=h.lf t ht;obtain⟨i,hi⟩:=List.mem_iff_getElem?.1 ht;have hlt:=(List.getElem?_eq_some_iff.1 hi).1;have hnm:=h.nm i t hi;have hn4:=h.n4;have hx:=e2.next hj hl;rw[←e1]at hx;obtain⟨o1,o2⟩:=hx.ok e3;exact⟨⟨by omega,by omega,(h.rg t ht).1,(h.rg t ht).2,fun i=>⟨(h.kn t ht i).1,by have:=(h.kn t ht i).2;omega⟩⟩,o1,o2⟩
theorem RI.mono{F:List ST}{k m:Nat}{ths:List TH}{c:CS}(h:RI F k ths c)(hm:k≤m):RI F m ths c:=
 ⟨h.n4,h.nm,h.lf,h.rg,fun t ht=>(h.kn t ht).mono (by omega),h.gl3,h.lk5,h.gv,fun l hl=>(h.lkn l hl).mono (by omega),by have:=h.pr;omega⟩
theorem RI.upd{F:List ST}{k n:Nat}{ths:List TH}{c c':CS}{t t':TH}(h:RI F k ths c)(hn:ths[n]?=some t)(e1:t'.name=t.name)(e2:Left F t')(e3:0≤t'.reg∧t'.reg≤9)(e4:t'.kn.Bd ((k+1:Nat):Int))
  (e5:c'.gl.length=3)(e6:c'.lk.length=5)(e7:∀g∈c'.gl,0≤g.val∧g.val≤9)(e8:∀l∈c'.lk,l.kn.Bd ((k+1:Nat):Int))(e9:c'.pr.length≤k+1):RI F (k+1) (ths.set n t') c':=by
 have hlt:=(List.getElem?_eq_some_iff.1 hn).1;have M:∀x∈ths.set n t',x∈ths∨x=t':=fun x hx=>List.mem_or_eq_of_mem_set hx
 refine⟨by simpa using h.n4,?_,?_,?_,?_,e5,e6,e7,e8,e9⟩
 ·intro i x hx
  by_cases hi:n=i
  ·subst hi;rw[List.getElem?_set_self hlt]at hx;rw[←Option.some.inj hx,e1];exact h.nm n t hn
  ·rw[List.getElem?_set_ne hi]at hx;exact h.nm i x hx
 ·intro x hx;rcases M x hx with hx|rfl;exact h.lf x hx;exact e2
 ·intro x hx;rcases M x hx with hx|rfl;exact h.rg x hx;exact e3
 ·intro x hx;rcases M x hx with hx|rfl
  ·exact(h.kn x hx).mono (by omega)
  ·exact e4
theorem getD_mem{α:Type}{l:List α}{n:Nat}{d:α}(h:n<l.length):l.getD n d∈l:=by
 rw[List.getD_eq_getElem?_getD,List.getElem?_eq_getElem h];exact List.getElem_mem h
theorem addP_ok{x:Int}{d:Int}(h0:0≤x∧x≤9)(hd:0≤d∧d≤9):0≤addP x d∧addP x d≤9:=by unfold addP;split<;>omega
theorem RI.pick{F:List ST}(hj:JOk F)(hl:LastEnd F){k:Nat}{ths:List TH}{c:CS}(h:RI F k ths c)(x:UInt8):RI F (k+1) (pickM F ths c x).1 (pickM F ths c x).2.1:=by
 unfold pickM
 split
 ·exact h.mono (by omega)
 split
 ·exact h.mono (by omega)
 ·rename_i t hn
  split
  ·exact h.mono (by omega)
  ·rename_i hw;simp only[not_or,Decidable.not_not]at hw;have ht:=List.mem_of_getElem? hn;obtain⟨K,s,m,e1,e2,e3⟩:=h.lf t ht;have hx:=e2.next hj hl;rw[←e1]at hx;obtain⟨u,hu⟩:∃u,u=upc F t.next:=⟨_,rfl⟩;rw[←hu]at hx hw ⊢;have hkb:(t.kn.set t.ix (t.kn.get t.ix+1)).Bd ((k+1:Nat):Int):=((h.kn t ht).mono (by omega)).set _ (by have:=h.kn t ht t.ix;omega);have hrg:=h.rg t ht;have L8:∀l∈c.lk,l.kn.Bd ((k+1:Nat):Int):=fun l hl=>(h.lkn l hl).mono (by omega)
   have P9:c.pr.length≤k+1:=by have:=h.pr;omega
   simp only;cases hx with
   | fin h9=>exact absurd h9 hw.1
   | get v k' hk hv hn' hq hr=>
    have hv':=glob_range hv;have hnn:u.num.toNat<c.gl.length:=by rw[h.gl3];omega
    have hd:c.does { t with next:=u.nx,kn:=t.kn.set t.ix (t.kn.get t.ix+1) } u=({ c with gl:=c.gl.set u.num.toNat (noteG (c.g u.num.toNat) { t with next:=u.nx,kn:=t.kn.set t.ix (t.kn.get t.ix+1) }),raced:=c.raced||(t.kn.set t.ix (t.kn.get t.ix+1)).misses (c.g u.num.toNat).puts },{ t with next:=u.nx,kn:=t.kn.set t.ix (t.kn.get t.ix+1),reg:=(c.g u.num.toNat).val },103):=by unfold CS.does;rw[if_pos hk]
    rw[hd];have hg:=h.gv _ (getD_mem (d:=gb0) hnn);refine h.upd hn rfl ⟨K,_,k',hq,hr,e3⟩ hg hkb (by simpa using h.gl3) h.lk5 ?_ L8 P9;intro g hg';rcases List.mem_or_eq_of_mem_set hg' with h1|rfl
    ·exact h.gv g h1
    ·exact hg
   | put v k' hk hv hn' hq hr=>
    have hd:c.does { t with next:=u.nx,kn:=t.kn.set t.ix (t.kn.get t.ix+1) } u=({ c with gl:=c.gl.set u.num.toNat (noteP (c.g u.num.toNat) { t with next:=u.nx,kn:=t.kn.set t.ix (t.kn.get t.ix+1) }),raced:=(c.raced||(t.kn.set t.ix (t.kn.get t.ix+1)).misses (c.g u.num.toNat).puts)||(t.kn.set t.ix (t.kn.get t.ix+1)).misses (c.g u.num.toNat).gets },{ t with next:=u.nx,kn:=t.kn.set t.ix (t.kn.get t.ix+1) },112):=by unfold CS.does;rw[if_neg (by omega),if_pos hk]
    rw[hd];refine h.upd hn rfl ⟨K,_,k',hq,hr,e3⟩ hrg hkb (by simpa using h.gl3) h.lk5 ?_ L8 P9;intro g hg';rcases List.mem_or_eq_of_mem_set hg' with h1|rfl
    ·exact h.gv g h1
    ·exact hrg
   | add d k' hk hv hn' hq hr=>
    have hv':=digit_range hv;have hd:c.does { t with next:=u.nx,kn:=t.kn.set t.ix (t.kn.get t.ix+1) } u=(c,TH.add { t with next:=u.nx,kn:=t.kn.set t.ix (t.kn.get t.ix+1) } u.num,105):=by unfold CS.does;rw[if_neg (by omega),if_neg (by omega),if_pos hk]
    rw[hd];exact h.upd hn rfl ⟨K,_,k',hq,hr,e3⟩ (addP_ok hrg (by omega)) hkb h.gl3 h.lk5 h.gv L8 P9
   | out k' hk hq hr=>
    have hd:c.does { t with next:=u.nx,kn:=t.kn.set t.ix (t.kn.get t.ix+1) } u=({ c with pr:=c.pr++[UInt8.ofNat (48+t.reg.toNat)] },{ t with next:=u.nx,kn:=t.kn.set t.ix (t.kn.get t.ix+1) },111):=by unfold CS.does;rw[if_neg (by omega),if_neg (by omega),if_neg (by omega),if_pos hk]
    rw[hd];exact h.upd hn rfl ⟨K,_,k',hq,hr,e3⟩ hrg hkb h.gl3 h.lk5 h.gv L8 (by simp;exact h.pr)
   | take cc l k' hk hc hv hn' hq hr=>
    have hv':=inU_range hv;have hnn:u.num.toNat<c.lk.length:=by rw[h.lk5];omega
    have hd:c.does { t with next:=u.nx,kn:=t.kn.set t.ix (t.kn.get t.ix+1) } u=({ c with lk:=c.lk.set u.num.toNat { c.l u.num.toNat with holder:=t.name } },{ t with next:=u.nx,kn:=(t.kn.set t.ix (t.kn.get t.ix+1)).learn (c.l u.num.toNat).kn },if u.mend then 60 else 91):=by unfold CS.does;rw[if_neg (by omega),if_neg (by omega),if_neg (by omega),if_neg (by omega),if_neg (by omega),if_pos hk]
    rw[hd];have hlb:=L8 _ (getD_mem (d:=lk0) hnn);refine h.upd hn rfl ⟨l::K,_,k',hq,hr,?_⟩ hrg (hkb.learn hlb) h.gl3 (by simpa using h.lk5) h.gv ?_ P9
    ·intro y hy;rcases List.mem_cons.1 hy with rfl|hy
     ·exact hv
     ·exact e3 y hy
    ·intro y hy;rcases List.mem_or_eq_of_mem_set hy with h1|rfl
     ·exact L8 y h1
     ·exact hlb
   | give cc l k' hk hc hn' hq hr=>
    have hd:c.does { t with next:=u.nx,kn:=t.kn.set t.ix (t.kn.get t.ix+1) } u=({ c with lk:=c.lk.set u.num.toNat ⟨0,t.kn.set t.ix (t.kn.get t.ix+1)⟩ },{ t with next:=u.nx,kn:=t.kn.set t.ix (t.kn.get t.ix+1) },if u.mend then 62 else 93):=by unfold CS.does;rw[if_neg (by omega),if_neg (by omega),if_neg (by omega),if_neg (by omega),if_neg (by omega),if_neg (by omega),if_pos hk]
    rw[hd];refine h.upd hn rfl ⟨_,_,k',hq,hr,fun y hy=>e3 y (List.mem_cons_of_mem _ hy)⟩ hrg hkb h.gl3 (by simpa using h.lk5) h.gv ?_ P9;intro y hy;rcases List.mem_or_eq_of_mem_set hy with h1|rfl
    ·exact L8 y h1
    ·exact hkb
   | branch k' e hk hq he _ _ hr hb=>
    have hd:c.does { t with next:=u.nx,kn:=t.kn.set t.ix (t.kn.get t.ix+1) } u=(c,TH.test { t with next:=u.nx,kn:=t.kn.set t.ix (t.kn.get t.ix+1) } u.el,TH.tested { t with next:=u.nx,kn:=t.kn.set t.ix (t.kn.get t.ix+1) }):=by unfold CS.does;rw[if_neg (by omega),if_neg (by omega),if_neg (by omega),if_neg (by omega),if_pos hk]
    rw[hd];unfold TH.test;simp only
    split
    ·exact h.upd hn rfl ⟨K,_,e,he,hb,e3⟩ hrg hkb h.gl3 h.lk5 h.gv L8 P9
    ·exact h.upd hn rfl ⟨K,_,k',hq,hr,e3⟩ hrg hkb h.gl3 h.lk5 h.gv L8 P9
   | loop k' e hk hq he _ hr hb=>
    have hd:c.does { t with next:=u.nx,kn:=t.kn.set t.ix (t.kn.get t.ix+1) } u=(c,TH.test { t with next:=u.nx,kn:=t.kn.set t.ix (t.kn.get t.ix+1) } u.el,TH.tested { t with next:=u.nx,kn:=t.kn.set t.ix (t.kn.get t.ix+1) }):=by unfold CS.does;rw[if_neg (by omega),if_neg (by omega),if_neg (by omega),if_neg (by omega),if_pos hk]
    rw[hd];unfold TH.test;simp only
    split
    ·exact h.upd hn rfl ⟨K,_,e,he,hb,e3⟩ hrg hkb h.gl3 h.lk5 h.gv L8 P9
    ·exact h.upd hn rfl ⟨K,_,k',hq,hr,e3⟩ hrg hkb h.gl3 h.lk5 h.gv L8 P9
def th0(i k:Nat):TH:=⟨(i:Int)+1,k,0,.zero⟩
theorem Thr.len{F:List ST}{m k:Nat}{ts:List (Nat×List UInt8)}(h:Thr F m k ts):ts.length=m:=by
 induction h with
 | nil=>rfl
 | snoc _ _ _ _ _ _ _ ih=>simp[ih]
theorem startM_same {F : List ST} {a : Nat} {L : List TH} (h : startM F a = L) : ∀ b, a ≤ b → (∀ i s, a ≤ i → i < b → F[i]? = some s → s.thread ≠ (L.length : Int) + 1) → startM F b = L := by
  intro b hb
  induction b with
  | zero => intro _; have : a = 0 := by omega
            subst this; exact h
  | succ b ih =>
    intro hne
    by_cases hab : a = b + 1
    · subst hab; exact h
    · have hi := ih (by omega) (fun i s h1 h2 => hne i s h1 (by omega))
      rw [startM, hi]
      cases hF : F[b]? with
      | none => rfl
      | some s =>
        simp only
        rw [if_neg (hne b s (by omega) (by omega) hF)]
theorem Thr.start{F:List ST}{m k:Nat}{ts:List (Nat×List UInt8)}(h:Thr F m k ts):startM F k=ts.mapIdx fun i x=>th0 i x.1:=by
 induction h with
 | nil=>rfl
 | @snoc m k n ts u s h0 h1 h2 h3 h4 h5 ih=>
  have hl:(startM F k).length=m:=by rw[ih,List.length_mapIdx,h0.len]
  have hk:∃s0,F[k]?=some s0:=by
   have hn:=(List.getElem?_eq_some_iff.1 h3).1;exact⟨_,List.getElem?_eq_getElem (by omega)⟩
  obtain⟨s0,hs0⟩:=hk;have ht:=h5 k s0 (Nat.le_refl _) h1 hs0;have e1:startM F (k+1)=startM F k++[th0 m k]:=by
   rw[startM,hs0];simp only;rw[if_pos (by rw[hl];exact ht),ht];rfl
  have e2:startM F (n+1)=startM F k++[th0 m k]:=by
   refine startM_same e1 (n+1) (by omega) (fun i x a b hx=>?_);rw[h5 i x (by omega) (by omega) hx];simp[hl];omega
  rw[e2,ih,List.mapIdx_append];simp[h0.len]
theorem Thr.lastEnd{F:List ST}{m:Nat}{ts:List (Nat×List UInt8)}(h:Thr F m F.length ts):LastEnd F:=by
 intro s hs;generalize hk:F.length=k at h;cases h with
 | nil=>
  have:=(List.getElem?_eq_some_iff.1 hs).1;omega
 | @snoc _ _ n _ _ e _ _ _ h3 h4=>
  rw[show F.length-1=n by omega,h3]at hs;rw[←Option.some.inj hs];exact h4
theorem Thr.lf{F:List ST}{m k:Nat}{ts:List (Nat×List UInt8)}(h:Thr F m k ts)(hk:k≤F.length):∀x∈ts,Lf F [] x.1 x.2:=by
 induction h with
 | nil=>simp
 | snoc s h0 h1 h2 h3 h4 h5 ih=>
  intro x hx;rcases List.mem_append.1 hx with hx|hx
  ·exact ih (by omega) x hx
  ·simp at hx;subst hx;exact⟨_,s,h2.mono (Nat.zero_le _) (by omega),h3,h4⟩
structure Prog(p:List UInt8)(F:List ST)(ts:List (Nat×List UInt8)):Prop where
 thr:Thr F ts.length F.length ts
 spl:splitBar p=ts.map (·.2)
 jok:JOk F
 n4:ts.length≤4
theorem StepsOf.prog{p:List UInt8}{F:List ST}(h:StepsOf p F)(h4:(splitBar p).length≤4):∃ts,Prog p F ts:=by
 obtain⟨ts,h1,h2,h3⟩:=h.threads;exact⟨ts,h1,h2,h3,by rw[h2]at h4;simpa using h4⟩
theorem Prog.ri{p:List UInt8}{F:List ST}{ts:List (Nat×List UInt8)}(h:Prog p F ts)(q:List UInt8)(k:Nat):RI F k (runU F q k).ths (runU F q k).c:=by
 induction k with
 | zero=>
  have e:(runU F q 0).ths=ts.mapIdx fun i x=>th0 i x.1:=h.thr.start
  have hlf:=h.thr.lf (Nat.le_refl _);have M:∀t∈(runU F q 0).ths,∃(i:Nat) (x:Nat×List UInt8),x∈ts∧t=th0 i x.1:=by
   intro t ht;rw[e]at ht;obtain⟨i,hi,rfl⟩:=List.mem_mapIdx.1 ht;exact⟨i,ts[i],List.getElem_mem hi,rfl⟩
  refine⟨by rw[e];simpa using h.n4,?_,?_,?_,?_,rfl,rfl,?_,?_,by simp[runU,cs0]⟩
  ·intro i t hi;rw[e,List.getElem?_mapIdx]at hi;cases hx:ts[i]? with
   | none=>rw[hx]at hi;cases hi
   | some x=>rw[hx]at hi;rw[←Option.some.inj hi];rfl
  ·intro t ht;obtain⟨i,x,hx,rfl⟩:=M t ht;exact⟨[],x.2,x.1,rfl,hlf x hx,by simp⟩
  ·intro t ht;obtain⟨i,x,hx,rfl⟩:=M t ht;simp[th0]
  ·intro t ht;obtain⟨i,x,hx,rfl⟩:=M t ht;exact CK.Bd.zero 0
  ·intro g hg;simp[runU,cs0]at hg;subst hg;simp[gb0]
  ·intro l hl;simp[runU,cs0]at hl;subst hl;exact CK.Bd.zero 0
 | succ k ih=>
  rw[runU]
  split
  ·exact ih.pick h.jok h.thr.lastEnd _
  ·exact ih.mono (by omega)
theorem Prog.fit{p:List UInt8}{F:List ST}{ts:List (Nat×List UInt8)}(h:Prog p F ts)(q:List UInt8)(k:Nat)(hk:k≤1000):Fit F (runU F q k).ths (runU F q k).c:=(h.ri q k).fit h.jok h.thr.lastEnd hk
theorem splitBar_count(p:List UInt8):(splitBar p).length=(p.filter (·==124)).length+1:=by
 induction p with
 | nil=>rfl
 | cons c s ih=>
  rw[splitBar]
  by_cases hc:c=124
  ·rw[if_pos hc,List.length_cons,ih];simp[hc]
  ·rw[if_neg hc];have hb:(c==124)=false:=by simpa using hc
   rw[List.filter_cons,hb];cases hs:splitBar s with
   | nil=>rw[hs]at ih;simp at ih
   | cons h t=>rw[hs]at ih;simpa using ih
def itT(p:List UInt8):Nat→RT
 | 0=>RT.start
 | n+1=>if (itT p n).pl<p.length∧((itT p n).piece p).2=true then((itT p n).piece p).1 else itT p n
theorem ReachT.it{p:List UInt8}{r:RT}(h:ReachT p r):∃n,itT p n=r:=by
 induction h with
 | start=>exact⟨0,rfl⟩
 | step h hl he ih=>
  obtain⟨n,hn⟩:=ih;refine⟨n+1,?_⟩;rw[itT,hn,if_pos ⟨hl,by rw[he]⟩,he]
theorem itT_end {p : List UInt8} {n : Nat} (h : (itT p n).pl = p.length) : ∀ m, n ≤ m → itT p m = itT p n := by
  intro m hm
  induction m with
  | zero => have : n = 0 := by omega
            subst this; rfl
  | succ m ih =>
    by_cases he : n = m + 1
    · subst he; rfl
    · have hi := ih (by omega)
      rw [itT, hi, if_neg (by omega)]
theorem StepsOf.unique{p:List UInt8}{F G:List ST}(h:StepsOf p F)(k:StepsOf p G):F=G:=by
 obtain⟨r,hr,he,_,rfl⟩:=h;obtain⟨q,hq,hf,_,rfl⟩:=k;obtain⟨n,hn⟩:=hr.it;obtain⟨m,hm⟩:=hq.it;have a:=itT_end (p:=p) (n:=n) (by rw[hn];exact he) (max n m) (by omega);have b:=itT_end (p:=p) (n:=m) (by rw[hm];exact hf) (max n m) (by omega);rw[a,hn,hm]at b;rw[b]
end Go.Proofs.YtdgkpkdinfklaabGreat
