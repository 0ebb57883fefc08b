import Derived.Test.YtdgkpkdinfklaabGreatGV
import Derived.Test.YtdgkpkdinfklaabGreatGU
import Derived.Test.YtdgkpkdinfklaabGreatGLY
import Derived.Test.YtdgkpkdinfklaabGreatGSF
namespace Go.Proofs.YtdgkpkdinfklaabGreat
open Go.RowKit
def alkB(a b:ST):Bool:=a.thread==b.thread&&(a.kind==b.kind&&(a.num==b.num&&(a.h0==b.h0&&(a.h1==b.h1&&(a.h2==b.h2&&(a.h3==b.h3&&a.h4==b.h4))))))
structure SP where
 acc:ST
 pls:List Int
 lock:Int
 set:Bool
def lkS(S:List SP)(i:Nat):Int:=match S[i]? with|some s=>s.lock|none=>-1
def stS(S:List SP)(i:Nat):Bool:=match S[i]? with|some s=>s.set|none=>false
def plS(S:List SP)(i:Nat):Nat:=match S[i]? with|some s=>s.pls.length|none=>0
def bsS(S:List SP):List (ST×List Int):=S.map fun s=>(s.acc,s.pls)
def mtB(a b:ST)(la lb:Int):Bool:=(List.range 5).any fun l=>(hOfT a l||la==(l:Int))&&(hOfT b l||lb==(l:Int))
def opS(S:List SP)(p:Nat×Nat):Bool:=match S[p.1]?,S[p.2]? with
 | some a,some b=>!mtB a.acc b.acc a.lock b.lock
 | _,_=>false
def ClosedX(S:List SP)(P:List (Nat×Nat))(X:Nat→Int):Prop:=∀p∈P,∀a b,S[p.1]?=some a→S[p.2]?=some b→mtB a.acc b.acc (X p.1) (X p.2)=true
def edX(E:Nat→Nat→Bool)(S:List SP)(X:Nat→Int)(n:Nat)(a b:Nat):Bool:=E a b||(List.range n).any fun i=>match S[i]? with|some s=>hOfT s.acc a&&X i==(b:Int)|none=>false
def FairX(E:Nat→Nat→Bool)(S:List SP)(X:Nat→Int):Prop:=∀i s,S[i]?=some s→0≤X i→∀l,l<5→hOfT s.acc l=true→¬WayN 5 (edX E S X S.length) (X i).toNat l
def RngX(X:Nat→Int):Prop:=∀i,-1≤X i∧X i<5
def csX(K:Nat→Nat)(u:Nat→Bool)(X:Nat→Int):Nat→Nat
 | 0=>0
 | n+1=>csX K u X n+(if (u n&&X n != -1)=true then K n else 0)
theorem csX_congr{K K':Nat→Nat}{u u':Nat→Bool}{X X':Nat→Int}:∀n,(∀i,i<n→K i=K' i∧u i=u' i∧X i=X' i)→csX K u X n=csX K' u' X' n:=by
 intro n
 induction n with
 | zero=>intro _;rfl
 | succ n ih=>
  intro h;obtain⟨h1,h2,h3⟩:=h n (by omega);rw[csX,csX,ih (fun i hi=>h i (by omega)),h1,h2,h3]
theorem csX_split{K:Nat→Nat}{u u':Nat→Bool}{X:Nat→Int}{m:Nat}(hm:u m=true)(hm':u' m=false)(ho:∀i,i≠m→u' i=u i):∀n,csX K u X n=csX K u' X n+(if m<n∧X m≠-1 then K m else 0):=by
 intro n
 induction n with
 | zero=>simp[csX]
 | succ n ih=>
  rw[csX,csX,ih]
  by_cases h:n=m
  ·subst h;rw[hm,hm']
   by_cases hx:X n=-1
   ·simp[hx]
   ·simp[hx]
  ·rw[ho n h];have:(m<n+1∧X m≠-1)↔(m<n∧X m≠-1):=by
    constructor
    ·rintro⟨h1,h2⟩;exact⟨by omega,h2⟩
    ·rintro⟨h1,h2⟩;exact⟨by omega,h2⟩
   simp only[this];omega
def Agr(S:List SP)(X:Nat→Int):Prop:=∀i,stS S i=true→X i=lkS S i
structure InvS(S:List SP)(P:List (Nat×Nat)):Prop where
 rng:∀i,-1≤lkS S i∧lkS S i<5
 bare:∀i,stS S i=false→lkS S i=-1
 prs:∀p∈P,p.1<S.length∧p.2<S.length
def LostNo(S:List SP)(P:List (Nat×Nat)):Prop:=∀p∈P,stS S p.1=true→stS S p.2=true→opS S p=false
structure Found(E:Nat→Nat→Bool)(S S':List SP)(P:List (Nat×Nat))(c:Int):Prop where
 bs:bsS S'=bsS S
 inv:InvS S' P
 keep:∀i,stS S i=true→stS S' i=true∧lkS S' i=lkS S i
 closed:ClosedX S' P (lkS S')
 fair:FairX E S' (lkS S')
 cost:(csX (plS S) (fun i=>!stS S i) (lkS S') S.length:Int)≤c
def NoneAt(E:Nat→Nat→Bool)(S:List SP)(P:List (Nat×Nat))(c:Int):Prop:=∀X,RngX X→Agr S X→ClosedX S P X→FairX E S X→c<(csX (plS S) (fun i=>!stS S i) X S.length:Int)
def NoneWith(E:Nat→Nat→Bool)(S:List SP)(P:List (Nat×Nat))(c:Int)(m:Nat)(l:Int):Prop:=∀X,RngX X→Agr S X→X m=l→ClosedX S P X→FairX E S X→c<(csX (plS S) (fun i=>!stS S i) X S.length:Int)
theorem bsS_get{S S':List SP}(h:bsS S'=bsS S)(i:Nat):(S'[i]?).map (fun s=>(s.acc,s.pls))=(S[i]?).map (fun s=>(s.acc,s.pls)):=by
 have:=congrArg (fun l=>l[i]?) h;simpa[bsS]using this
theorem bsS_len{S S':List SP}(h:bsS S'=bsS S):S'.length=S.length:=by
 have:=congrArg List.length h;simpa[bsS]using this
theorem bsS_some{S S':List SP}(h:bsS S'=bsS S){i:Nat}{s:SP}(hs:S[i]?=some s):∃s',S'[i]?=some s'∧s'.acc=s.acc∧s'.pls=s.pls:=by
 have:=bsS_get h i;rw[hs]at this;cases h':S'[i]? with
 | none=>rw[h']at this;simp at this
 | some s'=>
  rw[h']at this;simp at this;exact⟨s',rfl,this.1,this.2⟩
theorem plS_bs{S S':List SP}(h:bsS S'=bsS S)(i:Nat):plS S' i=plS S i:=by
 have:=bsS_get h i;rw[plS,plS];cases h1:S'[i]?<;>cases h2:S[i]?<;>rw[h1,h2]at this<;>simp at this<;>simp[this]
theorem ClosedX.bs{S S':List SP}{P:List (Nat×Nat)}{X:Nat→Int}(h:bsS S'=bsS S)(hc:ClosedX S P X):ClosedX S' P X:=by
 intro p hp a b ha hb;obtain⟨a',ha',e1,_⟩:=bsS_some h.symm ha;obtain⟨b',hb',e2,_⟩:=bsS_some h.symm hb;have:=hc p hp a' b' ha' hb';rw[e1,e2]at this;exact this
theorem edX_bs{E:Nat→Nat→Bool}{S S':List SP}{X:Nat→Int}(h:bsS S'=bsS S)(n a b:Nat):edX E S' X n a b=edX E S X n a b:=by
 rw[edX,edX]
 congr 2
 funext i
 have:=bsS_get h i;cases h1:S'[i]?<;>cases h2:S[i]?<;>rw[h1,h2]at this<;>simp at this<;>simp[this]
theorem FairX.bs{E:Nat→Nat→Bool}{S S':List SP}{X:Nat→Int}(h:bsS S'=bsS S)(hf:FairX E S X):FairX E S' X:=by
 intro i s hs h0 l hl hh hw;obtain⟨s',hs',e1,_⟩:=bsS_some h.symm hs;refine hf i s' hs' h0 l hl (by rw[e1];exact hh) (hw.mono fun a b _ _ he=>?_);rw[edX_bs h,bsS_len h]at he;exact he
theorem FairX.less{E:Nat→Nat→Bool}{S:List SP}{X Y:Nat→Int}(hf:FairX E S X)(h:∀i,i<S.length→Y i=-1∨Y i=X i):FairX E S Y:=by
 intro i s hs h0 l hl hh hw;have hi:=(List.getElem?_eq_some_iff.1 hs).1;have e:Y i=X i:=by
  rcases h i hi with h|h
  ·omega
  ·exact h
 rw[e]at h0 hw;refine hf i s hs h0 l hl hh (hw.mono fun a b _ _ he=>?_);rw[edX,Bool.or_eq_true]at he ⊢;rcases he with he|he
 ·exact .inl he
 ·right;rw[List.any_eq_true]at he ⊢;obtain⟨j,hj,he⟩:=he;refine⟨j,hj,?_⟩;cases hsj:S[j]? with
  | none=>rw[hsj]at he;cases he
  | some t=>
   rw[hsj]at he;simp only[Bool.and_eq_true,beq_iff_eq]at he ⊢;refine⟨he.1,?_⟩;rcases h j (by simpa using hj)with h|h
   ·rw[h]at he;omega
   ·rw[←h];exact he.2
def setS(S:List SP)(m:Nat)(l:Int)(b:Bool):List SP:=match S[m]? with|some s=>S.set m { s with lock:=l,set:=b }|none=>S
theorem setS_some{S:List SP}{m:Nat}{s:SP}(h:S[m]?=some s)(l:Int)(b:Bool):setS S m l b=S.set m { s with lock:=l,set:=b }:=by rw[setS,h]
theorem setS_bs(S:List SP)(m:Nat)(l:Int)(b:Bool):bsS (setS S m l b)=bsS S:=by
 cases h:S[m]? with
 | none=>rw[setS,h]
 | some s=>
  obtain⟨hl,rfl⟩:=List.getElem?_eq_some_iff.1 h;rw[setS_some h,bsS,bsS,List.map_set];apply List.ext_getElem?;intro i;rw[List.getElem?_set]
  by_cases e:m=i
  ·subst e;simp[hl]
  ·simp[e]
theorem setS_len(S:List SP)(m:Nat)(l:Int)(b:Bool):(setS S m l b).length=S.length:=bsS_len (setS_bs S m l b)
theorem setS_lk(S:List SP)(m:Nat)(l:Int)(b:Bool)(hm:m<S.length)(i:Nat):lkS (setS S m l b) i=if i=m then l else lkS S i:=by
 have h:=List.getElem?_eq_getElem hm;rw[setS_some h,lkS,List.getElem?_set]
 by_cases e:m=i
 ·subst e;simp[hm]
 ·rw[if_neg e,if_neg (fun h=>e h.symm),lkS]
theorem setS_st(S:List SP)(m:Nat)(l:Int)(b:Bool)(hm:m<S.length)(i:Nat):stS (setS S m l b) i=if i=m then b else stS S i:=by
 have h:=List.getElem?_eq_getElem hm;rw[setS_some h,stS,List.getElem?_set]
 by_cases e:m=i
 ·subst e;simp[hm]
 ·rw[if_neg e,if_neg (fun h=>e h.symm),stS]
theorem setS_back{S:List SP}{P:List (Nat×Nat)}(h:InvS S P){m:Nat}{s:SP}(hm:S[m]?=some s)(hu:stS S m=false)(l:Int)(b:Bool):(setS S m l b).set m { s with lock:=-1,set:=false }=S:=by
 have hb:=h.bare m hu;rw[lkS,hm]at hb;rw[stS,hm]at hu;simp only at hb hu;rw[setS_some hm,List.set_set];apply List.ext_getElem?;intro i;rw[List.getElem?_set]
 by_cases e:m=i
 ·subst e;have hl:=(List.getElem?_eq_some_iff.1 hm).1;rw[if_pos rfl,if_pos hl,hm];cases s;simp_all
 ·rw[if_neg e]
theorem InvS.set{S:List SP}{P:List (Nat×Nat)}(h:InvS S P){m:Nat}(hm:m<S.length){l:Int}(h0:-1≤l)(h5:l<5):InvS (setS S m l true) P:=by
 refine⟨fun i=>?_,fun i hi=>?_,fun p hp=>by rw[setS_len];exact h.prs p hp⟩
 ·rw[setS_lk _ _ _ _ hm]
  split
  ·exact⟨h0,h5⟩
  ·exact h.rng i
 ·rw[setS_st _ _ _ _ hm]at hi;rw[setS_lk _ _ _ _ hm]
  split
  ·next e=>rw[if_pos e]at hi;cases hi
  ·next e=>rw[if_neg e]at hi;exact h.bare i hi
def unS(S:List SP):Nat:=(S.filter fun s=>!s.set).length
theorem unS_set{S:List SP}{m:Nat}(hm:m<S.length)(hu:stS S m=false)(l:Int):unS (setS S m l true)+1=unS S:=by
 have h:=List.getElem?_eq_getElem hm;rw[setS_some h];rw[stS,h]at hu;simp only at hu;have key:∀(S:List SP) (m:Nat) (hm:m<S.length) (t:SP),(S[m]'hm).set=false→t.set=true→((S.set m t).filter fun s=>!s.set).length+1=(S.filter fun s=>!s.set).length:=by
  intro S
  induction S with
  | nil=>intro m hm;exact absurd hm (Nat.not_lt_zero _)
  | cons x r ih=>
   intro m hm t h1 h2;cases m with
   | zero=>simp only[List.getElem_cons_zero]at h1;simp[h1,h2]
   | succ m=>
    simp only[List.getElem_cons_succ]at h1;have:=ih m (by simpa using hm) t h1 h2;rw[List.set_cons_succ,List.filter_cons,List.filter_cons]
    split
    ·rw[List.length_cons,List.length_cons];omega
    ·exact this
 exact key S m hm _ hu rfl
section
variable {E : Nat → Nat → Bool} {S : List SP} {P : List (Nat × Nat)} {c : Int}
theorem Agr.less{X:Nat→Int}(hi:InvS S P)(h:Agr S X):∀i,i<S.length→lkS S i=-1∨lkS S i=X i:=fun i _=>by
 cases hs:stS S i with
 | false=>exact .inl (hi.bare i hs)
 | true=>exact .inr (h i hs).symm
theorem cost_with{m:Nat}(hm:m<S.length)(hu:stS S m=false)(l:Int)(X:Nat→Int):csX (plS S) (fun i=>!stS S i) X S.length=csX (plS S) (fun i=>!stS (setS S m l true) i) X S.length+(if X m≠-1 then plS S m else 0):=by
 rw[csX_split (m:=m) (u:=fun i=>!stS S i) (u':=fun i=>!stS (setS S m l true) i) (by simp[hu]) (by simp[setS_st _ _ _ _ hm]) (fun i hi=>by simp[setS_st _ _ _ _ hm,hi])];simp[hm]
theorem NoneWith.few{m:Nat}{X0:Int}(h:c-(if X0≠-1 then(plS S m:Int)else 0)<0)(hm:m<S.length)(hu:stS S m=false):NoneWith E S P c m X0:=by
 intro X _ _ hx _ _;rw[cost_with hm hu X0 X,hx]
 split at h<;>simp_all<;>omega
theorem NoneWith.lost{m:Nat}{l:Int}(hm:m<S.length)(h:∃p∈P,stS (setS S m l true) p.1=true∧stS (setS S m l true) p.2=true∧opS (setS S m l true) p=true):NoneWith E S P c m l:=by
 intro X _ ha hx hc _;obtain⟨p,hp,h1,h2,h3⟩:=h
 exfalso
 have agr:∀i,stS (setS S m l true) i=true→X i=lkS (setS S m l true) i:=fun i hi=>by
  rw[setS_st _ _ _ _ hm]at hi;rw[setS_lk _ _ _ _ hm]
  split
  ·next e=>rw[e];exact hx
  ·next e=>rw[if_neg e]at hi;exact ha i hi
 have hc':=hc.bs (setS_bs S m l true);cases e1:(setS S m l true)[p.1]? with
 | none=>rw[opS,e1]at h3;cases h3
 | some a=>
  cases e2:(setS S m l true)[p.2]? with
  | none=>rw[opS,e1,e2]at h3;cases h3
  | some b=>
   have:=hc' p hp a b e1 e2;rw[agr _ h1,agr _ h2,lkS,lkS,e1,e2]at this;rw[opS,e1,e2]at h3;simp only at h3 this;rw[this]at h3;cases h3
theorem NoneWith.unfair{m:Nat}{l:Int}(hi:InvS S P)(hm:m<S.length)(h0:-1≤l)(h5:l<5)(h:¬FairX E (setS S m l true) (lkS (setS S m l true))):NoneWith E S P c m l:=by
 intro X _ ha hx _ hf
 exfalso
 refine h ((hf.bs (setS_bs S m l true)).less (Agr.less (P:=P) (hi.set hm h0 h5) fun i hi'=>?_));rw[setS_st _ _ _ _ hm]at hi';rw[setS_lk _ _ _ _ hm]
 split
 ·next e=>rw[e];exact hx
 ·next e=>rw[if_neg e]at hi';exact ha i hi'
theorem NoneWith.deep{m:Nat}{l:Int}(hm:m<S.length)(hu:stS S m=false)(h:NoneAt E (setS S m l true) P (c-(if l≠-1 then(plS S m:Int)else 0))):NoneWith E S P c m l:=by
 intro X hr ha hx hc hf
 have:=h X hr (fun i hi'=>by
  rw[setS_st _ _ _ _ hm]at hi';rw[setS_lk _ _ _ _ hm]
  split
  ·next e=>rw[e];exact hx
  ·next e=>rw[if_neg e]at hi';exact ha i hi') (hc.bs (setS_bs S m l true)) (hf.bs (setS_bs S m l true))
 rw[cost_with hm hu l X,hx];rw[setS_len,csX_congr (K':=plS S) (u':=fun i=>!stS (setS S m l true) i) (X':=X) _ (fun i _=>⟨plS_bs (setS_bs S m l true) i,rfl,rfl⟩)]at this
 by_cases e:l=-1
 ·simp only[e,ne_eq,not_true_eq_false,if_false]at this ⊢;simp at this ⊢;exact this
 ·simp only[ne_eq,e,not_false_eq_true,if_true]at this ⊢
  push_cast;omega
theorem Found.deep{S':List SP}{m:Nat}{l:Int}(hm:m<S.length)(hu:stS S m=false)(h:Found E (setS S m l true) S' P (c-(if l≠-1 then(plS S m:Int)else 0))):Found E S S' P c:=by
 obtain⟨h1,h2,h3,h4,h5,h6⟩:=h;have hk:=h3 m (by rw[setS_st _ _ _ _ hm,if_pos rfl]);rw[setS_lk _ _ _ _ hm,if_pos rfl]at hk;refine⟨h1.trans (setS_bs S m l true),h2,fun i hi=>?_,h4,h5,?_⟩
 ·have hne:i≠m:=fun e=>by rw[e,hu]at hi;cases hi
  have:=h3 i (by rw[setS_st _ _ _ _ hm,if_neg hne];exact hi);rw[setS_lk _ _ _ _ hm,if_neg hne]at this;exact this
 ·rw[cost_with hm hu l (lkS S'),hk.2];rw[setS_len,csX_congr (K':=plS S) (u':=fun i=>!stS (setS S m l true) i) (X':=lkS S') _ (fun i _=>⟨plS_bs (setS_bs S m l true) i,rfl,rfl⟩)]at h6
  by_cases e:l=-1
  ·simp only[e,ne_eq,not_true_eq_false,if_false]at h6 ⊢;simp at h6 ⊢;exact h6
  ·simp only[ne_eq,e,not_false_eq_true,if_true]at h6 ⊢
   push_cast;omega
theorem NoneAt.all{m:Nat}(h:∀l,-1≤l→l<5→NoneWith E S P c m l):NoneAt E S P c:=fun X hr ha hc hf=>h (X m) (hr m).1 (hr m).2 X hr ha rfl hc hf
theorem Found.here(hi:InvS S P)(hf:FairX E S (lkS S))(hc:∀p∈P,opS S p=false)(h0:0≤c):Found E S S P c:=by
 refine⟨rfl,hi,fun i h=>⟨h,rfl⟩,fun p hp a b ha hb=>?_,hf,?_⟩
 ·have:=hc p hp;rw[opS,ha,hb]at this;rw[lkS,lkS,ha,hb];simpa using this
 ·have:∀n,csX (plS S) (fun i=>!stS S i) (lkS S) n=0:=by
   intro n
   induction n with
   | zero=>rfl
   | succ n ih=>
    rw[csX,ih];cases hs:stS S n with
    | true=>simp
    | false=>simp[hi.bare n hs]
  rw[this];exact h0
end
def addSp:List SP→ST→List SP
 | [],m=>[⟨m,[m.place],-1,false⟩]
 | s::r,m=>if alkB s.acc m=true then{ s with pls:=s.pls++[m.place] }::r else s::addSp r m
def spots(A:List ST):List SP:=A.foldl addSp []
def clS(S:List SP)(m:ST):Nat:=S.findIdx fun s=>alkB s.acc m
theorem alkB_iff(a b:ST):alkB a b=true↔a.thread=b.thread∧a.kind=b.kind∧a.num=b.num∧a.h0=b.h0∧a.h1=b.h1∧a.h2=b.h2∧a.h3=b.h3∧a.h4=b.h4:=by
 simp only[alkB,Bool.and_eq_true,beq_iff_eq]
theorem alkB_refl(a:ST):alkB a a=true:=by rw[alkB_iff];exact⟨rfl,rfl,rfl,rfl,rfl,rfl,rfl,rfl⟩
theorem alkB_h{a b:ST}(h:alkB a b=true):hOfT a=hOfT b:=by
 obtain⟨_,_,_,h0,h1,h2,h3,h4⟩:=(alkB_iff a b).1 h
 funext i
 match i with
 | 0=>exact h0
 | 1=>exact h1
 | 2=>exact h2
 | 3=>exact h3
 | _+4=>exact h4
theorem addSp_len(m:ST):∀S:List SP,(addSp S m).length=if clS S m<S.length then S.length else S.length+1:=by
 intro S
 induction S with
 | nil=>rfl
 | cons s r ih=>
  rw[addSp,clS,List.findIdx_cons];cases h:alkB s.acc m with
  | true=>simp
  | false=>
   simp only[cond_false,List.length_cons,Bool.false_eq_true,if_false];rw[ih,clS]
   by_cases h':List.findIdx (fun s=>alkB s.acc m) r<r.length
   ·rw[if_pos h',if_pos (by omega)]
   ·rw[if_neg h',if_neg (by omega)]
theorem addSp_get(m:ST):∀(S:List SP) (i:Nat) (s:SP),S[i]?=some s→(addSp S m)[i]?=some (if clS S m=i then{ s with pls:=s.pls++[m.place] }else s):=by
 intro S
 induction S with
 | nil=>intro i s h;simp at h
 | cons t r ih=>
  intro i s h;rw[addSp,clS,List.findIdx_cons];cases ht:alkB t.acc m with
  | true=>
   simp only[cond_true,if_true];cases i with
   | zero=>simp at h;subst h;simp
   | succ i=>simp at h;simp[h]
  | false=>
   simp only[cond_false,Bool.false_eq_true,if_false];cases i with
   | zero=>simp at h;subst h;simp
   | succ i=>
    simp only[List.getElem?_cons_succ]at h ⊢;rw[ih i s h,clS]
    congr 1
    simp
theorem addSp_new(m:ST):∀(S:List SP),clS S m=S.length→(addSp S m)[S.length]?=some ⟨m,[m.place],-1,false⟩:=by
 intro S
 induction S with
 | nil=>intro _;rfl
 | cons t r ih=>
  intro h;rw[clS,List.findIdx_cons]at h;rw[addSp];cases ht:alkB t.acc m with
  | true=>rw[ht]at h;simp at h
  | false=>
   rw[ht]at h;simp only[cond_false,List.length_cons]at h;simp only[Bool.false_eq_true,if_false,List.length_cons,List.getElem?_cons_succ];exact ih (by rw[clS];omega)
theorem clS_le(S:List SP)(m:ST):clS S m≤S.length:=List.findIdx_le_length
theorem clS_get{S:List SP}{m:ST}(h:clS S m<S.length):∃s,S[clS S m]?=some s∧alkB s.acc m=true:=by
 refine⟨S[clS S m],List.getElem?_eq_getElem h,?_⟩;exact List.findIdx_getElem (w:=h)
structure SpI(A:List ST)(S:List SP):Prop where
 un:∀(i:Nat) (s:SP),S[i]?=some s→s.lock=-1∧s.set=false
 mem:∀m∈A,clS S m<S.length
 rep:∀(i:Nat) (s:SP),S[i]?=some s→s.acc∈A∧clS S s.acc=i
 pls:∀(i:Nat) (s:SP),S[i]?=some s→s.pls=(A.filter fun m=>clS S m==i).map ST.place
theorem clS_add(m x:ST):∀S:List SP,clS S x<S.length→clS (addSp S m) x=clS S x:=by
 intro S
 induction S with
 | nil=>intro h;exact absurd h (Nat.not_lt_zero _)
 | cons t r ih=>
  intro h;rw[clS,List.findIdx_cons]at h;rw[addSp];cases ht:alkB t.acc m with
  | true=>simp[clS,List.findIdx_cons]
  | false=>
   simp only[Bool.false_eq_true,if_false];rw[clS,clS,List.findIdx_cons,List.findIdx_cons];cases hx:alkB t.acc x with
   | true=>rfl
   | false=>
    rw[hx]at h;simp only[cond_false,List.length_cons]at h ⊢;have:=ih (by rw[clS];omega);rw[clS,clS]at this;rw[this]
theorem clS_addNew(m:ST):∀S:List SP,clS S m=S.length→clS (addSp S m) m=S.length:=by
 intro S
 induction S with
 | nil=>intro _;simp[addSp,clS,List.findIdx_cons,alkB_refl]
 | cons t r ih=>
  intro h;rw[clS,List.findIdx_cons]at h;rw[addSp];cases ht:alkB t.acc m with
  | true=>rw[ht]at h;simp at h
  | false=>
   rw[ht]at h;simp only[cond_false,List.length_cons]at h;simp only[Bool.false_eq_true,if_false];rw[clS,List.findIdx_cons,ht];have:=ih (by rw[clS];omega);rw[clS]at this;simp only[cond_false,List.length_cons];rw[this]
theorem SpI.snoc{A:List ST}{S:List SP}(h:SpI A S)(m:ST):SpI (A++[m]) (addSp S m):=by
 have hcl:∀x∈A,clS (addSp S m) x=clS S x:=fun x hx=>clS_add m x S (h.mem x hx)
 have hfil:∀i,(A.filter fun x=>clS (addSp S m) x==i)=A.filter fun x=>clS S x==i:=fun i=>List.filter_congr fun x hx=>by rw[hcl x hx]
 by_cases hm:clS S m<S.length
 ·have hlen:(addSp S m).length=S.length:=by rw[addSp_len,if_pos hm]
  have hcm:clS (addSp S m) m=clS S m:=clS_add m m S hm;have hget:∀(i:Nat) (s:SP),(addSp S m)[i]?=some s→∃s',S[i]?=some s'∧s=(if clS S m=i then{ s' with pls:=s'.pls++[m.place] }else s'):=fun i s hs=>by
   have hi:=(List.getElem?_eq_some_iff.1 hs).1;rw[hlen]at hi;have:=addSp_get m S i _ (List.getElem?_eq_getElem hi);rw[hs]at this;exact⟨_,List.getElem?_eq_getElem hi,Option.some.inj this⟩
  refine⟨fun i s hs=>?_,fun x hx=>?_,fun i s hs=>?_,fun i s hs=>?_⟩
  ·obtain⟨s',hs',rfl⟩:=hget i s hs;have:=h.un i s' hs'
   split<;>exact this
  ·rw[hlen];rcases List.mem_append.1 hx with hx|hx
   ·rw[hcl x hx];exact h.mem x hx
   ·simp at hx;subst hx;rw[hcm];exact hm
  ·obtain⟨s',hs',rfl⟩:=hget i s hs;obtain⟨r1,r2⟩:=h.rep i s' hs';have:(if clS S m=i then{ s' with pls:=s'.pls++[m.place] }else s').acc=s'.acc:=by split<;>rfl
   rw[this];exact⟨List.mem_append_left _ r1,by rw[hcl _ r1];exact r2⟩
  ·obtain⟨s',hs',rfl⟩:=hget i s hs;have r:=h.pls i s' hs';rw[List.filter_append,hfil,List.map_append,←r]
   by_cases e:clS S m=i
   ·rw[if_pos e];simp[hcm,e]
   ·rw[if_neg e];simp[hcm,e]
 ·have hmn:clS S m=S.length:=Nat.le_antisymm (clS_le S m) (by omega);have hlen:(addSp S m).length=S.length+1:=by rw[addSp_len,if_neg hm]
  have hcm:clS (addSp S m) m=S.length:=clS_addNew m S hmn;have hget:∀(i:Nat) (s:SP),(addSp S m)[i]?=some s→(S[i]?=some s)∨(i=S.length∧s=⟨m,[m.place],-1,false⟩):=fun i s hs=>by
   have hi:=(List.getElem?_eq_some_iff.1 hs).1;rw[hlen]at hi
   by_cases hil:i<S.length
   ·have:=addSp_get m S i _ (List.getElem?_eq_getElem hil);rw[hs,if_neg (by omega)]at this;left;rw[this];exact List.getElem?_eq_getElem hil
   ·have:i=S.length:=by omega
    subst this;rw[addSp_new m S hmn]at hs;exact .inr ⟨rfl,(Option.some.inj hs).symm⟩
  refine⟨fun i s hs=>?_,fun x hx=>?_,fun i s hs=>?_,fun i s hs=>?_⟩
  ·rcases hget i s hs with hs|⟨_,rfl⟩
   ·exact h.un i s hs
   ·exact⟨rfl,rfl⟩
  ·rw[hlen];rcases List.mem_append.1 hx with hx|hx
   ·rw[hcl x hx];have:=h.mem x hx;omega
   ·simp at hx;subst hx;rw[hcm];omega
  ·rcases hget i s hs with hs|⟨rfl,rfl⟩
   ·obtain⟨r1,r2⟩:=h.rep i s hs;exact⟨List.mem_append_left _ r1,by rw[hcl _ r1];exact r2⟩
   ·exact⟨by simp,hcm⟩
  ·rw[List.filter_append,hfil,List.map_append];rcases hget i s hs with hs|⟨rfl,rfl⟩
   ·have hil:=(List.getElem?_eq_some_iff.1 hs).1;rw[←h.pls i s hs];have:(S.length==i)=false:=by simp;omega
    simp[hcm,this]
   ·have:(A.filter fun x=>clS S x==S.length)=[]:=by
     rw[List.filter_eq_nil_iff];intro x hx;have:=h.mem x hx;simp;omega
    rw[this];simp[hcm]
theorem spots_snoc(A:List ST)(m:ST):spots (A++[m])=addSp (spots A) m:=by simp[spots]
theorem spots_ok(A:List ST):SpI A (spots A):=by
 have key:∀n (A:List ST),A.length=n→SpI A (spots A):=by
  intro n
  induction n with
  | zero=>
   intro A hA;have:A=[]:=List.length_eq_zero_iff.1 hA;subst this;refine⟨fun i s h=>?_,fun m hm=>?_,fun i s h=>?_,fun i s h=>?_⟩
   ·simp[spots]at h
   ·simp at hm
   ·simp[spots]at h
   ·simp[spots]at h
  | succ n ih=>
   intro A hA;have hne:A≠[]:=fun e=>by subst e;simp at hA
   have e:=List.dropLast_concat_getLast hne;rw[←e,spots_snoc];exact(ih A.dropLast (by simp;omega)).snoc _
 exact key _ A rfl
theorem spots_len(A:List ST):(spots A).length≤A.length:=by
 have key:∀n (A:List ST),A.length=n→(spots A).length≤A.length:=by
  intro n
  induction n with
  | zero=>intro A hA;rw[List.length_eq_zero_iff.1 hA];exact Nat.le_refl _
  | succ n ih=>
   intro A hA;have hne:A≠[]:=fun e=>by subst e;simp at hA
   have e:=List.dropLast_concat_getLast hne;have:=ih A.dropLast (by simp;omega);rw[←e,spots_snoc,addSp_len,List.length_append]
   split<;>simp<;>simp at this<;>omega
 exact key _ A rfl
theorem cost_filter{A:List ST}{S:List SP}(h:SpI A S)(X:Nat→Int):csX (plS S) (fun i=>!stS S i) X S.length=(A.filter fun m=>X (clS S m) != -1).length:=by
 have key:∀n,n≤S.length→csX (plS S) (fun i=>!stS S i) X n=(A.filter fun m=>decide (clS S m<n)&&X (clS S m) != -1).length:=by
  intro n
  induction n with
  | zero=>
   intro _;have:(A.filter fun m=>decide (clS S m<0)&&X (clS S m) != -1)=[]:=by
    rw[List.filter_eq_nil_iff];intro x _;simp
   rw[this];rfl
  | succ n ih=>
   intro hn;have hs:=List.getElem?_eq_getElem (show n<S.length by omega);have h1:stS S n=false:=by rw[stS,hs];exact(h.un n _ hs).2
   have h2:plS S n=(A.filter fun m=>clS S m==n).length:=by rw[plS,hs];simp only;rw[h.pls n _ hs,List.length_map]
   rw[csX,ih (by omega),h1,h2];have add:∀L:List ST,(L.filter fun m=>decide (clS S m<n)&&X (clS S m) != -1).length+(if (!false&&X n != -1)=true then(L.filter fun m=>clS S m==n).length else 0)=(L.filter fun m=>decide (clS S m<n+1)&&X (clS S m) != -1).length:=by
    intro L
    induction L with
    | nil=>simp
    | cons x r ihr=>
     simp only[List.filter_cons]
     by_cases hx:clS S x=n
     ·have e1:decide (clS S x<n)=false:=by simp;omega
      have e2:decide (clS S x<n+1)=true:=by simp;omega
      have e3:(clS S x==n)=true:=by simpa using hx
      rw[e1,e2,e3,hx]
      by_cases hX:X n=-1
      ·simp only[hX]at ihr ⊢;simpa using ihr
      ·have:(X n != -1)=true:=by simpa using hX
       simp only[this,Bool.not_false,Bool.and_self,if_true,Bool.false_and,Bool.false_eq_true,if_false,List.length_cons]at ihr ⊢;omega
     ·have e3:(clS S x==n)=false:=by simpa using hx
      have e1:decide (clS S x<n+1)=decide (clS S x<n):=by rw[decide_eq_decide];omega
      rw[e3,e1]
      by_cases hX:(decide (clS S x<n)&&X (clS S x) != -1)=true
      ·simp only[hX,if_true,List.length_cons,Bool.false_eq_true,if_false]at ihr ⊢;omega
      ·simp only[hX,Bool.false_eq_true,if_false]at ihr ⊢;omega
   exact add A
 rw[key _ (Nat.le_refl _)]
 congr 1
 apply List.filter_congr;intro m hm;have:=h.mem m hm;simp[this]
theorem cst_filter(P:ST→Bool):∀(A:List ST) (ch:Nat→Option UInt8) (k:Nat),(∀j m,A[j]?=some m→((ch (k+j)).isSome=P m))→cst ch k A.length=(A.filter P).length:=by
 intro A
 induction A with
 | nil=>intro ch k _;rfl
 | cons x r ih=>
  intro ch k h;have h0:=h 0 x rfl;rw[Nat.add_zero]at h0;have:=ih ch (k+1) (fun j m hj=>by rw[show k+1+j=k+(j+1) by omega];exact h (j+1) m (by simpa using hj));rw[List.length_cons,cst,this,h0,List.filter_cons];cases P x<;>simp<;>omega
theorem cst_filter_le(P:ST→Bool):∀(A:List ST) (ch:Nat→Option UInt8) (k:Nat),(∀j m,A[j]?=some m→P m=true→(ch (k+j)).isSome=true)→(A.filter P).length≤cst ch k A.length:=by
 intro A
 induction A with
 | nil=>intro ch k _;exact Nat.le_refl _
 | cons x r ih=>
  intro ch k h;have h0:=h 0 x rfl;rw[Nat.add_zero]at h0;have:=ih ch (k+1) (fun j m hj=>by rw[show k+1+j=k+(j+1) by omega];exact h (j+1) m (by simpa using hj));rw[List.length_cons,cst,List.filter_cons];cases hP:P x with
  | false=>simp;omega
  | true=>rw[h0 hP];simp;omega
def chX(A:List ST)(S:List SP)(X:Nat→Int)(k:Nat):Option UInt8:=match A[k]? with
 | some m=>if X (clS S m)=-1 then none else some (UInt8.ofNat (65+(X (clS S m)).toNat))
 | none=>none
theorem chX_cost{A:List ST}{S:List SP}(h:SpI A S)(X:Nat→Int):cst (chX A S X) 0 A.length=csX (plS S) (fun i=>!stS S i) X S.length:=by
 rw[cost_filter h,cst_filter (fun m=>X (clS S m) != -1)];intro j m hj;rw[Nat.zero_add,chX,hj];simp only
 by_cases e:X (clS S m)=-1
 ·rw[if_pos e];simp[e]
 ·rw[if_neg e];simp[e]
def locU:Option UInt8→Int
 | none=>-1
 | some l=>(l.toNat:Int)-65
theorem pick_spots{A:List ST}{S:List SP}(h:SpI A S)(ch:Nat→Option UInt8)(hr:∀k l,k<A.length→ch k=some l→inU [65,66,67,68,69] l=true) :
  ∃X,RngX X∧(∀i,i<S.length→∃k m,A[k]?=some m∧clS S m=i∧X i=locU (ch k))∧csX (plS S) (fun i=>!stS S i) X S.length≤cst ch 0 A.length:=by
 have ex:∀i,∃x:Int,(i<S.length→∃k m,A[k]?=some m∧clS S m=i∧x=locU (ch k))∧(i<S.length→x≠-1→∀k m,A[k]?=some m→clS S m=i→ch k≠none)∧(S.length≤i→x=-1):=by
  intro i
  by_cases hi:i<S.length
  ·by_cases hb:∃k m,A[k]?=some m∧clS S m=i∧ch k=none
   ·obtain⟨k,m,h1,h2,h3⟩:=hb;exact⟨-1,fun _=>⟨k,m,h1,h2,by rw[h3];rfl⟩,fun _ hne=>absurd rfl hne,fun _=>rfl⟩
   ·have hs:=List.getElem?_eq_getElem hi;obtain⟨r1,r2⟩:=h.rep i _ hs;obtain⟨k,hk⟩:=List.getElem?_of_mem r1;exact⟨locU (ch k),fun _=>⟨k,_,hk,r2,rfl⟩,fun _ _ k' m' h1 h2 h3=>hb ⟨k',m',h1,h2,h3⟩,fun hge=>by omega⟩
  ·exact⟨-1,fun h=>absurd h hi,fun h=>absurd h hi,fun _=>rfl⟩
 obtain⟨X,hX⟩:=Classical.axiomOfChoice ex;refine⟨X,fun i=>?_,fun i hi=>(hX i).1 hi,?_⟩
 ·by_cases hi:i<S.length
  ·obtain⟨k,m,h1,_,h3⟩:=(hX i).1 hi;rw[h3];cases hc:ch k with
   | none=>simp[locU]
   | some l=>
    have:=hr k l (List.getElem?_eq_some_iff.1 h1).1 hc;rw[inU_mem]at this;simp only[List.mem_cons,List.not_mem_nil,or_false]at this;rcases this with rfl|rfl|rfl|rfl|rfl<;>decide
  ·rw[(hX i).2.2 (by omega)];decide
 ·rw[cost_filter h];refine cst_filter_le _ A ch 0 fun j m hj hP=>?_
  rw[Nat.zero_add];have:=(hX (clS S m)).2.1 (h.mem m (List.mem_of_getElem? hj)) (by simpa using hP) j m hj rfl;cases hc:ch j with
  | none=>exact absurd hc this
  | some l=>rfl
def lkU(n:Nat):UInt8:=UInt8.ofNat (65+n)
theorem lkU_nat{n:Nat}(h:n<5):(lkU n).toNat=65+n:=by
 have:n=0∨n=1∨n=2∨n=3∨n=4:=by omega
 rcases this with rfl|rfl|rfl|rfl|rfl<;>rfl
theorem lkU_inj{a b:Nat}(ha:a<5)(hb:b<5)(h:lkU a=lkU b):a=b:=by
 have:=congrArg UInt8.toNat h;rw[lkU_nat ha,lkU_nat hb]at this;omega
theorem lkU_of{a:UInt8}(h:inU [65,66,67,68,69] a=true):∃n,n<5∧a=lkU n:=by
 rw[inU_mem]at h;simp only[List.mem_cons,List.not_mem_nil,or_false]at h;rcases h with rfl|rfl|rfl|rfl|rfl
 ·exact⟨0,by decide,rfl⟩
 ·exact⟨1,by decide,rfl⟩
 ·exact⟨2,by decide,rfl⟩
 ·exact⟨3,by decide,rfl⟩
 ·exact⟨4,by decide,rfl⟩
theorem lkU_in{n:Nat}(h:n<5):inU [65,66,67,68,69] (lkU n)=true:=by
 have:n=0∨n=1∨n=2∨n=3∨n=4:=by omega
 rcases this with rfl|rfl|rfl|rfl|rfl<;>rfl
theorem mark_h{m:ST}{x:Int×UInt8×UInt8×List UInt8}(h:MarkOf (mkAcc m) x){l:Nat}(hl:l<5):hOfT m l=true↔lkU l∈x.2.2.2:=by
 obtain⟨_,_,_,h0,h1,h2,h3,h4⟩:=h;simp only[mkAcc]at h0 h1 h2 h3 h4;rw[←inU_mem];have:l=0∨l=1∨l=2∨l=3∨l=4:=by omega
 rcases this with rfl|rfl|rfl|rfl|rfl
 ·show m.h0=true↔inU _ 65=true;rw[h0]
 ·show m.h1=true↔inU _ 66=true;rw[h1]
 ·show m.h2=true↔inU _ 67=true;rw[h2]
 ·show m.h3=true↔inU _ 68=true;rw[h3]
 ·show m.h4=true↔inU _ 69=true;rw[h4]
abbrev AC:=Int×UInt8×UInt8×List UInt8
abbrev TA:=UInt8×UInt8×List UInt8
def layX(o:Option UInt8)(x:AC):AC:=match o with|some l=>(x.1,x.2.1,x.2.2.1,x.2.2.2++[l])|none=>x
theorem layA_mem(ch:Nat→Option UInt8)(y:AC):∀(L:List AC) (k:Nat),y∈layA ch k L↔∃j x,L[j]?=some x∧y=layX (ch (k+j)) x:=by
 intro L
 induction L with
 | nil=>intro k;simp[layA]
 | cons z r ih=>
  intro k;rw[layA,List.mem_cons,ih];constructor
  ·rintro(h|⟨j,x,h1,h2⟩)
   ·exact⟨0,z,rfl,by rw[h];rfl⟩
   ·exact⟨j+1,x,by simpa using h1,by rw[h2,show k+1+j=k+(j+1) by omega]⟩
  ·rintro⟨j,x,h1,h2⟩;cases j with
   | zero=>simp at h1;subst h1;exact .inl h2
   | succ j=>exact .inr ⟨j,x,by simpa using h1,by rw[h2,show k+1+j=k+(j+1) by omega]⟩
theorem layT_mem(ch:Nat→Option UInt8)(y:TA):∀(L:List AC) (k:Nat),y∈layT ch k L↔∃j x l,L[j]?=some x∧ch (k+j)=some l∧y=(60,l,x.2.2.2):=by
 intro L
 induction L with
 | nil=>intro k;simp[layT]
 | cons z r ih=>
  intro k;rw[layT,List.mem_append,ih];constructor
  ·rintro(h|⟨j,x,l,h1,h2,h3⟩)
   ·cases hc:ch k with
    | none=>rw[hc]at h;simp at h
    | some l=>rw[hc]at h;simp at h;exact⟨0,z,l,rfl,hc,h⟩
   ·exact⟨j+1,x,l,by simpa using h1,by rw[←h2,show k+1+j=k+(j+1) by omega],h3⟩
  ·rintro⟨j,x,l,h1,h2,h3⟩;cases j with
   | zero=>simp at h1;subst h1;left;rw[Nat.add_zero]at h2;rw[h2,h3];simp
   | succ j=>exact .inr ⟨j,x,l,by simpa using h1,by rw[←h2,show k+1+j=k+(j+1) by omega],h3⟩
structure SpOk(A:List ST)(L:List AC)(T:List TA)(E:Nat→Nat→Bool)(S:List SP)(P:List (Nat×Nat)):Prop where
 sp:SpI A S
 len:A.length=L.length
 mrk:∀(k:Nat) (m:ST) (x:AC),A[k]?=some m→L[k]?=some x→MarkOf (mkAcc m) x
 lk:∀x∈L,∀l∈x.2.2.2,inU [65,66,67,68,69] l=true
 tk:∀x∈T,inU [65,66,67,68,69] x.2.1=true∧∀l∈x.2.2,inU [65,66,67,68,69] l=true
 no:∀x∈T,x.1≠60
 l4:∀x∈L,(69:UInt8)∉x.2.2.2
 t4:∀x∈T,(69:UInt8)∉x.2.2
 ed:∀a b,a<5→b<5→(E a b=true↔edgeT (fun x=>x∈T) (lkU a) (lkU b))
 pr:∀p:Nat×Nat,p∈P↔p.1<p.2∧∃a b,S[p.1]?=some a∧S[p.2]?=some b∧opMK (mkAcc a.acc) (mkAcc b.acc)=true
section
variable {A : List ST} {L : List AC} {T : List TA} {E : Nat → Nat → Bool} {S : List SP} {P : List (Nat × Nat)}
theorem SpOk.spot(h:SpOk A L T E S P){k:Nat}{x:AC}(hx:L[k]?=some x):∃m s,A[k]?=some m∧MarkOf (mkAcc m) x∧S[clS S m]?=some s∧alkB s.acc m=true∧clS S m<S.length:=by
 have hk:=(List.getElem?_eq_some_iff.1 hx).1;rw[←h.len]at hk;have hm:=List.getElem?_eq_getElem hk;have hc:=h.sp.mem _ (List.mem_of_getElem? hm);obtain⟨s,hs,ha⟩:=clS_get hc;exact⟨_,s,hm,h.mrk k _ x hm hx,hs,ha,hc⟩
theorem opMK_symm(a b:MK):opMK a b=opMK b a:=by
 have e1:meetB (hOf a) (hOf b)=meetB (hOf b) (hOf a):=by
  rw[meetB,meetB];congr 1;funext i;rw[Bool.and_comm]
 have e2:(a.thread != b.thread)=(b.thread != a.thread):=by
  rw[Bool.eq_iff_iff,bne_iff_ne,bne_iff_ne];exact⟨fun h e=>h e.symm,fun h e=>h e.symm⟩
 have e3:(a.num==b.num)=(b.num==a.num):=by
  rw[Bool.eq_iff_iff,beq_iff_eq,beq_iff_eq];exact⟨fun h=>h.symm,fun h=>h.symm⟩
 rw[opMK,opMK,e1,e2,e3,Bool.or_comm (a.kind==2)]
theorem mtB_symm(a b:ST)(x y:Int):mtB a b x y=mtB b a y x:=by
 rw[mtB,mtB];congr 1;funext i;rw[Bool.and_comm]
theorem opMK_alk{a b c d:ST}(h1:alkB a c=true)(h2:alkB b d=true):opMK (mkAcc a) (mkAcc b)=opMK (mkAcc c) (mkAcc d):=by
 have q1:=alkB_h h1;have q2:=alkB_h h2;rw[alkB_iff]at h1 h2;rw[opMK,opMK,←hOfT_mk,←hOfT_mk,←hOfT_mk,←hOfT_mk,q1,q2];simp only[mkAcc];rw[h1.1,h1.2.1,h1.2.2.1,h2.1,h2.2.1,h2.2.2.1]
theorem mtB_iff(a b:ST)(x y:Int):mtB a b x y=true↔∃l,l<5∧(hOfT a l=true∨x=(l:Int))∧(hOfT b l=true∨y=(l:Int)):=by
 rw[mtB,List.any_eq_true];constructor
 ·rintro⟨l,h1,h2⟩;simp only[List.mem_range]at h1;simp only[Bool.and_eq_true,Bool.or_eq_true,beq_iff_eq]at h2;exact⟨l,h1,h2⟩
 ·rintro⟨l,h1,h2⟩;refine⟨l,by simpa using h1,?_⟩;simpa only[Bool.and_eq_true,Bool.or_eq_true,beq_iff_eq]using h2
theorem chX_some{X:Nat→Int}(hr:RngX X){k:Nat}{m:ST}{l:UInt8}(hm:A[k]?=some m)(hl:chX A S X k=some l):0≤X (clS S m)∧(X (clS S m)).toNat<5∧l=lkU (X (clS S m)).toNat:=by
 rw[chX,hm]at hl;simp only at hl;have:=hr (clS S m)
 by_cases e:X (clS S m)=-1
 ·rw[if_pos e]at hl;cases hl
 ·rw[if_neg e]at hl;exact⟨by omega,by omega,(Option.some.inj hl).symm⟩
theorem edX_iff(X:Nat→Int)(n a b:Nat):edX E S X n a b=true↔E a b=true∨∃i s,i<n∧S[i]?=some s∧hOfT s.acc a=true∧X i=(b:Int):=by
 rw[edX,Bool.or_eq_true,List.any_eq_true];constructor
 ·rintro(h|⟨i,h1,h2⟩)
  ·exact .inl h
  ·right;cases hs:S[i]? with
   | none=>rw[hs]at h2;cases h2
   | some s=>
    rw[hs]at h2;simp only[Bool.and_eq_true,beq_iff_eq]at h2;exact⟨i,s,by simpa using h1,hs,h2.1,h2.2⟩
 ·rintro(h|⟨i,s,h1,h2,h3,h4⟩)
  ·exact .inl h
  ·right;refine⟨i,by simpa using h1,?_⟩;rw[h2];simp[h3,h4]
theorem SpOk.good(h:SpOk A L T E S P){X:Nat→Int}(hr:RngX X)(hc:ClosedX S P X)(hf:FairX E S X):GoodC L T (chX A S X):=by
 have hedge:∀a b,edgeT (fun x=>x∈T∨x∈layT (chX A S X) 0 L) a b→∃i j,i<5∧j<5∧a=lkU i∧b=lkU j∧edX E S X S.length i j=true:=by
  rintro a b ⟨c,H,ht|ht,ha⟩
  ·obtain⟨q1,q2⟩:=h.tk _ ht;obtain⟨i,hi,rfl⟩:=lkU_of (q2 a ha);obtain⟨j,hj,e⟩:=lkU_of q1;simp only at e;subst e;exact⟨i,j,hi,hj,rfl,rfl,(edX_iff _ _ _ _).2 (.inl ((h.ed i j hi hj).2 ⟨c,H,ht,ha⟩))⟩
  ·obtain⟨k,x,l,h1,h2,h3⟩:=(layT_mem _ _ L 0).1 ht;simp only[Prod.mk.injEq]at h3;obtain⟨_,rfl,rfl⟩:=h3;rw[Nat.zero_add]at h2;obtain⟨m,s,hm,hmk,hs,halk,hcl⟩:=h.spot h1;obtain⟨x0,x5,rfl⟩:=chX_some hr hm h2;obtain⟨i,hi,rfl⟩:=lkU_of (h.lk x (List.mem_of_getElem? h1) a ha);refine⟨i,_,hi,x5,rfl,rfl,(edX_iff _ _ _ _).2 (.inr ⟨_,s,hcl,hs,?_,by omega⟩)⟩;rw[alkB_h halk];exact(mark_h hmk hi).2 ha
 have hway:∀{a b:UInt8},Way (fun x=>x∈T∨x∈layT (chX A S X) 0 L) a b→∃i j,i<5∧j<5∧a=lkU i∧b=lkU j∧WayN 5 (edX E S X S.length) i j:=by
  intro a b hw
  induction hw with
  | one he=>
   obtain⟨i,j,hi,hj,ea,eb,he⟩:=hedge _ _ he;exact⟨i,j,hi,hj,ea,eb,.one hi hj he⟩
  | more _ he ih=>
   obtain⟨i,j,hi,hj,ea,eb,hw⟩:=ih;obtain⟨j',k,hj',hk,eb',ec,he⟩:=hedge _ _ he;have:=lkU_inj hj hj' (eb.symm.trans eb');subst this;exact⟨i,k,hi,hk,ea,ec,.more hw hk he⟩
 refine⟨?_,?_,?_⟩
 ·intro j x l hx hl;rw[Nat.zero_add]at hl;obtain⟨m,s,hm,hmk,hs,halk,hcl⟩:=h.spot hx;obtain⟨x0,x5,rfl⟩:=chX_some hr hm hl;refine⟨lkU_in x5,fun hin=>?_⟩;have hh:hOfT s.acc (X (clS S m)).toNat=true:=by rw[alkB_h halk];exact(mark_h hmk x5).2 hin
  exact hf _ s hs x0 _ x5 hh (.one x5 x5 ((edX_iff _ _ _ _).2 (.inr ⟨_,s,hcl,hs,hh,by omega⟩)))
 ·intro x' hx' y' hy' hth hv hput;obtain⟨k,x,h1,rfl⟩:=(layA_mem _ _ L 0).1 hx';obtain⟨k',y,h1',rfl⟩:=(layA_mem _ _ L 0).1 hy';rw[Nat.zero_add]at hth hv hput ⊢;rw[Nat.zero_add]at hth hv hput ⊢;obtain⟨m,s,hm,hmk,hs,halk,hcl⟩:=h.spot h1;obtain⟨m',s',hm',hmk',hs',halk',hcl'⟩:=h.spot h1';have e1:∀o (z:AC),(layX o z).1=z.1∧(layX o z).2.1=z.2.1∧(layX o z).2.2.1=z.2.2.1∧∀l∈z.2.2.2,l∈(layX o z).2.2.2:=fun o z=>by
   cases o with
   | none=>exact⟨rfl,rfl,rfl,fun l hl=>hl⟩
   | some l=>exact⟨rfl,rfl,rfl,fun l hl=>List.mem_append_left _ hl⟩
  rw[(e1 _ x).1,(e1 _ y).1]at hth;rw[(e1 _ x).2.2.1,(e1 _ y).2.2.1]at hv;rw[(e1 _ x).2.1,(e1 _ y).2.1]at hput;have inX:∀{k:Nat} {m:ST} {s:SP} {x:AC} {l:Nat},A[k]?=some m→MarkOf (mkAcc m) x→S[clS S m]?=some s→alkB s.acc m=true→l<5→(hOfT s.acc l=true∨X (clS S m)=(l:Int))→lkU l∈(layX (chX A S X k) x).2.2.2:=by
   intro k m s x l hm hmk hs halk hl hor;rcases hor with hh|hh
   ·exact(e1 _ x).2.2.2 _ ((mark_h hmk hl).1 (by rw[←alkB_h halk];exact hh))
   ·have:chX A S X k=some (lkU l):=by
     rw[chX,hm];simp only;rw[if_neg (by omega),hh];rfl
    rw[this];exact List.mem_append_right _ (by simp)
  have hcon:(m.thread != m'.thread)=true∧(m.num==m'.num)=true∧(m.kind==2||m'.kind==2)=true:=by
   have a1:=hmk.1;have a2:=hmk.2.1;have a3:=hmk.2.2.1;have b1:=hmk'.1;have b2:=hmk'.2.1;have b3:=hmk'.2.2.1;simp only[mkAcc]at a1 a2 a3 b1 b2 b3;refine⟨by simp only[bne_iff_ne];rw[a1,b1];exact hth,by simp only[beq_iff_eq];rw[a3,b3,hv],?_⟩;rw[a2,b2];rcases hput with e|e
   ·rw[if_pos e];rfl
   ·rw[if_pos e];simp
  by_cases hmeet:meetB (hOfT m) (hOfT m')=true
  ·rw[meetB,List.any_eq_true]at hmeet;obtain⟨l,hl,hll⟩:=hmeet;simp only[List.mem_range]at hl;simp only[Bool.and_eq_true]at hll;exact⟨lkU l,lkU_in hl,(e1 _ x).2.2.2 _ ((mark_h hmk hl).1 hll.1),(e1 _ y).2.2.2 _ ((mark_h hmk' hl).1 hll.2)⟩
  ·have hop:opMK (mkAcc m) (mkAcc m')=true:=by
    have hm0:meetB (hOfT m) (hOfT m')=false:=by simpa using hmeet
    rw[opMK,←hOfT_mk,←hOfT_mk,hm0];simp only[mkAcc];rw[hcon.1,hcon.2.1,hcon.2.2];rfl
   have hop':opMK (mkAcc s.acc) (mkAcc s'.acc)=true:=by rw[opMK_alk halk halk'];exact hop
   have hne:clS S m≠clS S m':=fun e=>by
    rw[e]at hs;have:s=s':=by rw[hs]at hs';exact Option.some.inj hs'
    subst this;have t1:=((alkB_iff _ _).1 halk).1;have t2:=((alkB_iff _ _).1 halk').1;have:=hcon.1;simp only[bne_iff_ne]at this;exact this (t1.symm.trans t2)
   have hmt:mtB s.acc s'.acc (X (clS S m)) (X (clS S m'))=true:=by
    by_cases hlt:clS S m<clS S m'
    ·exact hc (clS S m,clS S m') ((h.pr _).2 ⟨hlt,s,s',hs,hs',hop'⟩) s s' hs hs'
    ·have:=hc (clS S m',clS S m) ((h.pr _).2 ⟨by show clS S m'<clS S m;omega,s',s,hs',hs,by rw[opMK_symm];exact hop'⟩) s' s hs' hs;rw[mtB_symm];exact this
   obtain⟨l,hl,l1,l2⟩:=(mtB_iff _ _ _ _).1 hmt;exact⟨lkU l,lkU_in hl,inX hm hmk hs halk hl l1,inX hm' hmk' hs' halk' hl l2⟩
 ·intro v H ht k hk hw;rcases ht with ht|ht
  ·exact h.no _ ht rfl
  ·obtain⟨j,x,l,h1,h2,h3⟩:=(layT_mem _ _ L 0).1 ht;simp only[Prod.mk.injEq,true_and]at h3;obtain⟨rfl,rfl⟩:=h3;rw[Nat.zero_add]at h2;obtain⟨m,s,hm,hmk,hs,halk,hcl⟩:=h.spot h1;obtain⟨x0,x5,rfl⟩:=chX_some hr hm h2;obtain⟨i,i',hi,hi',e1,e2,hwn⟩:=hway hw;have:=lkU_inj x5 hi e1;subst this;subst e2;exact hf _ s hs x0 i' hi' (by rw[alkB_h halk];exact(mark_h hmk hi').2 hk) hwn
theorem SpOk.rival(h:SpOk A L T E S P){ch:Nat→Option UInt8}(hg:GoodC L T ch):∃X,RngX X∧ClosedX S P X∧FairX E S X∧csX (plS S) (fun i=>!stS S i) X S.length≤cst ch 0 A.length:=by
 obtain⟨hfit,hno,hfair⟩:=hg;have hrr:∀k l,k<A.length→ch k=some l→inU [65,66,67,68,69] l=true:=fun k l hk hl=>by
  rw[h.len]at hk;exact(hfit k _ l (List.getElem?_eq_getElem hk) (by rw[Nat.zero_add];exact hl)).1
 obtain⟨X,hr,hX,hcost⟩:=pick_spots h.sp ch hrr;have locX:∀{k:Nat} {n:Nat},k<A.length→n<5→locU (ch k)=(n:Int)→ch k=some (lkU n):=by
  intro k n hk hn he;cases hc:ch k with
  | none=>rw[hc,locU]at he;omega
  | some l=>
   obtain⟨q,hq,rfl⟩:=lkU_of (hrr k l hk hc);rw[hc,locU,lkU_nat hq]at he;have:q=n:=by omega
   rw[this]
 have locY:∀{k:Nat} {l:UInt8} {n:Nat},n<5→l=lkU n→ch k=some l→locU (ch k)=(n:Int):=by
  intro k l n hn e hc;rw[hc,e,locU,lkU_nat hn];omega
 have rep:∀i s,S[i]?=some s→∃k m x,A[k]?=some m∧L[k]?=some x∧MarkOf (mkAcc m) x∧alkB s.acc m=true∧X i=locU (ch k)∧k<A.length:=by
  intro i s hs;obtain⟨k,m,h1,h2,h3⟩:=hX i (List.getElem?_eq_some_iff.1 hs).1;have hk:=(List.getElem?_eq_some_iff.1 h1).1;have hx:=List.getElem?_eq_getElem (show k<L.length by rw[←h.len];exact hk);obtain⟨s',hs',ha⟩:=clS_get (h.sp.mem m (List.mem_of_getElem? h1));rw[h2,hs]at hs';have:s=s':=Option.some.inj hs';subst this;exact⟨k,m,_,h1,hx,h.mrk k m _ h1 hx,ha,h3,hk⟩
 refine⟨X,hr,?_,?_,hcost⟩
 ·intro p hp a b ha hb;obtain⟨_,a',b',ha',hb',hop⟩:=(h.pr p).1 hp;have ea:a=a':=by rw[ha]at ha';exact Option.some.inj ha'
  have eb:b=b':=by rw[hb]at hb';exact Option.some.inj hb'
  subst ea eb;obtain⟨k,m,x,hm,hx,hmk,halk,hXi,hk⟩:=rep _ a ha;obtain⟨k',m',y,hm',hy,hmk',halk',hXj,hk'⟩:=rep _ b hb;rw[opMK_alk halk halk',opMK]at hop;simp only[mkAcc,Bool.and_eq_true,bne_iff_ne,beq_iff_eq]at hop;obtain⟨_,hth,hnum,hkind⟩:=hop;have e1:∀o (z:AC),(layX o z).1=z.1∧(layX o z).2.1=z.2.1∧(layX o z).2.2.1=z.2.2.1∧∀l∈(layX o z).2.2.2,l∈z.2.2.2∨o=some l:=fun o z=>by
   cases o with
   | none=>exact⟨rfl,rfl,rfl,fun l hl=>.inl hl⟩
   | some q=>exact⟨rfl,rfl,rfl,fun l hl=>by
     rcases List.mem_append.1 hl with hl|hl
     ·exact .inl hl
     ·simp at hl;rw[hl];exact .inr rfl⟩
  have a1:=hmk.1;have a2:=hmk.2.1;have a3:=hmk.2.2.1;have b1:=hmk'.1;have b2:=hmk'.2.1;have b3:=hmk'.2.2.1;simp only[mkAcc]at a1 a2 a3 b1 b2 b3;obtain⟨l,l0,l1,l2⟩:=hno (layX (ch k) x) ((layA_mem _ _ L 0).2 ⟨k,x,hx,by rw[Nat.zero_add]⟩) (layX (ch k') y) ((layA_mem _ _ L 0).2 ⟨k',y,hy,by rw[Nat.zero_add]⟩)
   (by rw[(e1 _ x).1,(e1 _ y).1,←a1,←b1];exact hth)
   (by rw[(e1 _ x).2.2.1,(e1 _ y).2.2.1];rw[a3,b3]at hnum;exact UInt8.toNat_inj.1 (by omega))
   (by
    rw[(e1 _ x).2.1,(e1 _ y).2.1];rw[a2,b2]at hkind;simp only[Bool.or_eq_true,beq_iff_eq]at hkind;rcases hkind with e|e
    ·left;split at e
     ·assumption
     ·exact absurd e (by decide)
    ·right;split at e
     ·assumption
     ·exact absurd e (by decide))
  obtain⟨n,hn,rfl⟩:=lkU_of l0;refine(mtB_iff _ _ _ _).2 ⟨n,hn,?_,?_⟩
  ·rcases (e1 _ x).2.2.2 _ l1 with q|q
   ·left;rw[alkB_h halk];exact(mark_h hmk hn).2 q
   ·right;rw[hXi];exact locY hn rfl q
  ·rcases (e1 _ y).2.2.2 _ l2 with q|q
   ·left;rw[alkB_h halk'];exact(mark_h hmk' hn).2 q
   ·right;rw[hXj];exact locY hn rfl q
 ·intro i s hs h0 l hl hh hw;obtain⟨k,m,x,hm,hx,hmk,halk,hXi,hk⟩:=rep i s hs;have hx5:(X i).toNat<5:=by have:=hr i;omega
  have hck:ch k=some (lkU (X i).toNat):=locX hk hx5 (by rw[←hXi];omega);have hedge:∀a b,a<5→b<5→edX E S X S.length a b=true→edgeT (fun x=>x∈T∨x∈layT ch 0 L) (lkU a) (lkU b):=by
   intro a b ha hb he;rcases (edX_iff _ _ _ _).1 he with he|⟨i',s',hi',hs',hh',hx'⟩
   ·obtain⟨c,H,ht,hin⟩:=(h.ed a b ha hb).1 he;exact⟨c,H,.inl ht,hin⟩
   ·obtain⟨k',m',y,hm',hy,hmk',halk',hXi',hk'⟩:=rep i' s' hs';have hck':ch k'=some (lkU b):=locX hk' hb (by rw[←hXi',hx']);exact⟨60,y.2.2.2,.inr ((layT_mem _ _ L 0).2 ⟨k',y,lkU b,hy,by rw[Nat.zero_add];exact hck',rfl⟩),(mark_h hmk' ha).1 (by rw[←alkB_h halk'];exact hh')⟩
  have hway:∀{a b:Nat},WayN 5 (edX E S X S.length) a b→Way (fun x=>x∈T∨x∈layT ch 0 L) (lkU a) (lkU b):=by
   intro a b hw
   induction hw with
   | one h1 h2 h3=>exact .one (hedge _ _ h1 h2 h3)
   | more h1 h2 h3 ih=>exact .more ih (hedge _ _ h1.lt.2 h2 h3)
  exact hfair (lkU (X i).toNat) x.2.2.2 (.inr ((layT_mem _ _ L 0).2 ⟨k,x,_,hx,by rw[Nat.zero_add];exact hck,rfl⟩)) (lkU l) ((mark_h hmk hl).1 (by rw[←alkB_h halk];exact hh)) (hway hw)
theorem SpOk.any(h:SpOk A L T E S P):∃X,RngX X∧ClosedX S P X∧FairX E S X∧csX (plS S) (fun i=>!stS S i) X S.length≤A.length:=by
 have hn:∀(i:Nat) (s:SP),S[i]?=Option.some s→hOfT s.acc 4=false:=by
  intro i s hs;obtain⟨r1,_⟩:=h.sp.rep i s hs;obtain⟨k,hk⟩:=List.getElem?_of_mem r1;have hkl:=(List.getElem?_eq_some_iff.1 hk).1;have hx:=List.getElem?_eq_getElem (show k<L.length by rw[←h.len];exact hkl);have hmk:=h.mrk k _ _ hk hx;cases hh:hOfT s.acc 4 with
  | false=>rfl
  | true=>exact absurd ((mark_h hmk (by decide)).1 hh) (h.l4 _ (List.mem_of_getElem? hx))
 refine⟨fun _=>4,fun _=>⟨by show(-1:Int)≤4;decide,by show(4:Int)<5;decide⟩,?_,?_,?_⟩
 ·intro p hp a b ha hb;exact(mtB_iff _ _ _ _).2 ⟨4,by decide,.inr rfl,.inr rfl⟩
 ·intro i s hs h0 l hl hh hw;have key:∀{a b:Nat},WayN 5 (edX E S (fun _=>4) S.length) a b→a≠4:=by
   intro a b hw;have one:∀b,b<5→edX E S (fun _=>4) S.length 4 b=false:=by
    intro b hb;cases he:edX E S (fun _=>4) S.length 4 b with
    | false=>rfl
    | true=>
     rcases (edX_iff _ _ _ _).1 he with he|⟨i',s',_,hs',hh',_⟩
     ·obtain⟨c,H,ht,hin⟩:=(h.ed 4 b (by decide) hb).1 he;exact absurd hin (h.t4 _ ht)
     ·rw[hn i' s' hs']at hh';cases hh'
   induction hw with
   | one h1 h2 h3=>intro e;subst e;rw[one _ h2]at h3;cases h3
   | more _ _ _ ih=>exact ih
  exact key hw rfl
 ·rw[cost_filter h.sp];exact List.length_filter_le _ _
end
def apos:Nat→List UInt8→List Nat
 | _,[]=>[]
 | _,[_]=>[]
 | a,c::v::s=>if c=103∨c=112 then a::apos (a+2) s else if c=105∨c=91∨c=60 then apos (a+2) s else apos (a+1) (v::s)
section
variable {a : Nat} {c v : UInt8} {s : List UInt8}
theorem apos_acc(h:c=103∨c=112):apos a (c::v::s)=a::apos (a+2) s:=by rw[apos,if_pos h]
theorem apos_two(h:c=105∨c=91∨c=60):apos a (c::v::s)=apos (a+2) s:=by
 rw[apos,if_neg (by rcases h with rfl|rfl|rfl<;>decide),if_pos h]
theorem apos_one(h:sizeU c=1):apos a (c::s)=apos (a+1) s:=by
 cases s with
 | nil=>rfl
 | cons v s=>
  rw[apos,if_neg (by rintro(rfl|rfl)<;>exact absurd h (by decide)),if_neg (by rintro(rfl|rfl|rfl)<;>exact absurd h (by decide))]
end
def MkIdx(l:List MK)(A:List AC)(Q:List Nat):Prop:=A.length=l.length∧Q.length=l.length∧∀(j:Nat) (m:MK),l[j]?=some m→∃x q,A[j]?=some x∧Q[j]?=some q∧MarkOf m x∧m.place=(q:Int)
theorem MkIdx.snoc{l:List MK}{A:List AC}{Q:List Nat}(h:MkIdx l A Q){m:MK}{x:AC}{q:Nat}(hm:MarkOf m x)(hq:m.place=(q:Int)):MkIdx (l++[m]) (A++[x]) (Q++[q]):=by
 obtain⟨h1,h2,h3⟩:=h;refine⟨by simp[h1],by simp[h2],fun j m' hj=>?_⟩
 by_cases hjl:j<l.length
 ·rw[List.getElem?_append_left hjl]at hj;obtain⟨x',q',e1,e2,e3⟩:=h3 j m' hj;exact⟨x',q',by rw[List.getElem?_append_left (by omega)];exact e1,by rw[List.getElem?_append_left (by omega)];exact e2,e3⟩
 ·rw[List.getElem?_append_right (by omega)]at hj;have hj0:j-l.length=0:=by
   have:=(List.getElem?_eq_some_iff.1 hj).1;simp at this;omega
  rw[hj0]at hj;simp at hj;subst hj;refine⟨x,q,?_,?_,hm,hq⟩
  ·rw[List.getElem?_append_right (by omega),show j-A.length=0 by omega];rfl
  ·rw[List.getElem?_append_right (by omega),show j-Q.length=0 by omega];rfl
def IdxAt(p:List UInt8)(t:TS):Prop:=∃A Q,MkIdx (accL t.mks) A Q∧acs 1 [] p=A++acs t.th t.now (p.drop t.i)∧apos 0 p=Q++apos t.i (p.drop t.i)
theorem idx_at{p:List UInt8}{mks:List MK}(ha:Acc p mks):∀k,IdxAt p (tw p k):=by
 intro k
 induction k with
 | zero=>exact⟨[],[],⟨rfl,rfl,fun j m h=>by simp[tw,accL]at h⟩,by simp[tw],by simp[tw]⟩
 | succ k ih=>
  by_cases hlt:(tw p k).i<p.length
  ·have hc:=List.getElem?_eq_getElem hlt;obtain⟨hroom,_,_⟩:=acc_room ha hlt hc;have hst:=tw_next hlt hc;rw[hst];generalize hcc:p[(tw p k).i]=c at *;have hd:p.drop (tw p k).i=c::p.drop ((tw p k).i+1):=by rw[List.drop_eq_getElem_cons hlt,hcc]
   obtain⟨A,Q,hm,ia,ib⟩:=ih;rw[hd]at ia ib;unfold IdxAt
   by_cases h2:sizeU c=2
   ·have hlt2:(tw p k).i+1<p.length:=by omega
    have hd2:p.drop ((tw p k).i+1)=p[(tw p k).i+1]::p.drop ((tw p k).i+2):=by rw[List.drop_eq_getElem_cons hlt2]
    have hg:p[(tw p k).i+1]?=some p[(tw p k).i+1]:=List.getElem?_eq_getElem hlt2;rw[hd2]at ia ib;rw[h2];have hcase:(c=103∨c=112)∨c=105∨(c=91∨c=60):=by
     by_cases h3:inU [103,112,105,91,60] c=true
     ·simp[inU]at h3;rcases h3 with rfl|rfl|rfl|rfl|rfl<;>simp
     ·rw[sizeU,if_neg h3]at h2;exact absurd h2 (by decide)
    rcases hcase with h3|h3|h3
    ·have nb:¬c=124:=by rintro rfl;rcases h3 with h3|h3<;>exact absurd h3 (by decide)
     have nt:¬(c=91∨c=60):=by rcases h3 with rfl|rfl<;>decide
     have ng:¬(c=93∨c=62):=by rcases h3 with rfl|rfl<;>decide
     have hh:heldU (tw p k).now p (tw p k).i=(tw p k).now:=by
      rw[heldU,hc];simp only;rw[if_neg nt,if_neg ng]
     simp only;rw[if_neg nb,hh,if_neg nt,if_pos h3,hg];rw[acs_acc h3]at ia;rw[apos_acc h3]at ib;refine⟨A++[((tw p k).th,c,p[(tw p k).i+1],(tw p k).now)],Q++[(tw p k).i],?_,by rw[ia];simp,by rw[ib];simp⟩;have:accL ((tw p k).mks++[mkN (if c=112 then 2 else 1) (tw p k).i (tw p k).th (((some p[(tw p k).i+1]).getD 0).toNat-120) (tw p k).now])=accL (tw p k).mks++[mkN (if c=112 then 2 else 1) (tw p k).i (tw p k).th (((some p[(tw p k).i+1]).getD 0).toNat-120) (tw p k).now]:=by
      rw[accL,List.filter_append]
      congr 1
      rw[List.filter_cons,List.filter_nil,if_pos];show(!((if c=112 then(2:Int)else 1)==3))=true
      split<;>decide
     rw[this];exact hm.snoc ⟨rfl,rfl,rfl,rfl,rfl,rfl,rfl,rfl⟩ rfl
    ·subst h3;have hh:heldU (tw p k).now p (tw p k).i=(tw p k).now:=by
      rw[heldU,hc];simp only;rw[if_neg (by decide),if_neg (by decide)]
     simp only;rw[if_neg (by decide),hh,if_neg (by decide),if_neg (by decide)];rw[acs_add]at ia;rw[apos_two (by simp)]at ib;exact⟨A,Q,hm,ia,ib⟩
    ·have nb:¬c=124:=by rintro rfl;rcases h3 with h3|h3<;>exact absurd h3 (by decide)
     have hh:heldU (tw p k).now p (tw p k).i=(tw p k).now++[p[(tw p k).i+1]]:=by
      rw[heldU,hc];simp only;rw[if_pos h3,hg];rfl
     simp only;rw[if_neg nb,hh,if_pos h3,hg];rw[acs_take h3]at ia;rw[apos_two (by rcases h3 with h|h<;>simp[h])]at ib;refine⟨A,Q,?_,ia,ib⟩;have:accL ((tw p k).mks++[mkN 3 (tw p k).i (tw p k).th (((some p[(tw p k).i+1]).getD 0).toNat-65) (tw p k).now])=accL (tw p k).mks:=by
      rw[accL,List.filter_append,List.filter_cons,List.filter_nil,if_neg (by show ¬(!((3:Int)==3))=true;decide),List.append_nil];rfl
     rw[this];exact hm
   ·have h1:sizeU c=1:=by
     unfold sizeU at h2 ⊢
     split<;>simp_all
    have nt:¬(c=91∨c=60):=by rintro(rfl|rfl)<;>exact absurd h1 (by decide)
    have na:¬(c=103∨c=112):=by rintro(rfl|rfl)<;>exact absurd h1 (by decide)
    rw[h1];simp only;rw[if_neg nt,if_neg na];rw[apos_one h1]at ib
    by_cases hg:c=93∨c=62
    ·have nb:¬c=124:=by rintro rfl;rcases hg with h3|h3<;>exact absurd h3 (by decide)
     have hh:heldU (tw p k).now p (tw p k).i=(tw p k).now.dropLast:=by
      rw[heldU,hc];simp only;rw[if_neg nt,if_pos hg]
     rw[if_neg nb,hh];rw[acs_give hg]at ia;exact⟨A,Q,hm,ia,ib⟩
    ·have hh:heldU (tw p k).now p (tw p k).i=(tw p k).now:=by
      rw[heldU,hc];simp only;rw[if_neg nt,if_neg hg]
     rw[hh]
     by_cases hb:c=124
     ·subst hb;rw[if_pos rfl];rw[acs_bar]at ia;exact⟨A,Q,hm,ia,ib⟩
     ·rw[if_neg hb];rw[acs_skip h1 (fun e=>hg (.inl e)) (fun e=>hg (.inr e)) hb]at ia;exact⟨A,Q,hm,ia,ib⟩
  ·have:tw p (k+1)=tw p k:=by rw[tw,if_neg hlt]
   rw[this];exact ih
theorem marks_idx{p:List UInt8}{mks:List MK}(ha:Acc p mks):MkIdx (accL mks) (acs 1 [] p) (apos 0 p):=by
 obtain⟨k,n,t,hk⟩:=ha.toks;obtain⟨A,Q,h,h1,h2⟩:=idx_at ha k;rw[hk]at h h1 h2;simp only[List.drop_length,acs,apos,List.append_nil]at h1 h2;rw[h1,h2];exact h
def layP(R:List (Int×Int)):Nat→List UInt8→List UInt8
 | _,[]=>[]
 | a,c::s=>((R.filter fun r=>r.1==(a:Int)).flatMap fun r=>[60,UInt8.ofNat (65+r.2.toNat)])++c::(((R.filter fun r=>r.1+1==(a:Int)).map fun _=>(62:UInt8))++layP R (a+1) s)
def RegOk(R:List (Int×Int))(Q:List Nat)(ch:Nat→Option UInt8):Prop:=
 (∀r∈R,∃q∈Q,r.1=(q:Int))∧∀(k q:Nat),Q[k]?=some q→(R.filter fun r=>r.1==(q:Int))=(match ch k with|some l=>[((q:Int),(l.toNat:Int)-65)]|none=>[])
theorem apos_ge:∀(n:Nat) (s:List UInt8) (a:Nat),s.length≤n→∀q∈apos a s,a≤q∧q+1<a+s.length:=by
 intro n
 induction n with
 | zero=>intro s a hn q hq;have:s=[]:=List.length_eq_zero_iff.1 (by omega);subst this;simp[apos]at hq
 | succ n ih=>
  intro s a hn q hq
  match s,hn,hq with
  | [],_,hq=>simp[apos]at hq
  | [_],_,hq=>simp[apos]at hq
  | c::v::s,hn,hq=>
   simp only[List.length_cons]at hn ⊢;rw[apos]at hq
   split at hq
   ·rcases List.mem_cons.1 hq with rfl|hq
    ·omega
    ·have:=ih s (a+2) (by omega) q hq;omega
   ·split at hq
    ·have:=ih s (a+2) (by omega) q hq;omega
    ·have:=ih (v::s) (a+1) (by simp;omega) q hq;simp at this;omega
theorem lkU_back{l:UInt8}(h:inU [65,66,67,68,69] l=true):UInt8.ofNat (65+((l.toNat:Int)-65).toNat)=l:=by
 rw[inU_mem]at h;simp only[List.mem_cons,List.not_mem_nil,or_false]at h;rcases h with rfl|rfl|rfl|rfl|rfl<;>rfl
theorem layP_lay(R:List (Int×Int))(Q:List Nat)(ch:Nat→Option UInt8)(hr:RegOk R Q ch)(hch:∀k l,ch k=some l→inU [65,66,67,68,69] l=true) :
  ∀(n:Nat) (s:List UInt8) (a k:Nat),s.length≤n→Q.drop k=apos a s→(∀q∈Q,q+1<a∨a≤q)→(∀j q,j<k→Q[j]?=some q→q+1<a)→layP R a s=lay ch k s:=by
 have none_at:∀(b:Int),(∀q∈Q,(q:Int)≠b)→(R.filter fun r=>r.1==b)=[]:=by
  intro b hb;rw[List.filter_eq_nil_iff];intro r hrm;obtain⟨q,hq,e⟩:=hr.1 r hrm;simp only[beq_iff_eq];rw[e];exact hb q hq
 have none_bh:∀(b:Nat),(∀q∈Q,q+1≠b)→(R.filter fun r=>r.1+1==(b:Int))=[]:=by
  intro b hb;rw[List.filter_eq_nil_iff];intro r hrm;obtain⟨q,hq,e⟩:=hr.1 r hrm;simp only[beq_iff_eq];have:=hb q hq;omega
 have split:∀{k a:Nat} {T:List Nat},Q.drop k=T→∀q∈Q,(∃j,j<k∧Q[j]?=some q)∨q∈T:=by
  intro k a T hT q hq;obtain⟨j,hj⟩:=List.getElem?_of_mem hq
  by_cases hjk:j<k
  ·exact .inl ⟨j,hjk,hj⟩
  ·right;rw[←hT];exact List.mem_of_getElem? (i:=j-k) (by rw[List.getElem?_drop,show k+(j-k)=j by omega];exact hj)
 intro n
 induction n with
 | zero=>intro s a k hn _ _ _;have:s=[]:=List.length_eq_zero_iff.1 (by omega);subst this;simp[layP,lay]
 | succ n ih=>
  intro s a k hn hQ hb hlow
  match s,hn,hQ with
  | [],_,_=>simp[layP,lay]
  | [c],_,hQ=>
   have hno:∀q∈Q,q+1<a:=fun q hq=>by
    rcases split (a:=a) hQ q hq with⟨j,hj,e⟩|h
    ·exact hlow j q hj e
    ·simp[apos]at h
   rw[layP,layP,lay,none_at _ (fun q hq=>by have:=hno q hq;omega),none_bh _ (fun q hq=>by have:=hno q hq;omega)];rfl
  | c::v::s,hn,hQ=>
   simp only[List.length_cons]at hn;have hpos:∀q∈apos a (c::v::s),a≤q:=fun q hq=>(apos_ge _ _ _ (Nat.le_refl _) q hq).1
   by_cases h3:c=103∨c=112
   ·rw[apos_acc h3]at hQ;have hk:Q[k]?=some a:=by
     have:=congrArg (fun l=>l[0]?) hQ;simpa using this
    have hQ2:Q.drop (k+1)=apos (a+2) s:=by
     have:=congrArg List.tail hQ;simpa using this
    have hb2:∀q∈Q,q+1<a+2∨a+2≤q:=fun q hq=>by
     rcases split (a:=a) hQ2 q hq with⟨j,hj,e⟩|h
     ·by_cases hjk:j<k
      ·have:=hlow j q hjk e;omega
      ·have:j=k:=by omega
       subst this;rw[hk]at e;have:a=q:=Option.some.inj e;omega
     ·right;exact(apos_ge _ _ _ (Nat.le_refl _) q h).1
    have hlow2:∀j q,j<k+1→Q[j]?=some q→q+1<a+2:=fun j q hj e=>by
     by_cases hjk:j<k
     ·have:=hlow j q hjk e;omega
     ·have:j=k:=by omega
      subst this;rw[hk]at e;have:a=q:=Option.some.inj e;omega
    have e1:=hr.2 k a hk;have e2:(R.filter fun r=>r.1+1==(a:Int))=[]:=none_bh _ (fun q hq=>by have:=hb q hq;omega);have e3:(R.filter fun r=>r.1==((a+1:Nat):Int))=[]:=none_at _ (fun q hq=>by have:=hb2 q hq;omega);have e4:(R.filter fun r=>r.1+1==((a+1:Nat):Int))=(R.filter fun r=>r.1==(a:Int)):=List.filter_congr fun r _=>by
     rw[Bool.eq_iff_iff];simp only[beq_iff_eq];omega
    rw[layP,layP,e1,e2,e3,e4,e1,lay_acc h3,ih s (a+2) (k+1) (by omega) hQ2 hb2 hlow2];cases hc:ch k with
    | none=>simp
    | some l=>
     have hb:=lkU_back (hch k l hc);simp only[List.flatMap_cons,List.flatMap_nil,hb];simp
   ·by_cases h2:c=105∨c=91∨c=60
    ·rw[apos_two h2]at hQ;have hb2:∀q∈Q,q+1<a∨a+2≤q:=fun q hq=>by
      rcases split (a:=a) hQ q hq with⟨j,hj,e⟩|h
      ·have:=hlow j q hj e;omega
      ·right;exact(apos_ge _ _ _ (Nat.le_refl _) q h).1
     have e1:(R.filter fun r=>r.1==(a:Int))=[]:=none_at _ (fun q hq=>by have:=hb2 q hq;omega);have e2:(R.filter fun r=>r.1+1==(a:Int))=[]:=none_bh _ (fun q hq=>by have:=hb2 q hq;omega);have e3:(R.filter fun r=>r.1==((a+1:Nat):Int))=[]:=none_at _ (fun q hq=>by have:=hb2 q hq;omega);have e4:(R.filter fun r=>r.1+1==((a+1:Nat):Int))=[]:=none_bh _ (fun q hq=>by have:=hb2 q hq;omega);rw[layP,layP,e1,e2,e3,e4,ih s (a+2) k (by omega) hQ (fun q hq=>by have:=hb2 q hq;omega) (fun j q hj e=>by have:=hlow j q hj e;omega),lay,if_neg h3,if_pos h2];rfl
    ·have h1:sizeU c=1:=by
      rw[sizeU,if_neg];intro h;simp[inU]at h;rcases h with h|h|h|h|h
      ·exact h3 (.inl h.symm)
      ·exact h3 (.inr h.symm)
      ·exact h2 (.inl h.symm)
      ·exact h2 (.inr (.inl h.symm))
      ·exact h2 (.inr (.inr h.symm))
     rw[apos_one h1]at hQ;have hb2:∀q∈Q,q+1<a∨a+1≤q:=fun q hq=>by
      rcases split (a:=a) hQ q hq with⟨j,hj,e⟩|h
      ·have:=hlow j q hj e;omega
      ·right;exact(apos_ge _ _ _ (Nat.le_refl _) q h).1
     have e1:(R.filter fun r=>r.1==(a:Int))=[]:=none_at _ (fun q hq=>by have:=hb2 q hq;omega);have e2:(R.filter fun r=>r.1+1==(a:Int))=[]:=none_bh _ (fun q hq=>by have:=hb2 q hq;omega);rw[layP,e1,e2,lay_one h1,ih (v::s) (a+1) k (by simp;omega) hQ (fun q hq=>by have:=hb2 q hq;omega) (fun j q hj e=>by have:=hlow j q hj e;omega)];rfl
theorem tks_held(now s:List UInt8):∀x∈tks now s,∀l∈x.2.2,l∈now∨∃y∈tks now s,y.2.1=l:=by
 fun_induction tks now s with
 | case1 now=>intro x hx;cases hx
 | case2 now c=>intro x hx;cases hx
 | case3 now c v s h ih=>
  intro x hx l hl;rcases List.mem_cons.1 hx with rfl|hx
  ·exact .inl hl
  ·rcases ih x hx l hl with h1|⟨y,hy,e⟩
   ·rcases List.mem_append.1 h1 with h1|h1
    ·exact .inl h1
    ·rw[List.mem_singleton]at h1;exact .inr ⟨_,List.mem_cons_self,h1.symm⟩
   ·exact .inr ⟨y,List.mem_cons_of_mem _ hy,e⟩
 | case4 now c v s _ h ih=>exact ih
 | case5 now c v s _ _ h ih=>
  intro x hx l hl;rcases ih x hx l hl with h1|h1
  ·exact .inl (List.dropLast_subset _ h1)
  ·exact .inr h1
 | case6 now c v s _ _ _ ih=>exact ih
theorem tks_locks{p:List UInt8}(h:∀a∈splitBar p,TD [] [] a):∀x∈tks [] p,inU [65,66,67,68,69] x.2.1=true∧∀l∈x.2.2,inU [65,66,67,68,69] l=true:=by
 have h1:∀x∈tks [] p,inU [65,66,67,68,69] x.2.1=true:=by
  intro x hx;obtain⟨a,ha,hx⟩:=(tks_split p h x).1 hx;exact(td_nest (h a ha) [] (fun l hl=>hl) x (by simpa using hx)).1
 refine fun x hx=>⟨h1 x hx,fun l hl=>?_⟩
 rcases tks_held [] p x hx l hl with h2|⟨y,hy,rfl⟩
 ·cases h2
 ·exact h1 y hy
theorem tks_first(now s:List UInt8):∀x∈tks now s,x.1∈s:=by
 fun_induction tks now s with
 | case1 now=>intro x hx;cases hx
 | case2 now c=>intro x hx;cases hx
 | case3 now c v s h ih=>
  intro x hx;rcases List.mem_cons.1 hx with rfl|hx
  ·exact List.mem_cons_self
  ·exact List.mem_cons_of_mem _ (List.mem_cons_of_mem _ (ih x hx))
 | case4 now c v s _ h ih=>intro x hx;exact List.mem_cons_of_mem _ (List.mem_cons_of_mem _ (ih x hx))
 | case5 now c v s _ _ h ih=>intro x hx;exact List.mem_cons_of_mem _ (ih x hx)
 | case6 now c v s _ _ _ ih=>intro x hx;exact List.mem_cons_of_mem _ (ih x hx)
theorem acs_held(th:Int)(now s:List UInt8):∀x∈acs th now s,∀l∈x.2.2.2,l∈now∨∃y∈tks now s,y.2.1=l:=by
 fun_induction acs th now s with
 | case1 th now=>intro x hx;cases hx
 | case2 th now c=>intro x hx;cases hx
 | case3 th now c v s h ih=>
  intro x hx l hl;rw[tks_two (by rcases h with h|h<;>simp[h])];rcases List.mem_cons.1 hx with rfl|hx
  ·exact .inl hl
  ·exact ih x hx l hl
 | case4 th now v s h ih=>intro x hx l hl;rw[tks_two (by simp)];exact ih x hx l hl
 | case5 th now c v s _ _ h ih=>
  intro x hx l hl;rw[tks_take h];rcases ih x hx l hl with h1|⟨y,hy,e⟩
  ·rcases List.mem_append.1 h1 with h1|h1
   ·exact .inl h1
   ·rw[List.mem_singleton]at h1;exact .inr ⟨_,List.mem_cons_self,h1.symm⟩
  ·exact .inr ⟨y,List.mem_cons_of_mem _ hy,e⟩
 | case6 th now c v s h1 h2 h3 h ih=>
  intro x hx l hl;rw[tks_give h];rcases ih x hx l hl with q|q
  ·exact .inl (List.dropLast_subset _ q)
  ·exact .inr q
 | case7 th now v s _ _ _ _ ih=>
  intro x hx l hl;rw[tks_skip (by decide) (by decide) (by decide)];exact ih x hx l hl
 | case8 th now c v s h1 h2 h3 h4 h5 ih=>
  intro x hx l hl;rw[tks,if_neg h3,if_neg (by rintro(e|e|e);exact h1 (.inl e);exact h1 (.inr e);exact h2 e),if_neg h4];exact ih x hx l hl
theorem md_four{H K s:List UInt8}(h:MD H K s):(60:UInt8)∉s→∀base,∀x∈tks (base++K.reverse) s,inU [65,66,67,68] x.2.1=true:=by
 induction h with
 | nil H=>intro _ base x hx;simp[tks]at hx
 | acc c v hc hv _ ih=>intro hn base x hx;rw[tks_two (by rcases hc with h|h<;>simp[h])]at hx;exact ih (fun h=>hn (by simp[h])) base x hx
 | add d hd _ ih=>intro hn base x hx;rw[tks_two (by simp)]at hx;exact ih (fun h=>hn (by simp[h])) base x hx
 | out _ ih=>intro hn base x hx;rw[tks_test (by simp)]at hx;exact ih (fun h=>hn (by simp[h])) base x hx
 | @take H K s l hl hnn _ ih=>
  intro hn base x hx;rw[tks_take (.inl rfl),List.mem_cons]at hx;rcases hx with rfl|hx
  ·exact hl
  ·refine ih (fun h=>hn (by simp[h])) base x ?_;rw[List.reverse_cons,←List.append_assoc];exact hx
 | give l _ ih=>
  intro hn base x hx;rw[tks_give (.inl rfl),List.reverse_cons,←List.append_assoc,List.dropLast_concat]at hx;exact ih (fun h=>hn (by simp[h])) base x hx
 | mend l c v _ _ _ _ _ _=>intro hn;exact absurd List.mem_cons_self hn
 | @branch H K a b s ha hb' hs iha ihb ih=>
  intro hn base x hx;rw[tks_test (c:=63) (by simp),tks_test (c:=123) (by simp),tks_body ha.td,tks_test (c:=125) (by simp),tks_test (c:=123) (by simp),tks_body hb'.td,tks_test (c:=125) (by simp),List.mem_append,List.mem_append]at hx;rcases hx with hx|hx|hx
  ·exact iha (fun h=>hn (by simp[h])) (base++K.reverse) x (by simpa using hx)
  ·exact ihb (fun h=>hn (by simp[h])) (base++K.reverse) x (by simpa using hx)
  ·exact ih (fun h=>hn (by simp[h])) base x hx
 | @loop H K a s hm ha hs iha ih=>
  intro hn base x hx;rw[tks_test (c:=33) (by simp),tks_test (c:=123) (by simp),tks_body ha.td,tks_test (c:=125) (by simp),List.mem_append]at hx;rcases hx with hx|hx
  ·exact iha (fun h=>hn (by simp[h])) (base++K.reverse) x (by simpa using hx)
  ·exact ih (fun h=>hn (by simp[h])) base x hx
def opSP(S:List SP)(i j:Nat):Bool:=match S[i]?,S[j]? with
 | some a,some b=>opMK (mkAcc a.acc) (mkAcc b.acc)
 | _,_=>false
def prJ(S:List SP)(i:Nat):Nat→List (Nat×Nat)
 | 0=>[]
 | c+1=>prJ S i c++(if opSP S i (i+1+c)then [(i,i+1+c)]else [])
def prQ(S:List SP):Nat→List (Nat×Nat)
 | 0=>[]
 | i+1=>prQ S i++prJ S i (S.length-(i+1))
theorem prJ_mem(S:List SP)(i:Nat)(p:Nat×Nat):∀c,p∈prJ S i c↔p.1=i∧i<p.2∧p.2<i+1+c∧opSP S p.1 p.2=true:=by
 intro c
 induction c with
 | zero=>simp only[prJ,List.not_mem_nil,false_iff];omega
 | succ c ih=>
  rw[prJ,List.mem_append,ih];obtain⟨x,y⟩:=p;simp only;cases h:opSP S i (i+1+c)with
  | false=>
   simp only[Bool.false_eq_true,if_false,List.not_mem_nil,or_false];constructor
   ·rintro⟨h1,h2,h3,h4⟩;exact⟨h1,h2,by omega,h4⟩
   ·rintro⟨h1,h2,h3,h4⟩;refine⟨h1,h2,?_,h4⟩
    by_cases e:y=i+1+c
    ·subst h1 e;rw[h]at h4;cases h4
    ·omega
  | true=>
   simp only[if_true,List.mem_singleton,Prod.mk.injEq];constructor
   ·rintro(⟨h1,h2,h3,h4⟩|⟨h1,h2⟩)
    ·exact⟨h1,h2,by omega,h4⟩
    ·subst h1 h2;exact⟨rfl,by omega,by omega,h⟩
   ·rintro⟨h1,h2,h3,h4⟩
    by_cases e:y=i+1+c
    ·exact .inr ⟨h1,e⟩
    ·exact .inl ⟨h1,h2,by omega,h4⟩
theorem prQ_mem(S:List SP)(p:Nat×Nat):∀n,n≤S.length→(p∈prQ S n↔p.1<n∧p.1<p.2∧p.2<S.length∧opSP S p.1 p.2=true):=by
 intro n
 induction n with
 | zero=>intro _;simp[prQ]
 | succ n ih=>
  intro hn;rw[prQ,List.mem_append,ih (by omega),prJ_mem];constructor
  ·rintro(⟨h1,h2,h3,h4⟩|⟨h1,h2,h3,h4⟩)
   ·exact⟨by omega,h2,h3,h4⟩
   ·exact⟨by omega,by omega,by omega,h4⟩
  ·rintro⟨h1,h2,h3,h4⟩
   by_cases e:p.1=n
   ·exact .inr ⟨e,by omega,by omega,h4⟩
   ·exact .inl ⟨by omega,h2,h3,h4⟩
theorem prJ_len(S:List SP)(i:Nat):∀c,(prJ S i c).length≤c:=by
 intro c
 induction c with
 | zero=>exact Nat.le_refl _
 | succ c ih=>rw[prJ,List.length_append];split<;>simp<;>omega
theorem prQ_len(S:List SP)(h:S.length≤1000):∀n,(prQ S n).length≤n*1000:=by
 intro n
 induction n with
 | zero=>exact Nat.le_refl _
 | succ n ih=>rw[prQ,List.length_append];have:=prJ_len S n (S.length-(n+1));omega
theorem edS_edge{p:List UInt8}{F:List ST}(ha:Acc p (mksS F)){a b:Nat}(h5:a<5)(hb5:b<5):edS F a b=true↔edgeT (TKp p) (lkU a) (lkU b):=by
 rw[←edge_iff ha (lkU_in h5),lkU_nat hb5];rw[edS,List.any_eq_true];have hb':((65+b:Nat):Int)-65=(b:Int):=by omega
 have hk:∀s:ST,lkM ⟨3,s.place,s.thread,s.num,s.h0,s.h1,s.h2,s.h3,s.h4⟩ (lkU a)=hOfS s a:=by
  intro s;have:a=0∨a=1∨a=2∨a=3∨a=4:=by omega
  rcases this with rfl|rfl|rfl|rfl|rfl<;>simp[lkM,hOfS,lkU]
 constructor
 ·rintro⟨s,hs,h⟩;simp only[Bool.and_eq_true,beq_iff_eq]at h;refine⟨⟨3,s.place,s.thread,s.num,s.h0,s.h1,s.h2,s.h3,s.h4⟩,?_,rfl,by rw[hb'];exact h.2.1,by rw[hk];exact h.2.2⟩;rw[mksS,List.mem_filterMap];exact⟨s,hs,by rw[mkS,if_pos h.1]⟩
 ·rintro⟨m,hm,h3,hn,hl⟩;rw[mksS,List.mem_filterMap]at hm;obtain⟨s,hs,e⟩:=hm;rw[mkS]at e
  split at e
  ·next h6=>
   have:=Option.some.inj e;subst this;refine⟨s,hs,?_⟩;rw[hk]at hl;rw[hb']at hn;simp only[Bool.and_eq_true,beq_iff_eq];exact⟨h6,hn,hl⟩
  ·next h6=>
   split at e
   ·next h1=>
    have:=Option.some.inj e;subst this;simp only at h3;omega
   ·cases e
theorem spok_of{p:List UInt8}{F:List ST}(ha:Acc p (mksS F))(hmd:∀a∈splitBar p,MD [] [] a)(h60:(60:UInt8)∉p) :
  SpOk (accS F) (acs 1 [] p) (tks [] p) (edS F) (spots (accS F)) (prQ (spots (accS F)) (spots (accS F)).length):=by
 have hix:=marks_idx ha;rw[accS_mks]at hix;obtain⟨i1,_,i3⟩:=hix;have htd:∀a∈splitBar p,TD [] [] a:=fun a h=>(hmd a h).td
 have hlk:=tks_locks htd;have hfour:∀x∈tks [] p,inU [65,66,67,68] x.2.1=true:=fun x hx=>by
  obtain⟨a,ha',hxa⟩:=(tks_split p htd x).1 hx;exact md_four (hmd a ha') (fun h=>h60 (split_sub p a ha' 60 h)) [] x (by simpa using hxa)
 have n69:∀l,inU [65,66,67,68] l=true→l≠69:=fun l h e=>by subst e;exact absurd h (by decide)
 refine⟨spots_ok _,by rw[i1];simp,fun k m x hm hx=>?_,fun x hx l hl=>?_,hlk,fun x hx e=>h60 (by rw[←e];exact tks_first [] p x hx),fun x hx h69=>?_,fun x hx h69=>?_,fun a b h5 hb5=>edS_edge ha h5 hb5,fun q=>?_⟩
 ·obtain⟨x',q,e1,_,e3,_⟩:=i3 k (mkAcc m) (by rw[List.getElem?_map,hm];rfl);rw[hx]at e1;have:=Option.some.inj e1;subst this;exact e3
 ·rcases acs_held 1 [] p x hx l hl with h|⟨y,hy,rfl⟩
  ·cases h
  ·exact(hlk y hy).1
 ·rcases acs_held 1 [] p x hx 69 h69 with h|⟨y,hy,e⟩
  ·cases h
  ·exact n69 _ (hfour y hy) e
 ·rcases tks_held [] p x hx 69 h69 with h|⟨y,hy,e⟩
  ·cases h
  ·exact n69 _ (hfour y hy) e
 ·rw[prQ_mem _ _ _ (Nat.le_refl _)];constructor
  ·rintro⟨h1,h2,h3,h4⟩;refine⟨h2,?_⟩;rw[opSP]at h4;cases e1:(spots (accS F))[q.1]? with
   | none=>rw[e1]at h4;cases h4
   | some a=>
    cases e2:(spots (accS F))[q.2]? with
    | none=>rw[e1,e2]at h4;cases h4
    | some b=>rw[e1,e2]at h4;exact⟨a,b,rfl,rfl,h4⟩
  ·rintro⟨h2,a,b,e1,e2,h4⟩;have l1:=(List.getElem?_eq_some_iff.1 e1).1;have l2:=(List.getElem?_eq_some_iff.1 e2).1;exact⟨l1,h2,l2,by rw[opSP,e1,e2];exact h4⟩
theorem acs_na(th:Int)(now s:List UInt8):(acs th now s).length=na s:=by
 fun_induction acs th now s with
 | case1 th now=>rfl
 | case2 th now c=>rfl
 | case3 th now c v s h ih=>rw[na_acc h,List.length_cons,ih]
 | case4 th now v s h ih=>rw[na_two (.inl rfl),ih]
 | case5 th now c v s h1 h2 h ih=>rw[na,if_neg h1,if_pos (by rcases h with h|h<;>simp[h]),ih]
 | case6 th now c v s h1 h2 h3 h ih=>rw[na,if_neg h1,if_neg (by rcases h with rfl|rfl<;>decide),ih]
 | case7 th now v s _ _ _ _ ih=>rw[na,if_neg (by decide),if_neg (by decide),ih]
 | case8 th now c v s h1 h2 h3 h4 h5 ih=>
  rw[na,if_neg h1,if_neg (by rintro(e|e|e);exact h2 e;exact h3 (.inl e);exact h3 (.inr e)),ih]
theorem lay_size(ch:Nat→Option UInt8):∀(n:Nat) (s:List UInt8) (k:Nat),s.length≤n→(lay ch k s).length=s.length+3*cst ch k (na s):=by
 intro n
 induction n with
 | zero=>intro s k hn;have:s=[]:=List.length_eq_zero_iff.1 (by omega);subst this;rfl
 | succ n ih=>
  intro s k hn
  match s,hn with
  | [],_=>rfl
  | [c],_=>rfl
  | c::v::s,hn=>
   simp only[List.length_cons]at hn
   by_cases h1:c=103∨c=112
   ·rw[lay_acc h1,na_acc h1,List.length_append,ih s (k+1) (by omega),cst];cases ch k with
    | none=>simp;omega
    | some l=>simp;omega
   ·by_cases h2:c=105∨c=91∨c=60
    ·rw[lay,if_neg h1,if_pos h2,na,if_neg h1,if_pos h2,List.length_cons,List.length_cons,ih s k (by omega)];simp;omega
    ·rw[lay,if_neg h1,if_neg h2,na,if_neg h1,if_neg h2,List.length_cons,ih (v::s) k (by simp;omega)];simp;omega
theorem lay_cost(ch:Nat→Option UInt8)(hch:∀k l,ch k=some l→l≠60):∀(n:Nat) (s:List UInt8) (k:Nat),s.length≤n→(60:UInt8)∉s→ltC (lay ch k s)=cst ch k (na s):=by
 intro n
 induction n with
 | zero=>intro s k hn _;have:s=[]:=List.length_eq_zero_iff.1 (by omega);subst this;rfl
 | succ n ih=>
  intro s k hn h60
  match s,hn,h60 with
  | [],_,_=>rfl
  | [c],_,h60=>
   have hc:c≠60:=fun e=>h60 (by simp[e])
   rw[lay,ltC_cons,if_neg hc];rfl
  | c::v::s,hn,h60=>
   simp only[List.length_cons]at hn;have hc:c≠60:=fun e=>h60 (by simp[e])
   have hv:v≠60:=fun e=>h60 (by simp[e])
   have hs:(60:UInt8)∉s:=fun e=>h60 (by simp[e])
   by_cases h1:c=103∨c=112
   ·rw[lay_acc h1,na_acc h1,ltC_app,ih s (k+1) (by omega) hs,cst];cases hk:ch k with
    | none=>simp[hc,hv,ltC]
    | some l=>
     have hl:=hch k l hk;simp[hc,hv,hl,ltC]
   ·by_cases h2:c=105∨c=91∨c=60
    ·rw[lay,if_neg h1,if_pos h2,na,if_neg h1,if_pos h2,ltC_cons,ltC_cons,if_neg hc,if_neg hv,ih s k (by omega) hs];omega
    ·rw[lay,if_neg h1,if_neg h2,na,if_neg h1,if_neg h2,ltC_cons,if_neg hc,ih (v::s) k (by simp;omega) (fun e=>h60 (by simp at e ⊢;exact .inr e))];omega
theorem lay_md(ch:Nat→Option UInt8)(hc:∀k l,ch k=some l→l≠124):∀(n:Nat) (p:List UInt8),p.length≤n→(60:UInt8)∉p→(∀a∈splitBar p,MD [] [] a)→∀k th,Fits ch k (acs th [] p)→(lay ch k p).length≤240→∀a∈splitBar (lay ch k p),MD [] [] a:=by
 intro n
 induction n with
 | zero=>
  intro p hp _ h k th _ _ a ha;have:p=[]:=List.length_eq_zero_iff.1 (by omega);subst this;exact h a ha
 | succ n ih=>
  intro p hp h60 h k th hf hl a ha
  by_cases hb:(124:UInt8)∈p
  ·obtain⟨u,v,rfl,hu⟩:=List.eq_append_cons_of_mem hb;rw[split_bar hu]at h;have hmu:=h u (by simp);have nu:(60:UInt8)∉u:=fun h=>h60 (by simp[h])
   have nv:(60:UInt8)∉v:=fun h=>h60 (by simp[h])
   rw[acs_body hmu.td,acs_bar]at hf;rw[lay_bar hmu nu]at hl ha;rw[List.length_append,List.length_cons]at hl;rw[split_bar (lay_no hmu nu ch hc k),List.mem_cons]at ha;rcases ha with rfl|ha
   ·exact hmu.lay nu ch k th [] (fun l hl=>hl) (by simpa using hf.left) (by omega)
   ·refine ih v (by simp at hp;omega) nv (fun b hb=>h b (by simp[hb])) (k+na u) (th+1) ?_ (by omega) a ha;have:=hf.right;rw[acs_na]at this;exact this
  ·rw[split_none hb]at h;have hmp:=h p (by simp);rw[split_none (lay_no hmp h60 ch hc k),List.mem_singleton]at ha;subst ha;exact hmp.lay h60 ch k th [] (fun l hl=>hl) (by simpa using hf) hl
theorem lock_meet{m m':MK}{l:UInt8}(h:lkM m l=true)(h':lkM m' l=true):meetB (hOf m) (hOf m')=true:=by
 rw[meetB,List.any_eq_true];simp only[lkM,Bool.or_eq_true,Bool.and_eq_true,beq_iff_eq]at h h';rcases h with(((⟨rfl,h⟩|⟨rfl,h⟩)|⟨rfl,h⟩)|⟨rfl,h⟩)|⟨rfl,h⟩
 ·exact⟨0,by decide,by simp at h';simp[hOf,h,h']⟩
 ·exact⟨1,by decide,by simp at h';simp[hOf,h,h']⟩
 ·exact⟨2,by decide,by simp at h';simp[hOf,h,h']⟩
 ·exact⟨3,by decide,by simp at h';simp[hOf,h,h']⟩
 ·exact⟨4,by decide,by simp at h';simp[hOf,h,h']⟩
theorem prI_nil{l:List MK}{i:Nat}:∀c,(∀q,q<c→opAt l i (i+1+q)=false)→prI l i c=[]:=by
 intro c
 induction c with
 | zero=>intro _;rfl
 | succ c ih=>intro h;rw[prI,ih (fun q hq=>h q (by omega)),h c (by omega)];rfl
theorem prL_nil{l:List MK}:∀n,(∀i k,i<n→i<k→k<l.length→opAt l i k=false)→prL l n=[]:=by
 intro n
 induction n with
 | zero=>intro _;rfl
 | succ n ih=>
  intro h;rw[prL,ih (fun i k hi=>h i k (by omega)),prI_nil _ (fun q hq=>h n (n+1+q) (by omega) (by omega) (by omega))];rfl
theorem of_noOpen{mks:List MK}(h:NoOpen mks):prL (accL mks) (accL mks).length=[]:=by
 refine prL_nil _ fun i k hi hk hl=>?_
 have ei:=List.getElem?_eq_getElem hi;have ek:=List.getElem?_eq_getElem hl;have m1:=List.mem_of_getElem? ei;have m2:=List.mem_of_getElem? ek;rw[opAt,ei,ek];simp only;generalize (accL mks)[i]=m at m1;generalize (accL mks)[k]=m' at m2;rw[accL,List.mem_filter]at m1 m2;cases ho:opMK m m' with
 | false=>rfl
 | true=>
  exfalso
  simp only[opMK,Bool.and_eq_true,Bool.not_eq_true',bne_iff_ne,beq_iff_eq,Bool.or_eq_true]at ho;obtain⟨h1,h2,h3,h4⟩:=ho;obtain⟨l,l1,l2⟩:=h m m1.1 m' m2.1 (by have:=m1.2;simpa[isAcc]using this) (by have:=m2.2;simpa[isAcc]using this) h2 h3 h4;rw[lock_meet l1 l2]at h1;cases h1
def regL(S:List SP):List (Int×Int):=S.flatMap fun s=>if s.lock=-1 then []else s.pls.map fun q=>(q,s.lock)
theorem flat_one{α β:Type}(g:α→List β):∀(L:List α) (i:Nat) (x:α),L[i]?=some x→(∀j y,j≠i→L[j]?=some y→g y=[])→L.flatMap g=g x:=by
 intro L
 induction L with
 | nil=>intro i x h;simp at h
 | cons y r ih=>
  intro i x h hn;rw[List.flatMap_cons];cases i with
  | zero=>
   simp at h;subst h;have:r.flatMap g=[]:=by
    rw[List.flatMap_eq_nil_iff];intro z hz;obtain⟨j,hj⟩:=List.getElem?_of_mem hz;exact hn (j+1) z (by omega) (by simpa using hj)
   rw[this,List.append_nil]
  | succ i=>
   rw[hn 0 y (by omega) rfl,List.nil_append];exact ih i x (by simpa using h) (fun j z hj hz=>hn (j+1) z (by omega) (by simpa using hz))
theorem filter_one:∀(A:List ST) (k:Nat) (m:ST) (q:Int),A[k]?=some m→m.place=q→(∀k' m',A[k']?=some m'→m'.place=q→k'=k)→(A.filter fun x=>x.place==q)=[m]:=by
 intro A
 induction A with
 | nil=>intro k m q h;simp at h
 | cons y r ih=>
  intro k m q h hm hu;rw[List.filter_cons];cases k with
  | zero=>
   simp at h;subst h;have:(r.filter fun x=>x.place==q)=[]:=by
    rw[List.filter_eq_nil_iff];intro z hz hzq;obtain⟨j,hj⟩:=List.getElem?_of_mem hz;have:=hu (j+1) z (by simpa using hj) (by simpa using hzq);omega
   rw[if_pos (by simpa using hm),this]
  | succ k=>
   have:¬(y.place==q)=true:=fun e=>by
    have:=hu 0 y rfl (by simpa using e);omega
   rw[if_neg this];exact ih k m q (by simpa using h) hm (fun j z hj hz=>by have:=hu (j+1) z (by simpa using hj) hz;omega)
theorem apos_inc:∀(n:Nat) (s:List UInt8) (a:Nat),s.length≤n→(apos a s).Pairwise (·<·):=by
 intro n
 induction n with
 | zero=>intro s a hn;have:s=[]:=List.length_eq_zero_iff.1 (by omega);subst this;exact List.Pairwise.nil
 | succ n ih=>
  intro s a hn
  match s,hn with
  | [],_=>exact List.Pairwise.nil
  | [_],_=>exact List.Pairwise.nil
  | c::v::s,hn=>
   simp only[List.length_cons]at hn;rw[apos]
   split
   ·refine List.Pairwise.cons (fun q hq=>?_) (ih s (a+2) (by omega));have:=(apos_ge _ _ _ (Nat.le_refl _) q hq).1;omega
   ·split
    ·exact ih s (a+2) (by omega)
    ·exact ih (v::s) (a+1) (by simp;omega)
theorem reg_ok{A:List ST}{S S':List SP}{Q:List Nat}(h:SpI A S)(hb:bsS S'=bsS S)(hr:∀i,-1≤lkS S' i∧lkS S' i<5)(hl:Q.length=A.length)(hq:∀(k:Nat) (m:ST),A[k]?=some m→∃q,Q[k]?=some q∧m.place=(q:Int))(hinc:Q.Pairwise (·<·)) :
  RegOk (regL S') Q (chX A S (lkS S'))∧∀r∈regL S',0≤r.2∧r.2<5:=by
 have spot:∀(i:Nat) (s':SP),S'[i]?=some s'→s'.pls=(A.filter fun m=>clS S m==i).map ST.place∧s'.lock=lkS S' i:=by
  intro i s' hs';obtain⟨s,hs,_,e⟩:=bsS_some hb.symm hs';refine⟨by rw[←e];exact h.pls i s hs,?_⟩;rw[lkS,hs']
 have inj:∀(k k':Nat) (q:Nat),Q[k]?=some q→Q[k']?=some q→k=k':=by
  intro k k' q h1 h2;obtain⟨l1,e1⟩:=List.getElem?_eq_some_iff.1 h1;obtain⟨l2,e2⟩:=List.getElem?_eq_some_iff.1 h2;rw[List.pairwise_iff_getElem]at hinc
  by_cases h:k=k'
  ·exact h
  ·by_cases hlt:k<k'
   ·have:=hinc k k' l1 l2 hlt;omega
   ·have:=hinc k' k l2 l1 (by omega);omega
 have mem:∀r∈regL S',∃(i:Nat) (s':SP),S'[i]?=some s'∧s'.lock≠-1∧r.2=s'.lock∧r.1∈s'.pls:=by
  intro r hr';rw[regL,List.mem_flatMap]at hr';obtain⟨s',hs',hm⟩:=hr';obtain⟨i,hi⟩:=List.getElem?_of_mem hs'
  split at hm
  ·cases hm
  ·next hne=>
   rw[List.mem_map]at hm;obtain⟨q,hq',rfl⟩:=hm;exact⟨i,s',hi,hne,rfl,hq'⟩
 refine⟨⟨fun r hr'=>?_,fun k q hk=>?_⟩,fun r hr'=>?_⟩
 ·obtain⟨i,s',hi,_,_,hp⟩:=mem r hr';rw[(spot i s' hi).1,List.mem_map]at hp;obtain⟨m,hm,e⟩:=hp;obtain⟨k,hk⟩:=List.getElem?_of_mem (List.mem_filter.1 hm).1;obtain⟨q,hq',e2⟩:=hq k m hk;exact⟨q,List.mem_of_getElem? hq',by rw[←e,e2]⟩
 ·have hkl:k<A.length:=by have:=(List.getElem?_eq_some_iff.1 hk).1;omega
  have hm:=List.getElem?_eq_getElem hkl;generalize A[k]=m at hm;obtain⟨q',hq',e⟩:=hq k m hm;rw[hk]at hq';have:=Option.some.inj hq';subst this;have hone:(A.filter fun x=>x.place==(q:Int))=[m]:=by
   refine filter_one A k m q hm e fun k' m' hm' hp=>?_
   obtain⟨q'',h1,h2⟩:=hq k' m' hm';have:q''=q:=by omega
   subst this;exact inj _ _ _ h1 hk
  have hcl:=h.mem m (List.mem_of_getElem? hm);have hs':=List.getElem?_eq_getElem (show clS S m<S'.length by rw[bsS_len hb];exact hcl);generalize S'[clS S m]'(by rw[bsS_len hb];exact hcl)=s' at hs';have part:∀(j:Nat) (y:SP),S'[j]?=some y→((if y.lock=-1 then []else y.pls.map fun q=>(q,y.lock)).filter fun r=>r.1==(q:Int))=if y.lock=-1 then []else if clS S m=j then [((q:Int),y.lock)]else []:=by
   intro j y hy
   split
   ·rfl
   ·rw[(spot j y hy).1,List.map_map,List.filter_map];have:((fun r:Int×Int=>r.1==(q:Int)) ∘ (fun q=>(q,y.lock)) ∘ ST.place)=fun x=>x.place==(q:Int):=rfl
    rw[this,List.filter_filter,List.filter_congr (q:=fun x=>(clS S x==j)&&(x.place==(q:Int))) (fun x _=>Bool.and_comm _ _),←List.filter_filter,hone]
    by_cases ej:clS S m=j
    ·rw[if_pos ej];simp[ej,e]
    ·rw[if_neg ej];simp[ej]
  rw[regL,List.filter_flatMap];rw[flat_one _ S' (clS S m) s' hs' (fun j y hj hy=>by rw[part j y hy,if_neg (c:=clS S m=j) (fun e=>hj e.symm)];split<;>rfl)];rw[part _ s' hs',if_pos rfl,chX,hm];simp only;rw[(spot _ s' hs').2];have hb:=hr (clS S m);generalize lkS S' (clS S m)=x at hb
  by_cases hx:x=-1
  ·rw[if_pos hx,if_pos hx]
  ·rw[if_neg hx,if_neg hx];simp only;have:x=0∨x=1∨x=2∨x=3∨x=4:=by omega
   rcases this with rfl|rfl|rfl|rfl|rfl<;>rfl
 ·obtain⟨i,s',hi,hne,e,_⟩:=mem r hr';have:=hr i;rw[e,(spot i s' hi).2];rw[(spot i s' hi).2]at hne;omega
structure LeastC(p:List UInt8)(ch:Nat→Option UInt8):Prop where
 rng:∀k l,ch k=some l→inU [65,66,67,68,69] l=true
 good:GoodC (acs 1 [] p) (tks [] p) ch
 least:∀ch',GoodC (acs 1 [] p) (tks [] p) ch'→cst ch 0 (na p)≤cst ch' 0 (na p)
theorem cst_zero(ch:Nat→Option UInt8):∀n k,cst ch k n=0↔∀j,j<n→ch (k+j)=none:=by
 intro n
 induction n with
 | zero=>intro k;simp[cst]
 | succ n ih=>
  intro k;rw[cst];constructor
  ·intro h j hj;have h1:cst ch (k+1) n=0:=by omega
   cases j with
   | zero=>
    cases hc:ch (k+0)with
    | none=>rfl
    | some l=>rw[Nat.add_zero]at hc;rw[hc]at h;simp at h
   | succ j=>have:=(ih (k+1)).1 h1 j (by omega);rw[show k+(j+1)=k+1+j by omega];exact this
  ·intro h;have h0:=h 0 (by omega);rw[Nat.add_zero]at h0;rw[h0,(ih (k+1)).2 (fun j hj=>by rw[show k+1+j=k+(j+1) by omega];exact h (j+1) (by omega))];rfl
theorem layA_same(ch:Nat→Option UInt8):∀(A:List AC) (k:Nat),(∀j,j<A.length→ch (k+j)=none)→layA ch k A=A:=by
 intro A
 induction A with
 | nil=>intro k _;rfl
 | cons x r ih=>
  intro k h;have h0:=h 0 (by simp);rw[Nat.add_zero]at h0;rw[layA,h0,ih (k+1) (fun j hj=>by rw[show k+1+j=k+(j+1) by omega];exact h (j+1) (by simp;omega))]
theorem layT_same(ch:Nat→Option UInt8):∀(A:List AC) (k:Nat),(∀j,j<A.length→ch (k+j)=none)→layT ch k A=[]:=by
 intro A
 induction A with
 | nil=>intro k _;rfl
 | cons x r ih=>
  intro k h;have h0:=h 0 (by simp);rw[Nat.add_zero]at h0;rw[layT,h0,ih (k+1) (fun j hj=>by rw[show k+1+j=k+(j+1) by omega];exact h (j+1) (by simp;omega))];rfl
theorem none_good{p:List UInt8}{mks:List MK}(ha:Acc p mks)(h60:(60:UInt8)∉p)(hno:prL (accL mks) (accL mks).length=[]):GoodC (acs 1 [] p) (tks [] p) (fun _=>none):=by
 refine⟨fun j x l _ h=>(by cases h),?_,?_⟩
 ·rw[layA_same _ _ _ (fun _ _=>rfl)];exact(noOpen_iff ha).1 (noOpen_of hno)
 ·intro v H ht;rw[layT_same _ _ _ (fun _ _=>rfl)]at ht;rcases ht with ht|ht
  ·exact absurd (tks_first [] p _ ht) h60
  ·cases ht
theorem good_zero{p:List UInt8}{mks:List MK}(ha:Acc p mks){ch:Nat→Option UInt8}(hg:GoodC (acs 1 [] p) (tks [] p) ch)(h0:cst ch 0 (na p)=0):prL (accL mks) (accL mks).length=[]:=by
 have hn:=(cst_zero ch _ _).1 h0;have h1:=hg.2.1;rw[layA_same _ _ _ (fun j hj=>hn j (by rw[acs_na]at hj;exact hj))]at h1;exact of_noOpen ((noOpen_iff ha).2 h1)
theorem LeastC.zero{p:List UInt8}{mks:List MK}{ch:Nat→Option UInt8}(h:LeastC p ch)(ha:Acc p mks)(h60:(60:UInt8)∉p):cst ch 0 (na p)=0↔prL (accL mks) (accL mks).length=[]:=by
 constructor
 ·exact good_zero ha h.good
 ·intro hno;have:=h.least _ (none_good ha h60 hno);have e:cst (fun _=>none) 0 (na p)=0:=(cst_zero _ _ _).2 (fun _ _=>rfl);omega
theorem part_len(f:Int×Int→Bool):∀R:List (Int×Int),(R.filter f).length+(R.filter fun r=>!f r).length=R.length:=by
 intro R
 induction R with
 | nil=>rfl
 | cons x r ih=>rw[List.filter_cons,List.filter_cons];cases f x<;>simp<;>omega
theorem reg_len:∀(Q:List Nat) (R:List (Int×Int)),(∀r∈R,∃q∈Q,r.1=(q:Int))→(∀q∈Q,(R.filter fun r=>r.1==(q:Int)).length≤1)→R.length≤Q.length:=by
 intro Q
 induction Q with
 | nil=>
  intro R h _;cases R with
  | nil=>exact Nat.le_refl _
  | cons x r=>obtain⟨q,hq,_⟩:=h x (by simp);cases hq
 | cons q Q ih=>
  intro R h h1;have hp:=part_len (fun r=>r.1==(q:Int)) R
  have:=ih (R.filter fun r=>!(r.1==(q:Int))) (fun r hr=>by
   rw[List.mem_filter]at hr;obtain⟨x,hx,e⟩:=h r hr.1;rcases List.mem_cons.1 hx with rfl|hx
   ·have:=hr.2;simp[e]at this
   ·exact⟨x,hx,e⟩) (fun x hx=>by
   have:=h1 x (by simp[hx]);refine Nat.le_trans ?_ this
   exact((List.filter_sublist).filter _).length_le)
  have h2:=h1 q (by simp);rw[List.length_cons];omega
theorem start_ok3(A:List ST)(E:Nat→Nat→Bool)(P:List (Nat×Nat))(hP:∀p∈P,p.1<(spots A).length∧p.2<(spots A).length):InvS (spots A) P∧LostNo (spots A) P∧FairX E (spots A) (lkS (spots A))∧(∀i,stS (spots A) i=false):=by
 have hs:=spots_ok A;have hl:∀i,lkS (spots A) i=-1:=fun i=>by
  rw[lkS];cases h:(spots A)[i]? with
  | none=>rfl
  | some s=>exact(hs.un i s h).1
 have hu:∀i,stS (spots A) i=false:=fun i=>by
  rw[stS];cases h:(spots A)[i]? with
  | none=>rfl
  | some s=>exact(hs.un i s h).2
 refine⟨⟨fun i=>(by rw[hl];decide),fun i _=>hl i,hP⟩,fun p _ h=>(by rw[hu]at h;cases h),fun i s _ h0=>by rw[hl]at h0;exact absurd h0 (by decide),hu⟩
theorem prQ_lt(S:List SP):∀p∈prQ S S.length,p.1<S.length∧p.2<S.length:=fun p hp=>by
 have:=(prQ_mem S p _ (Nat.le_refl _)).1 hp;exact⟨this.1,this.2.2.1⟩
structure RegsOf(p:List UInt8)(mks:List MK)(R:List (Int×Int))(ch:Nat→Option UInt8):Prop where
 least:LeastC p ch
 text:layP R 0 p=lay ch 0 p
 none:R=[]↔prL (accL mks) (accL mks).length=[]
 lock:∀r∈R,0≤r.2∧r.2<5
 place:∀r∈R,0≤r.1∧r.1<p.length
 len:R.length≤(accL mks).length
theorem chX_rng{A:List ST}{S:List SP}{X:Nat→Int}(hr:RngX X):∀k l,chX A S X k=some l→inU [65,66,67,68,69] l=true:=by
 intro k l h;cases hm:A[k]? with
 | none=>rw[chX,hm]at h;cases h
 | some m=>
  obtain⟨_,x5,rfl⟩:=chX_some hr hm h;exact lkU_in x5
theorem found_regs{p:List UInt8}{F:List ST}(ha:Acc p (mksS F))(hmd:∀a∈splitBar p,MD [] [] a)(h60:(60:UInt8)∉p){S':List SP}{n:Nat}(hf:Found (edS F) (spots (accS F)) S' (prQ (spots (accS F)) (spots (accS F)).length) n)(hmin:∀n':Nat,n'<n→NoneAt (edS F) (spots (accS F)) (prQ (spots (accS F)) (spots (accS F)).length) n') :
  RegsOf p (mksS F) (regL S') (chX (accS F) (spots (accS F)) (lkS S')):=by
 have hok:=spok_of ha hmd h60;have hix:=marks_idx ha;rw[accS_mks]at hix;obtain⟨i1,i2,i3⟩:=hix;have hnl:na p=(accS F).length:=by rw[←acs_na 1 [] p,i1];simp
 have hr:RngX (lkS S'):=hf.inv.rng;have hq:∀(k:Nat) (m:ST),(accS F)[k]?=some m→∃q,(apos 0 p)[k]?=some q∧m.place=(q:Int):=fun k m hm=>by
  obtain⟨x,q,_,e2,_,e4⟩:=i3 k (mkAcc m) (by rw[List.getElem?_map,hm];rfl);exact⟨q,e2,e4⟩
 obtain⟨hreg,hlk⟩:=reg_ok hok.sp hf.bs hf.inv.rng (by rw[i2];simp) hq (apos_inc _ _ _ (Nat.le_refl _));have hch:=chX_rng (A:=accS F) (S:=spots (accS F)) hr;have hcost:=chX_cost hok.sp (lkS S');have hle:LeastC p (chX (accS F) (spots (accS F)) (lkS S')):=by
  refine⟨hch,hok.good hr (hf.closed.bs hf.bs.symm) (hf.fair.bs hf.bs.symm),fun ch' hg=>?_⟩;obtain⟨X,x1,x2,x3,x4⟩:=hok.rival hg;rw[hnl,hcost];refine Nat.le_trans ?_ x4;have hc:=hf.cost
  by_cases h0:n=0
  ·subst h0;have:csX (plS (spots (accS F))) (fun i=>!stS (spots (accS F)) i) (lkS S') (spots (accS F)).length=0:=by omega
   omega
  ·have:=hmin (n-1) (by omega) X x1 (fun i hi=>by
    have hu:=(start_ok3 (accS F) (edS F) _ (prQ_lt _)).2.2.2 i
    rw[hu]at hi;cases hi) x2 x3
   omega
 have hlay:layP (regL S') 0 p=lay (chX (accS F) (spots (accS F)) (lkS S')) 0 p:=
  layP_lay _ _ _ hreg hch p.length p 0 0 (Nat.le_refl _) (by simp) (fun q _=>by omega) (fun j q hj=>by omega)
 refine⟨hle,hlay,?_,hlk,fun r hr'=>?_,?_⟩
 ·rw[←hle.zero ha h60,cst_zero];constructor
  ·intro e j hj;rw[Nat.zero_add];have hjl:j<(apos 0 p).length:=by rw[i2];simp;omega
   have:=hreg.2 j _ (List.getElem?_eq_getElem hjl);rw[e]at this;cases hc:chX (accS F) (spots (accS F)) (lkS S') j with
   | none=>rfl
   | some l=>rw[hc]at this;simp at this
  ·intro h;cases hR:regL S' with
   | nil=>rfl
   | cons r R=>
    exfalso
    obtain⟨q,hq',e⟩:=hreg.1 r (by rw[hR];simp);obtain⟨k,hk⟩:=List.getElem?_of_mem hq';have hkl:=(List.getElem?_eq_some_iff.1 hk).1;rw[i2]at hkl;have h1:=h k (by rw[hnl];simpa using hkl);rw[Nat.zero_add]at h1;have:=hreg.2 k q hk;rw[h1,List.filter_eq_nil_iff]at this;exact this r (by rw[hR];simp) (by simpa using e)
 ·obtain⟨q,hq',e⟩:=hreg.1 r hr';have:=apos_ge _ _ _ (Nat.le_refl _) q hq';omega
 ·have:(accL (mksS F)).length=(apos 0 p).length:=by rw[accS_mks,i2]
  rw[this];refine reg_len _ _ hreg.1 fun q hq'=>?_
  obtain⟨k,hk⟩:=List.getElem?_of_mem hq';rw[hreg.2 k q hk]
  split<;>simp
theorem some_found{p:List UInt8}{F:List ST}(ha:Acc p (mksS F))(hmd:∀a∈splitBar p,MD [] [] a)(h60:(60:UInt8)∉p){n:Nat}(hn:F.length≤n)(h:NoneAt (edS F) (spots (accS F)) (prQ (spots (accS F)) (spots (accS F)).length) n):False:=by
 obtain⟨X,x1,x2,x3,x4⟩:=(spok_of ha hmd h60).any
 have:=h X x1 (fun i hi=>by
  have hu:=(start_ok3 (accS F) (edS F) _ (prQ_lt _)).2.2.2 i
  rw[hu]at hi;cases hi) x2 x3
 have hl:(accS F).length≤F.length:=List.length_filter_le _ _;omega
structure FixOk(p t:List UInt8):Prop where
 acc:∃mks,Acc t mks∧mks.find? nestB=none∧prL (accL mks) (accL mks).length=[]
 fair:FairT (TKp t)
 md:∀a∈splitBar t,MD [] [] a
 four:(splitBar t).length≤4
 str:stp t=p
 len:t.length≤230
theorem fair_congr{T T':UInt8×UInt8×List UInt8→Prop}(h:∀x,T x↔T' x):FairT T↔FairT T':=by
 have:T=T':=by funext x;exact propext (h x)
 rw[this]
theorem ch_bar{ch:Nat→Option UInt8}(hr:∀k l,ch k=some l→inU [65,66,67,68,69] l=true):∀k l,ch k=some l→l≠124:=fun k l h e=>by
 have:=hr k l h;subst e;exact absurd this (by decide)
theorem ch_lt{ch:Nat→Option UInt8}(hr:∀k l,ch k=some l→inU [65,66,67,68,69] l=true):∀k l,ch k=some l→l≠60:=fun k l h e=>by
 have:=hr k l h;subst e;exact absurd this (by decide)
theorem cst_le(ch:Nat→Option UInt8):∀n k,cst ch k n≤n:=by
 intro n
 induction n with
 | zero=>intro k;exact Nat.le_refl _
 | succ n ih=>intro k;rw[cst];have:=ih (k+1);split<;>omega
theorem layL_four(ch:Nat→Option UInt8)(hr:∀k l,ch k=some l→inU [65,66,67,68,69] l=true){p:List UInt8}(h60:(60:UInt8)∉p)(hmd:∀a∈splitBar p,MD [] [] a):(splitBar (lay ch 0 p)).length=(splitBar p).length:=by
 rw[(lay_all ch (ch_bar hr) p h60 hmd 0 1).spl,layL_len]
theorem lay_fix{p:List UInt8}{ch:Nat→Option UInt8}(hl:p.length≤200)(hna:na p≤10)(h60:(60:UInt8)∉p)(hmd:∀a∈splitBar p,MD [] [] a)(h4:(splitBar p).length≤4)(hr:∀k l,ch k=some l→inU [65,66,67,68,69] l=true)(hg:GoodC (acs 1 [] p) (tks [] p) ch):FixOk p (lay ch 0 p):=by
 have hall:=lay_all ch (ch_bar hr) p h60 hmd 0 1;have hlen:=lay_size ch p.length p 0 (Nat.le_refl _);have hcst:=cst_le ch (na p) 0;have hmd':=lay_md ch (ch_bar hr) p.length p (Nat.le_refl _) h60 hmd 0 1 hg.1 (by omega);have h4':(splitBar (lay ch 0 p)).length≤4:=by rw[layL_four ch hr h60 hmd];exact h4
 obtain⟨mks,ha,hn⟩:=md_prog h4' hmd';refine⟨⟨mks,ha,hn,of_noOpen ((noOpen_iff ha).2 ?_)⟩,?_,hmd',h4',hall.str,by omega⟩
 ·rw[hall.acs];exact hg.2.1
 ·exact(fair_congr (fun x=>(hall.tks x).symm)).1 hg.2.2
theorem rival_good{p:List UInt8}{ch:Nat→Option UInt8}(h60:(60:UInt8)∉p)(hmd:∀a∈splitBar p,MD [] [] a)(hr:∀k l,ch k=some l→inU [65,66,67,68,69] l=true){mks:List MK}(ha:Acc (lay ch 0 p) mks)(hl:(lay ch 0 p).length≤240)(hn:mks.find? nestB=none)(hp:prL (accL mks) (accL mks).length=[])(hf:FairT (TKp (lay ch 0 p))):GoodC (acs 1 [] p) (tks [] p) ch:=by
 have hall:=lay_all ch (ch_bar hr) p h60 hmd 0 1;obtain⟨_,hmd'⟩:=acc_threadsM ha hl hn;refine⟨fun j x l hx hc=>?_,?_,(fair_congr (fun x=>hall.tks x)).1 hf⟩
 ·rw[Nat.zero_add]at hc;refine⟨hr j l hc,?_⟩;have hin:((60:UInt8),l,x.2.2.2)∈tks [] (lay ch 0 p):=(hall.tks _).2 (.inr ((layT_mem ch _ _ 0).2 ⟨j,x,l,hx,by rw[Nat.zero_add];exact hc,rfl⟩));obtain⟨a,ha',hxa⟩:=(tks_split _ (fun a h=>(hmd' a h).td) _).1 hin;exact(td_nest (hmd' a ha').td [] (fun l hl=>hl) _ (by simpa using hxa)).2
 ·rw[←hall.acs];exact(noOpen_iff ha).1 (noOpen_of hp)
def preR(R:List (Int×Int))(a:Nat):List UInt8:=(R.filter fun r=>r.1==(a:Int)).flatMap fun r=>[60,UInt8.ofNat (65+r.2.toNat)]
def pstR(R:List (Int×Int))(a:Nat):List UInt8:=(R.filter fun r=>r.1+1==(a:Int)).map fun _=>(62:UInt8)
def layN(R:List (Int×Int))(p:List UInt8):Nat→List UInt8
 | 0=>[]
 | n+1=>layN R p n++(preR R n++(p.getD n 0::pstR R n))
theorem layN_layP(R:List (Int×Int))(p:List UInt8):∀n,n≤p.length→layN R p n++layP R n (p.drop n)=layP R 0 p:=by
 intro n
 induction n with
 | zero=>intro _;rfl
 | succ n ih=>
  intro hn;rw[←ih (by omega),List.drop_eq_getElem_cons (show n<p.length by omega),layP,layN];have:p.getD n 0=p[n]:=by simp[List.getD,List.getElem?_eq_getElem (show n<p.length by omega)]
  rw[this,preR,pstR];simp only[List.append_assoc,List.cons_append]
theorem layN_all(R:List (Int×Int))(p:List UInt8):layN R p p.length=layP R 0 p:=by
 have:=layN_layP R p p.length (Nat.le_refl _);rw[List.drop_length]at this;simpa[layP]using this
theorem preR_snoc{R:List (Int×Int)}{i:Nat}{r:Int×Int}(h:R[i]?=some r)(a:Nat):preR (R.take (i+1)) a=preR (R.take i) a++(if r.1==(a:Int)then [60,UInt8.ofNat (65+r.2.toNat)]else []):=by
 obtain⟨hk,rfl⟩:=List.getElem?_eq_some_iff.1 h;rw[List.take_succ_eq_append_getElem hk,preR,List.filter_append,List.flatMap_append,List.filter_cons,List.filter_nil]
 congr 1
 split<;>simp
theorem pstR_snoc{R:List (Int×Int)}{i:Nat}{r:Int×Int}(h:R[i]?=some r)(a:Nat):pstR (R.take (i+1)) a=pstR (R.take i) a++(if r.1+1==(a:Int)then [62]else []):=by
 obtain⟨hk,rfl⟩:=List.getElem?_eq_some_iff.1 h;rw[List.take_succ_eq_append_getElem hk,pstR,List.filter_append,List.map_append,List.filter_cons,List.filter_nil]
 congr 1
 split<;>simp
theorem preR_len(R:List (Int×Int))(a:Nat):(preR R a).length≤2*R.length:=by
 have:∀L:List (Int×Int),(L.flatMap fun r=>[60,UInt8.ofNat (65+r.2.toNat)]).length=2*L.length:=by
  intro L
  induction L with
  | nil=>rfl
  | cons x r ih=>rw[List.flatMap_cons,List.length_append,ih];simp;omega
 rw[preR,this];have:=List.length_filter_le (fun r:Int×Int=>r.1==(a:Int)) R;omega
theorem pstR_len(R:List (Int×Int))(a:Nat):(pstR R a).length≤R.length:=by
 rw[pstR,List.length_map];exact List.length_filter_le _ _
theorem layN_len(R:List (Int×Int))(p:List UInt8)(hR:R.length≤1000):∀n,(layN R p n).length≤3001*n:=by
 intro n
 induction n with
 | zero=>exact Nat.le_refl _
 | succ n ih=>
  have h1:=preR_len R n;have h2:=pstR_len R n;rw[layN];simp only[List.length_append,List.length_cons];omega
inductive RepIs(s t:ByteArray)(a e:Int):Prop
 | err (b:Int):ChkIs s e b→e≠0→a=0→t=⟨#[]⟩→RepIs s t a e
 | mend (b:Int):ChkIs s 0 b→(60:UInt8)∈s.data.toList→e=5→a=0→t=⟨#[]⟩→RepIs s t a e
 | many (b:Int) (mks:List MK):ChkIs s 0 b→Acc s.data.toList mks→(60:UInt8)∉s.data.toList→10<(accL mks).length∨200<s.size→e=6→a=0→t=⟨#[]⟩→RepIs s t a e
 | ok (b:Int) (mks:List MK) (ch:Nat→Option UInt8):ChkIs s 0 b→Acc s.data.toList mks→(60:UInt8)∉s.data.toList→(accL mks).length≤10→s.size≤200→LeastC s.data.toList ch→t.data.toList=lay ch 0 s.data.toList→e=0 →
   (prL (accL mks) (accL mks).length=[]∧a=1∧t=s)∨(prL (accL mks) (accL mks).length≠[]∧a=2)→RepIs s t a e
theorem acc_na{p:List UInt8}{mks:List MK}(ha:Acc p mks):(accL mks).length=na p:=by
 rw[←acs_na 1 [] p,(marks_idx ha).1]
theorem chk_md{s:ByteArray}{b:Int}(h:ChkIs s 0 b):(splitBar s.data.toList).length≤4∧∀a∈splitBar s.data.toList,MD [] [] a:=by
 rcases h with⟨_,h,_⟩|⟨hl,⟨q,_,h,_⟩|⟨m,hm,h,_⟩⟩
 ·exact absurd h (by decide)
 ·exact absurd h (by decide)
 ·refine acc_threadsM hm (by rw[len_eq];exact hl) ?_;rw[nestOf]at h
  split at h
  ·assumption
  ·exact absurd h (by simp)
theorem chk_of{t:ByteArray}{mks:List MK}(hl:t.size≤240)(ha:Acc t.data.toList mks)(hn:mks.find? nestB=none):ChkIs t 0 0:=
 .inr ⟨hl,.inr ⟨mks,ha,by rw[nestOf,hn],by rw[nestOf,hn]⟩⟩
theorem least_fix{s:ByteArray}{b:Int}{mks:List MK}{ch:Nat→Option UInt8}(hc:ChkIs s 0 b)(ha:Acc s.data.toList mks)(h60:(60:UInt8)∉s.data.toList)(h10:(accL mks).length≤10)(h200:s.size≤200)(hl:LeastC s.data.toList ch):FixOk s.data.toList (lay ch 0 s.data.toList):=by
 obtain⟨h4,hmd⟩:=chk_md hc;exact lay_fix (by rw[len_eq];exact h200) (by rw[←acc_na ha];exact h10) h60 hmd h4 hl.rng hl.good
end Go.Proofs.YtdgkpkdinfklaabGreat
