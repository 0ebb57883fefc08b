import Derived.Test.YtdgkpkdinfklaabGreatGT
import Derived.Test.YtdgkpkdinfklaabGreatGY
namespace Go.Proofs.YtdgkpkdinfklaabGreat
def givesD(a:Did):Bool:=a.what==93||a.what==62
def takesD(b:Did):Bool:=b.what==91||b.what==60
def tellD(a b:Did):Bool:=a.thread==b.thread||(givesD a&&takesD b&&a.of==b.of)
inductive Kn(l:List Did):Nat→Nat→Prop
 | one {i j:Nat} {a b:Did}:i<j→l[i]?=some a→l[j]?=some b→tellD a b=true→Kn l i j
 | more {h i j:Nat} {a b:Did}:Kn l h i→i<j→l[i]?=some a→l[j]?=some b→tellD a b=true→Kn l h j
theorem Kn.lt{l:List Did}{i j:Nat}(h:Kn l i j):i<j∧j<l.length:=by
 induction h with
 | one h1 _ h3 _=>exact⟨h1,(List.getElem?_eq_some_iff.1 h3).1⟩
 | more _ h1 _ h3 _ ih=>exact⟨by omega,(List.getElem?_eq_some_iff.1 h3).1⟩
theorem some_app{l m:List Did}{i:Nat}{a:Did}(h:l[i]?=some a):(l++m)[i]?=some a:=by
 rw[List.getElem?_append_left (List.getElem?_eq_some_iff.1 h).1];exact h
theorem some_old{l:List Did}{d:Did}{i:Nat}{a:Did}(h:(l++[d])[i]?=some a)(hi:i<l.length):l[i]?=some a:=by
 rw[List.getElem?_append_left hi]at h;exact h
theorem some_new{l:List Did}{d:Did}:(l++[d])[l.length]?=some d:=by simp
theorem Kn.app{l m:List Did}{i j:Nat}(h:Kn l i j):Kn (l++m) i j:=by
 induction h with
 | one h1 h2 h3 h4=>exact .one h1 (some_app h2) (some_app h3) h4
 | more _ h1 h2 h3 h4 ih=>exact .more ih h1 (some_app h2) (some_app h3) h4
theorem Kn.old{l:List Did}{d:Did}{i j:Nat}(h:Kn (l++[d]) i j):j<l.length→Kn l i j:=by
 induction h with
 | one h1 h2 h3 h4=>exact fun hj=>.one h1 (some_old h2 (by omega)) (some_old h3 hj) h4
 | more _ h1 h2 h3 h4 ih=>exact fun hj=>.more (ih (by omega)) h1 (some_old h2 (by omega)) (some_old h3 hj) h4
theorem Kn.new{l:List Did}{d:Did}{i:Nat}:Kn (l++[d]) i l.length↔∃(h:Nat) (a:Did),l[h]?=some a∧tellD a d=true∧(i=h∨Kn l i h):=by
 constructor
 ·intro h;generalize hn:l.length=n at h;cases h with
  | one h1 h2 h3 h4=>
   subst hn;rw[some_new]at h3;have:=Option.some.inj h3;subst this;exact⟨i,_,some_old h2 h1,h4,.inl rfl⟩
  | more h0 h1 h2 h3 h4=>
   subst hn;rw[some_new]at h3;have:=Option.some.inj h3;subst this;exact⟨_,_,some_old h2 h1,h4,.inr (h0.old h1)⟩
 ·rintro⟨h,a,ha,ht,e|e⟩
  ·subst e;exact .one (List.getElem?_eq_some_iff.1 ha).1 (some_app ha) some_new ht
  ·exact .more e.app (List.getElem?_eq_some_iff.1 ha).1 (some_app ha) some_new ht
def AtT(l:List Did)(x:Int)(i:Nat):Prop:=∃(j:Nat) (b:Did),l[j]?=some b∧b.thread=x∧(i=j∨Kn l i j)
def AtL(l:List Did)(o:UInt8)(i:Nat):Prop:=∃(j:Nat) (b:Did),l[j]?=some b∧givesD b=true∧b.of=o∧(i=j∨Kn l i j)
theorem Kn.newIff{l:List Did}{d:Did}{i:Nat}:Kn (l++[d]) i l.length↔AtT l d.thread i∨(takesD d=true∧AtL l d.of i):=by
 rw[Kn.new];constructor
 ·rintro⟨h,a,ha,ht,e⟩;unfold tellD at ht;rw[Bool.or_eq_true,Bool.and_eq_true,Bool.and_eq_true]at ht;rcases ht with ht|⟨⟨h1,h2⟩,h3⟩
  ·exact .inl ⟨h,a,ha,eq_of_beq ht,e⟩
  ·exact .inr ⟨h2,h,a,ha,h1,eq_of_beq h3,e⟩
 ·rintro(⟨h,a,ha,ht,e⟩|⟨h2,h,a,ha,h1,h3,e⟩)
  ·exact⟨h,a,ha,by unfold tellD;rw[ht];simp,e⟩
  ·exact⟨h,a,ha,by unfold tellD;rw[h1,h2,h3];simp,e⟩
theorem AtT.newIff{l:List Did}{d:Did}{x:Int}{i:Nat}:AtT (l++[d]) x i↔AtT l x i∨(x=d.thread∧(i=l.length∨(takesD d=true∧AtL l d.of i))):=by
 constructor
 ·rintro⟨j,b,hb,hx,e⟩;have hjl:j<l.length+1:=by simpa using(List.getElem?_eq_some_iff.1 hb).1
  by_cases hj:j<l.length
  ·exact .inl ⟨j,b,some_old hb hj,hx,e.imp id fun k=>k.old hj⟩
  ·have:j=l.length:=by omega
   subst this;rw[some_new]at hb;have:=Option.some.inj hb;subst this;rcases e with e|e
   ·exact .inr ⟨hx.symm,.inl e⟩
   ·rcases Kn.newIff.1 e with e|e
    ·rw[hx]at e;exact .inl e
    ·exact .inr ⟨hx.symm,.inr e⟩
 ·rintro(⟨j,b,hb,hx,e⟩|⟨hx,e⟩)
  ·exact⟨j,b,some_app hb,hx,e.imp id fun k=>k.app⟩
  ·refine⟨l.length,d,some_new,hx.symm,e.imp id fun k=>Kn.newIff.2 (.inr k)⟩
theorem AtL.newIff{l:List Did}{d:Did}{o:UInt8}{i:Nat}:AtL (l++[d]) o i↔AtL l o i∨(givesD d=true∧o=d.of∧(i=l.length∨AtT l d.thread i)):=by
 constructor
 ·rintro⟨j,b,hb,hg,hx,e⟩;have hjl:j<l.length+1:=by simpa using(List.getElem?_eq_some_iff.1 hb).1
  by_cases hj:j<l.length
  ·exact .inl ⟨j,b,some_old hb hj,hg,hx,e.imp id fun k=>k.old hj⟩
  ·have:j=l.length:=by omega
   subst this;rw[some_new]at hb;have:=Option.some.inj hb;subst this;refine .inr ⟨hg,hx.symm,e.imp id fun k=>?_⟩;rcases Kn.newIff.1 k with e|⟨e,_⟩
   ·exact e
   ·unfold givesD at hg;unfold takesD at e;rw[Bool.or_eq_true,beq_iff_eq,beq_iff_eq]at hg e;rcases hg with h1|h1<;>rcases e with h2|h2<;>rw[h1]at h2<;>exact absurd h2 (by decide)
 ·rintro(⟨j,b,hb,hg,hx,e⟩|⟨hg,hx,e⟩)
  ·exact⟨j,b,some_app hb,hg,hx,e.imp id fun k=>k.app⟩
  ·exact⟨l.length,d,some_new,hg,hx.symm,e.imp id fun k=>Kn.newIff.2 (.inl k)⟩
def cntD(l:List Did)(x:Int):Nat:=(l.filter fun a=>a.thread==x).length
def ordD(l:List Did)(i:Nat)(x:Int):Nat:=cntD (l.take (i+1)) x
theorem cnt_new(l:List Did)(d:Did)(x:Int):cntD (l++[d]) x=cntD l x+if d.thread=x then 1 else 0:=by
 unfold cntD;rw[List.filter_append,List.length_append]
 by_cases h:d.thread=x
 ·simp[h]
 ·simp[h]
theorem ord_old{l:List Did}{i:Nat}(d:Did)(x:Int)(h:i<l.length):ordD (l++[d]) i x=ordD l i x:=by
 unfold ordD;rw[List.take_append_of_le_length (by omega)]
theorem ord_new(l:List Did)(d:Did)(x:Int):ordD (l++[d]) l.length x=cntD (l++[d]) x:=by
 unfold ordD;rw[List.take_of_length_le (by simp)]
theorem ord_le(l:List Did)(i:Nat)(x:Int):ordD l i x≤cntD l x:=by
 unfold ordD cntD;exact((List.take_sublist _ _).filter _).length_le
theorem ck_set_self(k:CK){x:Nat}(h:x<4)(v:Int):(k.set x v).get x=v:=by
 rcases four h with rfl|rfl|rfl|rfl<;>rfl
theorem ck_set_ne(k:CK){x y:Nat}(h:x<4)(h':y<4)(hn:x≠y)(v:Int):(k.set x v).get y=k.get y:=by
 rcases four h with rfl|rfl|rfl|rfl<;>rcases four h' with rfl|rfl|rfl|rfl<;>first|rfl|exact absurd rfl hn
theorem ck_learn(k m:CK){x:Nat}(h:x<4):(k.learn m).get x=mx (k.get x) (m.get x):=by
 rcases four h with rfl|rfl|rfl|rfl<;>rfl
theorem ck_misses(k m:CK):k.misses m=true↔∃x:Nat,x<4∧k.get x<m.get x:=by
 unfold CK.misses;simp only[Bool.or_eq_true,decide_eq_true_eq];constructor
 ·rintro(((h|h)|h)|h)
  ·exact⟨0,by decide,h⟩
  ·exact⟨1,by decide,h⟩
  ·exact⟨2,by decide,h⟩
  ·exact⟨3,by decide,h⟩
 ·rintro⟨x,hx,h⟩;rcases four hx with rfl|rfl|rfl|rfl
  ·exact .inl (.inl (.inl h))
  ·exact .inl (.inl (.inr h))
  ·exact .inl (.inr h)
  ·exact .inr h
def Thrd(l:List Did):Prop:=∀a∈l,∃x:Nat,x<4∧a.thread=(x:Int)
def Clk(l:List Did)(p:Nat→Prop)(k:CK):Prop:=
 (∀(j:Nat) (a:Did) (x:Nat),l[j]?=some a→a.thread=(x:Int)→x<4→(p j↔(ordD l j x:Int)≤k.get x))∧∀x:Nat,x<4→0≤k.get x∧k.get x≤cntD l x
theorem Clk.keep{l:List Did}{p p':Nat→Prop}{k:CK}(h:Clk l p k)(d:Did)(hp:∀j,j<l.length→(p' j↔p j))(hn:¬p' l.length):Clk (l++[d]) p' k:=by
 refine⟨fun j a x hj ha hx=>?_,fun x hx=>?_⟩
 ·by_cases hjl:j<l.length
  ·rw[hp j hjl,ord_old d x hjl];exact h.1 j a x (some_old hj hjl) ha hx
  ·have hj1:j<l.length+1:=by simpa using(List.getElem?_eq_some_iff.1 hj).1
   have:j=l.length:=by omega
   subst this;rw[some_new]at hj;have:=Option.some.inj hj;subst this;rw[ord_new,cnt_new,if_pos ha];have:=(h.2 x hx).2;exact⟨fun e=>absurd e hn,fun e=>by omega⟩
 ·have:=h.2 x hx;have h2:=cnt_new l d x;have h3:cntD l x≤cntD (l++[d]) x:=by rw[h2];exact Nat.le_add_right _ _
  omega
theorem Clk.tick{l:List Did}{p p':Nat→Prop}{k:CK}(h:Clk l p k)(d:Did){t:Nat}(ht:t<4)(hd:d.thread=(t:Int))(hk:k.get t=cntD l t)(hp:∀j,j<l.length→(p' j↔p j))(hn:p' l.length):Clk (l++[d]) p' (k.set t (k.get t+1)):=by
 refine⟨fun j a x hj ha hx=>?_,fun x hx=>?_⟩
 ·by_cases hjl:j<l.length
  ·rw[hp j hjl,ord_old d x hjl,h.1 j a x (some_old hj hjl) ha hx]
   by_cases htx:t=x
   ·subst htx;rw[ck_set_self k ht,hk];have:=ord_le l j t;exact⟨fun _=>by omega,fun _=>by omega⟩
   ·rw[ck_set_ne k ht hx htx]
  ·have hj1:j<l.length+1:=by simpa using(List.getElem?_eq_some_iff.1 hj).1
   have:j=l.length:=by omega
   subst this;rw[some_new]at hj;have:=Option.some.inj hj;subst this;have hxt:t=x:=by rw[hd]at ha;omega
   subst hxt;rw[ord_new,cnt_new,if_pos ha,ck_set_self k ht,hk];exact⟨fun _=>by omega,fun _=>hn⟩
 ·have:=h.2 x hx;have h2:=cnt_new l d x
  by_cases htx:t=x
  ·subst htx;rw[if_pos hd]at h2;rw[ck_set_self k ht,hk];omega
  ·rw[ck_set_ne k ht hx htx];have h3:cntD l x≤cntD (l++[d]) x:=by rw[h2];exact Nat.le_add_right _ _
   omega
theorem Clk.learn{l:List Did}{p q:Nat→Prop}{k m:CK}(h:Clk l p k)(g:Clk l q m):Clk l (fun j=>p j∨q j) (k.learn m):=by
 refine⟨fun j a x hj ha hx=>?_,fun x hx=>?_⟩
 ·show(p j∨q j)↔_;rw[h.1 j a x hj ha hx,g.1 j a x hj ha hx,ck_learn k m hx];unfold mx
  split<;>omega
 ·have h1:=h.2 x hx;have h2:=g.2 x hx;rw[ck_learn k m hx];unfold mx
  split<;>omega
theorem Clk.congr{l:List Did}{p q:Nat→Prop}{k:CK}(h:Clk l p k)(hp:∀j,j<l.length→(q j↔p j)):Clk l q k:=
 ⟨fun j a x hj ha hx=>(hp j (List.getElem?_eq_some_iff.1 hj).1).trans (h.1 j a x hj ha hx),h.2⟩
def AccM(l:List Did)(w o:UInt8)(k:CK):Prop:=
 (∀(j:Nat) (a:Did) (x:Nat),l[j]?=some a→a.thread=(x:Int)→x<4→a.what=w→a.of=o→(ordD l j x:Int)≤k.get x) ∧
 ∀x:Nat,x<4→k.get x=0∨∃(j:Nat) (a:Did),l[j]?=some a∧a.thread=(x:Int)∧a.what=w∧a.of=o∧(ordD l j x:Int)=k.get x
theorem AccM.keep{l:List Did}{w o:UInt8}{k:CK}(h:AccM l w o k)(d:Did)(hd:d.what=w→d.of=o→False):AccM (l++[d]) w o k:=by
 refine⟨fun j a x hj ha hx h1 h2=>?_,fun x hx=>?_⟩
 ·by_cases hjl:j<l.length
  ·rw[ord_old d x hjl];exact h.1 j a x (some_old hj hjl) ha hx h1 h2
  ·have hj1:j<l.length+1:=by simpa using(List.getElem?_eq_some_iff.1 hj).1
   have:j=l.length:=by omega
   subst this;rw[some_new]at hj;have:=Option.some.inj hj;subst this;exact(hd h1 h2).elim
 ·rcases h.2 x hx with e|⟨j,a,h1,h2,h3,h4,h5⟩
  ·exact .inl e
  ·exact .inr ⟨j,a,some_app h1,h2,h3,h4,by rw[ord_old d x (List.getElem?_eq_some_iff.1 h1).1];exact h5⟩
theorem AccM.note{l:List Did}{w o:UInt8}{k:CK}(h:AccM l w o k)(d:Did){t:Nat}(ht:t<4)(hd:d.thread=(t:Int))(hw:d.what=w)(ho:d.of=o){v:Int}(hv:v=cntD l t+1):AccM (l++[d]) w o (k.set t v):=by
 have hc:cntD (l++[d]) t=cntD l t+1:=by rw[cnt_new,if_pos hd]
 refine⟨fun j a x hj ha hx h1 h2=>?_,fun x hx=>?_⟩
 ·by_cases htx:t=x
  ·subst htx;rw[ck_set_self k ht];have:=ord_le (l++[d]) j t;omega
  ·rw[ck_set_ne k ht hx htx]
   by_cases hjl:j<l.length
   ·rw[ord_old d x hjl];exact h.1 j a x (some_old hj hjl) ha hx h1 h2
   ·have hj1:j<l.length+1:=by simpa using(List.getElem?_eq_some_iff.1 hj).1
    have:j=l.length:=by omega
    subst this;rw[some_new]at hj;have:=Option.some.inj hj;subst this;exact(htx (by rw[hd]at ha;omega)).elim
 ·by_cases htx:t=x
  ·subst htx;right;refine⟨l.length,d,some_new,hd,hw,ho,?_⟩;rw[ck_set_self k ht,ord_new,hc,hv];rfl
  ·rw[ck_set_ne k ht hx htx];rcases h.2 x hx with e|⟨j,a,h1,h2,h3,h4,h5⟩
   ·exact .inl e
   ·exact .inr ⟨j,a,some_app h1,h2,h3,h4,by rw[ord_old d x (List.getElem?_eq_some_iff.1 h1).1];exact h5⟩
theorem AccM.misses{l:List Did}{w o:UInt8}{k kn:CK}{p:Nat→Prop}(hl:Thrd l)(h:AccM l w o k)(hc:Clk l p kn){t:Nat}(ht:t<4)(hk:kn.get t=cntD l t) :
  (kn.set t (kn.get t+1)).misses k=true↔∃(j:Nat) (a:Did),l[j]?=some a∧a.what=w∧a.of=o∧¬p j:=by
 rw[ck_misses];constructor
 ·rintro⟨x,hx,hlt⟩;have hge:=(hc.2 x hx).1
  by_cases htx:t=x
  ·subst htx;rw[ck_set_self kn ht]at hlt;rcases h.2 t ht with e|⟨j,a,h1,h2,h3,h4,h5⟩
   ·omega
   ·have:=ord_le l j t;omega
  ·rw[ck_set_ne kn ht hx htx]at hlt;rcases h.2 x hx with e|⟨j,a,h1,h2,h3,h4,h5⟩
   ·omega
   ·refine⟨j,a,h1,h3,h4,fun hp=>?_⟩;have:=(hc.1 j a x h1 h2 hx).1 hp;omega
 ·rintro⟨j,a,h1,h3,h4,hp⟩;obtain⟨x,hx,h2⟩:=hl a (List.mem_of_getElem? h1);have hn:¬(ordD l j x:Int)≤kn.get x:=fun e=>hp ((hc.1 j a x h1 h2 hx).2 e)
  have ho:=h.1 j a x h1 h2 hx h3 h4;refine⟨x,hx,?_⟩
  by_cases htx:t=x
  ·subst htx;have:=ord_le l j t;omega
  ·rw[ck_set_ne kn ht hx htx];omega
def Confl(a b:Did):Prop:=a.of=b.of∧a.thread≠b.thread∧(a.what=112∧(b.what=103∨b.what=112)∨a.what=103∧b.what=112)
def RaceAt(l:List Did)(j:Nat):Prop:=∃(i:Nat) (a b:Did),i<j∧l[i]?=some a∧l[j]?=some b∧Confl a b∧¬Kn l i j
theorem RaceAt.old{l:List Did}{d:Did}{j:Nat}(hj:j<l.length):RaceAt (l++[d]) j↔RaceAt l j:=by
 constructor
 ·rintro⟨i,a,b,h1,h2,h3,h4,h5⟩;exact⟨i,a,b,h1,some_old h2 (by omega),some_old h3 hj,h4,fun e=>h5 e.app⟩
 ·rintro⟨i,a,b,h1,h2,h3,h4,h5⟩;exact⟨i,a,b,h1,some_app h2,some_app h3,h4,fun e=>h5 (e.old hj)⟩
theorem AtT.own{l:List Did}{j:Nat}{a:Did}(h:l[j]?=some a):AtT l a.thread j:=⟨j,a,h,rfl,.inl rfl⟩
theorem RaceAt.new{l:List Did}{d:Did}(hd:takesD d=false):RaceAt (l++[d]) l.length↔∃(i:Nat) (a:Did),l[i]?=some a∧a.of=d.of∧(a.what=112∧(d.what=103∨d.what=112)∨a.what=103∧d.what=112)∧¬AtT l d.thread i:=by
 have hk:∀i,Kn (l++[d]) i l.length↔AtT l d.thread i:=fun i=>by rw[Kn.newIff,hd];simp
 constructor
 ·rintro⟨i,a,b,h1,h2,h3,⟨c1,_,c3⟩,h5⟩;rw[some_new]at h3;have:=Option.some.inj h3;subst this;exact⟨i,a,some_old h2 h1,c1,c3,fun e=>h5 ((hk i).2 e)⟩
 ·rintro⟨i,a,h2,c1,c3,h5⟩;refine⟨i,a,d,(List.getElem?_eq_some_iff.1 h2).1,some_app h2,some_new,⟨c1,fun e=>h5 ?_,c3⟩,fun e=>h5 ((hk i).1 e)⟩;rw[←e];exact AtT.own h2
theorem RaceAt.none{l:List Did}{d:Did}(h1:d.what≠103)(h2:d.what≠112):¬RaceAt (l++[d]) l.length:=by
 rintro⟨i,a,b,_,_,h3,⟨_,_,c3⟩,_⟩;rw[some_new]at h3;have:=Option.some.inj h3;subst this;rcases c3 with⟨_,e|e⟩|⟨_,e⟩
 ·exact h1 e
 ·exact h2 e
 ·exact h2 e
theorem AtT.lt{l:List Did}{x:Int}{j:Nat}(h:AtT l x j):j<l.length:=by
 obtain⟨i,b,hb,_,e|e⟩:=h
 ·subst e;exact(List.getElem?_eq_some_iff.1 hb).1
 ·have:=e.lt;omega
theorem AtL.lt{l:List Did}{o:UInt8}{j:Nat}(h:AtL l o j):j<l.length:=by
 obtain⟨i,b,hb,_,_,e|e⟩:=h
 ·subst e;exact(List.getElem?_eq_some_iff.1 hb).1
 ·have:=e.lt;omega
structure Ckd(l:List Did)(ths:List TH)(c:CS):Prop where
 n4:ths.length≤4
 thr:∀a∈l,∃x:Nat,x<ths.length∧a.thread=(x:Int)
 th:∀(i:Nat) (t:TH),ths[i]?=some t→Clk l (AtT l i) t.kn∧t.kn.get i=cntD l i
 lk:∀n:Nat,n<5→Clk l (AtL l (UInt8.ofNat (65+n))) (c.lk.getD n lk0).kn
 hd:∀n:Nat,n<5→∀i:Nat,(c.lk.getD n lk0).holder=(i:Int)+1→∀j,AtL l (UInt8.ofNat (65+n)) j→AtT l i j
 gl:∀n:Nat,n<3→AccM l 103 (UInt8.ofNat (120+n)) (c.gl.getD n gb0).gets∧AccM l 112 (UInt8.ofNat (120+n)) (c.gl.getD n gb0).puts
 rc:c.raced=true↔∃j,RaceAt l j
theorem Ckd.thrd{l:List Did}{ths:List TH}{c:CS}(h:Ckd l ths c):Thrd l:=fun a ha=>by
 obtain⟨x,hx,e⟩:=h.thr a ha;exact⟨x,by have:=h.n4;omega,e⟩
theorem Ckd.upd{l:List Did}{ths:List TH}{c c':CS}{i:Nat}{t t':TH}(h:Ckd l ths c)(hi:ths[i]?=some t)(d:Did)(hd:d.thread=(i:Int))
  (e2:Clk (l++[d]) (AtT (l++[d]) i) t'.kn∧t'.kn.get i=cntD (l++[d]) i)
  (e3:∀n:Nat,n<5→Clk (l++[d]) (AtL (l++[d]) (UInt8.ofNat (65+n))) (c'.lk.getD n lk0).kn)
  (e4:∀n:Nat,n<5→∀i:Nat,(c'.lk.getD n lk0).holder=(i:Int)+1→∀j,AtL (l++[d]) (UInt8.ofNat (65+n)) j→AtT (l++[d]) i j)
  (e5:∀n:Nat,n<3→AccM (l++[d]) 103 (UInt8.ofNat (120+n)) (c'.gl.getD n gb0).gets∧AccM (l++[d]) 112 (UInt8.ofNat (120+n)) (c'.gl.getD n gb0).puts)
  (e6:c'.raced=true↔c.raced=true∨RaceAt (l++[d]) l.length):Ckd (l++[d]) (ths.set i t') c':=by
 have hlt:=(List.getElem?_eq_some_iff.1 hi).1;refine⟨by simpa using h.n4,?_,?_,e3,e4,e5,?_⟩
 ·intro a ha;rw[List.length_set];rcases List.mem_append.1 ha with ha|ha
  ·exact h.thr a ha
  ·rw[List.mem_singleton]at ha;subst ha;exact⟨i,hlt,hd⟩
 ·intro x u hu
  by_cases hix:i=x
  ·subst hix;rw[List.getElem?_set_self hlt]at hu;have:=Option.some.inj hu;subst this;exact e2
  ·rw[List.getElem?_set_ne hix]at hu;obtain⟨h1,h2⟩:=h.th x u hu;have hne:¬((x:Int)=d.thread):=by rw[hd];omega
   have hiff:∀j,AtT (l++[d]) x j↔AtT l x j:=fun j=>by
    rw[AtT.newIff];exact⟨fun e=>e.elim id fun e=>absurd e.1 hne,.inl⟩
   refine⟨h1.keep d (fun j _=>hiff j) (fun e=>Nat.lt_irrefl _ ((hiff _).1 e).lt),?_⟩;rw[cnt_new,if_neg (fun e=>hne e.symm)];exact h2
 ·rw[e6,h.rc];constructor
  ·rintro(⟨j,hj⟩|hj)
   ·have hjl:j<l.length:=by
     obtain⟨_,_,_,_,_,h3,_⟩:=hj;exact(List.getElem?_eq_some_iff.1 h3).1
    exact⟨j,(RaceAt.old hjl).2 hj⟩
   ·exact⟨_,hj⟩
  ·rintro⟨j,hj⟩;have hjl:j<l.length+1:=by
    obtain⟨_,_,_,_,_,h3,_⟩:=hj;simpa using(List.getElem?_eq_some_iff.1 h3).1
   by_cases hj2:j<l.length
   ·exact .inl ⟨j,(RaceAt.old hj2).1 hj⟩
   ·have:j=l.length:=by omega
    subst this;exact .inr hj
theorem Ckd.tick{l:List Did}{ths:List TH}{c:CS}{i:Nat}{t:TH}(h:Ckd l ths c)(hi:ths[i]?=some t)(d:Did)(hd:d.thread=(i:Int))(ht:takesD d=false) :
  Clk (l++[d]) (AtT (l++[d]) i) (t.kn.set i (t.kn.get i+1))∧(t.kn.set i (t.kn.get i+1)).get i=cntD (l++[d]) i:=by
 have hlt:=(List.getElem?_eq_some_iff.1 hi).1;have h4:i<4:=by have:=h.n4;omega
 obtain⟨h1,h2⟩:=h.th i t hi;refine⟨h1.tick d h4 hd h2 (fun j hj=>?_) (AtT.newIff.2 (.inr ⟨hd.symm,.inl rfl⟩)),?_⟩
 ·rw[AtT.newIff,ht];constructor
  ·rintro(e|⟨_,e|⟨e,_⟩⟩)
   ·exact e
   ·omega
   ·cases e
  ·exact .inl
 ·rw[ck_set_self _ h4,cnt_new,if_pos hd,h2];rfl
theorem Ckd.tickTake{l:List Did}{ths:List TH}{c:CS}{i:Nat}{t:TH}(h:Ckd l ths c)(hi:ths[i]?=some t)(d:Did)(hd:d.thread=(i:Int))(ht:takesD d=true){n:Nat}(hn:n<5)(ho:d.of=UInt8.ofNat (65+n)) :
  Clk (l++[d]) (AtT (l++[d]) i) ((t.kn.set i (t.kn.get i+1)).learn (c.lk.getD n lk0).kn)∧((t.kn.set i (t.kn.get i+1)).learn (c.lk.getD n lk0).kn).get i=cntD (l++[d]) i:=by
 have hlt:=(List.getElem?_eq_some_iff.1 hi).1;have h4:i<4:=by have:=h.n4;omega
 obtain⟨h1,h2⟩:=h.th i t hi;have a1:Clk (l++[d]) (fun j=>AtT l i j∨j=l.length) (t.kn.set i (t.kn.get i+1)):=h1.tick d h4 hd h2 (fun j hj=>⟨fun e=>e.elim id fun e=>by omega,.inl⟩) (.inr rfl);have a2:Clk (l++[d]) (AtL l (UInt8.ofNat (65+n))) (c.lk.getD n lk0).kn:=(h.lk n hn).keep d (fun j _=>Iff.rfl) (fun e=>Nat.lt_irrefl _ e.lt);refine⟨(a1.learn a2).congr fun j hj=>?_,?_⟩
 ·rw[AtT.newIff,ht,ho,hd];constructor
  ·rintro(e|⟨_,e|⟨_,e⟩⟩)
   ·exact .inl (.inl e)
   ·exact .inl (.inr e)
   ·exact .inr e
  ·rintro((e|e)|e)
   ·exact .inl e
   ·exact .inr ⟨rfl,.inl e⟩
   ·exact .inr ⟨rfl,.inr ⟨rfl,e⟩⟩
 ·have:=((h.lk n hn).2 i h4).2;rw[ck_learn _ _ h4,ck_set_self _ h4,cnt_new,if_pos hd,h2];unfold mx
  split<;>omega
theorem Ckd.lkKeep{l:List Did}{ths:List TH}{c:CS}(h:Ckd l ths c)(d:Did){n:Nat}(hn:n<5)(hg:givesD d=true→d.of≠UInt8.ofNat (65+n)):Clk (l++[d]) (AtL (l++[d]) (UInt8.ofNat (65+n))) (c.lk.getD n lk0).kn∧∀j,AtL (l++[d]) (UInt8.ofNat (65+n)) j↔AtL l (UInt8.ofNat (65+n)) j:=by
 have hiff:∀j,AtL (l++[d]) (UInt8.ofNat (65+n)) j↔AtL l (UInt8.ofNat (65+n)) j:=fun j=>by
  rw[AtL.newIff];exact⟨fun e=>e.elim id fun e=>absurd e.2.1.symm (hg e.1),.inl⟩
 exact⟨(h.lk n hn).keep d (fun j _=>hiff j) (fun e=>Nat.lt_irrefl _ ((hiff _).1 e).lt),hiff⟩
theorem Ckd.lkGive{l:List Did}{ths:List TH}{c:CS}{i:Nat}{t:TH}(h:Ckd l ths c)(hi:ths[i]?=some t)(d:Did)(hd:d.thread=(i:Int))(hg:givesD d=true)(ht:takesD d=false){n:Nat}(hn:n<5)(ho:d.of=UInt8.ofNat (65+n))(hh:(c.lk.getD n lk0).holder=(i:Int)+1) :
  Clk (l++[d]) (AtL (l++[d]) (UInt8.ofNat (65+n))) (t.kn.set i (t.kn.get i+1)):=by
 refine(h.tick hi d hd ht).1.congr fun j _=>?_
 rw[AtL.newIff,AtT.newIff,hg,ht,ho,hd];constructor
 ·rintro(e|⟨_,_,e|e⟩)
  ·exact .inl (h.hd n hn i hh j e)
  ·exact .inr ⟨rfl,.inl e⟩
  ·exact .inl e
 ·rintro(e|⟨_,e|⟨e,_⟩⟩)
  ·exact .inr ⟨rfl,rfl,.inr e⟩
  ·exact .inr ⟨rfl,rfl,.inl e⟩
  ·cases e
theorem Ckd.hdKeep{l:List Did}{ths:List TH}{c:CS}(h:Ckd l ths c)(d:Did){n:Nat}(hn:n<5)(hg:givesD d=true→d.of≠UInt8.ofNat (65+n))(i:Nat)(hh:(c.lk.getD n lk0).holder=(i:Int)+1)(j:Nat)(hj:AtL (l++[d]) (UInt8.ofNat (65+n)) j):AtT (l++[d]) i j:=
 AtT.newIff.2 (.inl (h.hd n hn i hh j (((h.lkKeep d hn hg).2 j).1 hj)))
theorem Ckd.quietStep{l:List Did}{ths:List TH}{c c':CS}{i:Nat}{t t':TH}(h:Ckd l ths c)(hi:ths[i]?=some t)(d:Did)(hd:d.thread=(i:Int))(ht:takesD d=false)(hg:givesD d=false)(h1:d.what≠103)(h2:d.what≠112)
  (e1:t'.kn=t.kn.set i (t.kn.get i+1))(e2:c'.lk=c.lk)(e3:c'.gl=c.gl)(e4:c'.raced=c.raced):Ckd (l++[d]) (ths.set i t') c':=by
 have hg':∀n:Nat,givesD d=true→d.of≠UInt8.ofNat (65+n):=fun n e=>by rw[hg]at e;cases e
 refine h.upd hi d hd (by rw[e1];exact h.tick hi d hd ht) (fun n hn=>by rw[e2];exact(h.lkKeep d hn (hg' n)).1) (fun n hn x hx j hj=>?_) (fun n hn=>by rw[e3];exact⟨(h.gl n hn).1.keep d fun e _=>h1 e,(h.gl n hn).2.keep d fun e _=>h2 e⟩) ?_
 ·rw[e2]at hx;exact h.hdKeep d hn (hg' n) x hx j hj
 ·rw[e4];exact⟨.inl,fun e=>e.elim id fun e=>absurd e (RaceAt.none h1 h2)⟩
theorem ofNat_inj3{a b:Nat}(ha:a<3)(hb:b<3)(h:UInt8.ofNat (120+a)=UInt8.ofNat (120+b)):a=b:=by
 have:=congrArg UInt8.toNat h;rw[UInt8.toNat_ofNat_of_lt' (by show 120+a<256;omega),UInt8.toNat_ofNat_of_lt' (by show 120+b<256;omega)]at this;omega
theorem Ckd.getStep{l:List Did}{ths:List TH}{c c':CS}{i m:Nat}{t t' t1:TH}(h:Ckd l ths c)(hi:ths[i]?=some t)(d:Did)(hd:d.thread=(i:Int))(hw:d.what=103)(hm:m<3)(h3:c.gl.length=3)(ho:d.of=UInt8.ofNat (120+m))
  (e1:t'.kn=t.kn.set i (t.kn.get i+1))(k1:t1.kn=t.kn.set i (t.kn.get i+1))(k2:t1.ix=i)(e2:c'.lk=c.lk)(e3:c'.gl=c.gl.set m (noteG (c.g m) t1))(e4:c'.raced=(c.raced||t1.kn.misses (c.g m).puts)):Ckd (l++[d]) (ths.set i t') c':=by
 have ht:takesD d=false:=by unfold takesD;rw[hw];rfl
 have hg:givesD d=false:=by unfold givesD;rw[hw];rfl
 have hg':∀n:Nat,givesD d=true→d.of≠UInt8.ofNat (65+n):=fun n e=>by rw[hg]at e;cases e
 have hlt:=(List.getElem?_eq_some_iff.1 hi).1;have h4:i<4:=by have:=h.n4;omega
 obtain⟨hc,hk⟩:=h.th i t hi;refine h.upd hi d hd (by rw[e1];exact h.tick hi d hd ht) (fun n hn=>by rw[e2];exact(h.lkKeep d hn (hg' n)).1) (fun n hn x hx j hj=>?_) (fun n hn=>?_) ?_
 ·rw[e2]at hx;exact h.hdKeep d hn (hg' n) x hx j hj
 ·rw[e3]
  by_cases hmn:m=n
  ·subst hmn;rw[List.getD_eq_getElem?_getD,List.getElem?_set_self (by omega)];refine⟨?_,(h.gl m hm).2.keep d fun e _=>by rw[hw]at e;exact absurd e (by decide)⟩;show AccM (l++[d]) 103 _ ((c.g m).gets.set t1.ix (t1.kn.get t1.ix));rw[k2,k1,ck_set_self _ h4];exact(h.gl m hm).1.note d h4 hd hw ho (by rw[hk])
  ·rw[List.getD_eq_getElem?_getD,List.getElem?_set_ne hmn,←List.getD_eq_getElem?_getD];exact⟨(h.gl n hn).1.keep d fun _ e=>hmn (ofNat_inj3 hm hn (ho.symm.trans e)),(h.gl n hn).2.keep d fun e _=>by rw[hw]at e;exact absurd e (by decide)⟩
 ·rw[e4,Bool.or_eq_true,k1];have hms:=(h.gl m hm).2.misses h.thrd hc h4 hk;refine or_congr Iff.rfl (Iff.trans hms ?_);rw[RaceAt.new ht,hd,ho,hw];constructor
  ·rintro⟨j,a,a1,a2,a3,a4⟩;exact⟨j,a,a1,a3,.inl ⟨a2,.inl rfl⟩,a4⟩
  ·rintro⟨j,a,a1,a3,(⟨a2,_⟩|⟨_,e⟩),a4⟩
   ·exact⟨j,a,a1,a2,a3,a4⟩
   ·exact absurd e (by decide)
theorem Ckd.putStep{l:List Did}{ths:List TH}{c c':CS}{i m:Nat}{t t' t1:TH}(h:Ckd l ths c)(hi:ths[i]?=some t)(d:Did)(hd:d.thread=(i:Int))(hw:d.what=112)(hm:m<3)(h3:c.gl.length=3)(ho:d.of=UInt8.ofNat (120+m))
  (e1:t'.kn=t.kn.set i (t.kn.get i+1))(k1:t1.kn=t.kn.set i (t.kn.get i+1))(k2:t1.ix=i)(e2:c'.lk=c.lk)(e3:c'.gl=c.gl.set m (noteP (c.g m) t1))(e4:c'.raced=((c.raced||t1.kn.misses (c.g m).puts)||t1.kn.misses (c.g m).gets)):Ckd (l++[d]) (ths.set i t') c':=by
 have ht:takesD d=false:=by unfold takesD;rw[hw];rfl
 have hg:givesD d=false:=by unfold givesD;rw[hw];rfl
 have hg':∀n:Nat,givesD d=true→d.of≠UInt8.ofNat (65+n):=fun n e=>by rw[hg]at e;cases e
 have hlt:=(List.getElem?_eq_some_iff.1 hi).1;have h4:i<4:=by have:=h.n4;omega
 obtain⟨hc,hk⟩:=h.th i t hi;refine h.upd hi d hd (by rw[e1];exact h.tick hi d hd ht) (fun n hn=>by rw[e2];exact(h.lkKeep d hn (hg' n)).1) (fun n hn x hx j hj=>?_) (fun n hn=>?_) ?_
 ·rw[e2]at hx;exact h.hdKeep d hn (hg' n) x hx j hj
 ·rw[e3]
  by_cases hmn:m=n
  ·subst hmn;rw[List.getD_eq_getElem?_getD,List.getElem?_set_self (by omega)];refine⟨(h.gl m hm).1.keep d fun e _=>by rw[hw]at e;exact absurd e (by decide),?_⟩;show AccM (l++[d]) 112 _ ((c.g m).puts.set t1.ix (t1.kn.get t1.ix));rw[k2,k1,ck_set_self _ h4];exact(h.gl m hm).2.note d h4 hd hw ho (by rw[hk])
  ·rw[List.getD_eq_getElem?_getD,List.getElem?_set_ne hmn,←List.getD_eq_getElem?_getD];exact⟨(h.gl n hn).1.keep d fun e _=>by rw[hw]at e;exact absurd e (by decide),(h.gl n hn).2.keep d fun _ e=>hmn (ofNat_inj3 hm hn (ho.symm.trans e))⟩
 ·rw[e4,Bool.or_eq_true,Bool.or_eq_true,k1,or_assoc];have hms:=(h.gl m hm).2.misses h.thrd hc h4 hk;have hmg:=(h.gl m hm).1.misses h.thrd hc h4 hk;refine or_congr Iff.rfl (Iff.trans (or_congr hms hmg) ?_);rw[RaceAt.new ht,hd,ho,hw];constructor
  ·rintro(⟨j,a,a1,a2,a3,a4⟩|⟨j,a,a1,a2,a3,a4⟩)
   ·exact⟨j,a,a1,a3,.inl ⟨a2,.inr rfl⟩,a4⟩
   ·exact⟨j,a,a1,a3,.inr ⟨a2,rfl⟩,a4⟩
  ·rintro⟨j,a,a1,a3,(⟨a2,_⟩|⟨a2,_⟩),a4⟩
   ·exact .inl ⟨j,a,a1,a2,a3,a4⟩
   ·exact .inr ⟨j,a,a1,a2,a3,a4⟩
theorem Ckd.takeStep{l:List Did}{ths:List TH}{c c':CS}{i m:Nat}{t t':TH}(h:Ckd l ths c)(hi:ths[i]?=some t)(d:Did)(hd:d.thread=(i:Int))(hw:d.what=91∨d.what=60)(hm:m<5)(h5:c.lk.length=5)(ho:d.of=UInt8.ofNat (65+m))
  (e1:t'.kn=(t.kn.set i (t.kn.get i+1)).learn (c.l m).kn)(e2:c'.lk=c.lk.set m { c.l m with holder:=(i:Int)+1 })(e3:c'.gl=c.gl)(e4:c'.raced=c.raced):Ckd (l++[d]) (ths.set i t') c':=by
 have ht:takesD d=true:=by unfold takesD;rcases hw with e|e<;>rw[e]<;>rfl
 have hg:givesD d=false:=by unfold givesD;rcases hw with e|e<;>rw[e]<;>rfl
 have h1:d.what≠103:=by rcases hw with e|e<;>rw[e]<;>decide
 have h2:d.what≠112:=by rcases hw with e|e<;>rw[e]<;>decide
 have hg':∀n:Nat,givesD d=true→d.of≠UInt8.ofNat (65+n):=fun n e=>by rw[hg]at e;cases e
 refine h.upd hi d hd (by rw[e1];exact h.tickTake hi d hd ht hm ho) (fun n hn=>?_) (fun n hn x hx j hj=>?_) (fun n hn=>by rw[e3];exact⟨(h.gl n hn).1.keep d fun e _=>h1 e,(h.gl n hn).2.keep d fun e _=>h2 e⟩) ?_
 ·have hk:=(h.lkKeep d hn (hg' n)).1;rw[e2]
  by_cases hmn:m=n
  ·subst hmn;rw[List.getD_eq_getElem?_getD,List.getElem?_set_self (by omega)];exact hk
  ·rw[List.getD_eq_getElem?_getD,List.getElem?_set_ne hmn,←List.getD_eq_getElem?_getD];exact hk
 ·rw[e2]at hx
  by_cases hmn:m=n
  ·subst hmn;rw[List.getD_eq_getElem?_getD,List.getElem?_set_self (by omega)]at hx;have hx':(i:Int)+1=(x:Int)+1:=hx;have hxi:i=x:=by omega
   subst hxi;refine AtT.newIff.2 (.inr ⟨hd.symm,.inr ⟨ht,?_⟩⟩);rw[ho];exact((h.lkKeep d hn (hg' m)).2 j).1 hj
  ·rw[List.getD_eq_getElem?_getD,List.getElem?_set_ne hmn,←List.getD_eq_getElem?_getD]at hx;exact h.hdKeep d hn (hg' n) x hx j hj
 ·rw[e4];exact⟨.inl,fun e=>e.elim id fun e=>absurd e (RaceAt.none h1 h2)⟩
theorem Ckd.giveStep{l:List Did}{ths:List TH}{c c':CS}{i m:Nat}{t t':TH}(h:Ckd l ths c)(hi:ths[i]?=some t)(d:Did)(hd:d.thread=(i:Int))(hw:d.what=93∨d.what=62)(hm:m<5)(h5:c.lk.length=5)(ho:d.of=UInt8.ofNat (65+m))(hh:(c.lk.getD m lk0).holder=(i:Int)+1)
  (e1:t'.kn=t.kn.set i (t.kn.get i+1))(e2:c'.lk=c.lk.set m ⟨0,t.kn.set i (t.kn.get i+1)⟩)(e3:c'.gl=c.gl)(e4:c'.raced=c.raced):Ckd (l++[d]) (ths.set i t') c':=by
 have ht:takesD d=false:=by unfold takesD;rcases hw with e|e<;>rw[e]<;>rfl
 have hg:givesD d=true:=by unfold givesD;rcases hw with e|e<;>rw[e]<;>rfl
 have h1:d.what≠103:=by rcases hw with e|e<;>rw[e]<;>decide
 have h2:d.what≠112:=by rcases hw with e|e<;>rw[e]<;>decide
 have hne:∀n:Nat,n<5→m≠n→d.of≠UInt8.ofNat (65+n):=fun n hn hmn e=>hmn (ofNat_inj5 hm hn (ho.symm.trans e))
 refine h.upd hi d hd (by rw[e1];exact h.tick hi d hd ht) (fun n hn=>?_) (fun n hn x hx j hj=>?_) (fun n hn=>by rw[e3];exact⟨(h.gl n hn).1.keep d fun e _=>h1 e,(h.gl n hn).2.keep d fun e _=>h2 e⟩) ?_
 ·rw[e2]
  by_cases hmn:m=n
  ·subst hmn;rw[List.getD_eq_getElem?_getD,List.getElem?_set_self (by omega)];exact h.lkGive hi d hd hg ht hm ho hh
  ·rw[List.getD_eq_getElem?_getD,List.getElem?_set_ne hmn,←List.getD_eq_getElem?_getD];exact(h.lkKeep d hn fun _=>hne n hn hmn).1
 ·rw[e2]at hx
  by_cases hmn:m=n
  ·subst hmn;rw[List.getD_eq_getElem?_getD,List.getElem?_set_self (by omega)]at hx;have hx':(0:Int)=(x:Int)+1:=hx;omega
  ·rw[List.getD_eq_getElem?_getD,List.getElem?_set_ne hmn,←List.getD_eq_getElem?_getD]at hx;exact h.hdKeep d hn (fun _=>hne n hn hmn) x hx j hj
 ·rw[e4];exact⟨.inl,fun e=>e.elim id fun e=>absurd e (RaceAt.none h1 h2)⟩
theorem glob_of{v:UInt8}{u:Int}(hv:inU [120,121,122] v=true)(hn:u=(v.toNat:Int)-120):v=UInt8.ofNat (120+u.toNat):=by
 have:=glob_range hv;rw[show 120+u.toNat=v.toNat by omega];simp
theorem tested_takes{n i:Int}(b:Bool):takesD ⟨n,i,if b then 116 else 102,0⟩=false:=by cases b<;>rfl
theorem tested_gives{n i:Int}(b:Bool):givesD ⟨n,i,if b then 116 else 102,0⟩=false:=by cases b<;>rfl
theorem tested_get(b:Bool):(if b then(116:UInt8)else 102)≠103:=by cases b<;>decide
theorem tested_put(b:Bool):(if b then(116:UInt8)else 102)≠112:=by cases b<;>decide
theorem Ckd.pick{F:List ST}{P:PS}{ths:List TH}{c:CS}(hj:JOk F)(hl:LastEnd F)(h:Alike F P ths c)(k:Ckd P.st ths c)(n:Int)(x:UInt8):Ckd (P.pick n x).1.st (pickM F ths c x).1 (pickM F ths c x).2.1:=by
 by_cases hneg:(x.toNat:Int)-49<0
 ·have e1:P.pick n x=(P,46):=by unfold PS.pick;simp only;rw[if_pos (.inl hneg)]
  have e2:pickM F ths c x=(ths,c,46):=by unfold pickM;rw[if_pos hneg]
  rw[e1,e2];exact k
 ·obtain⟨i,hi⟩:∃i:Nat,(x.toNat:Int)-49=i:=Int.eq_ofNat_of_zero_le (by omega);have hxi:x.toNat-49=i:=by omega
  cases ht:ths[i]? with
  | none=>
   have hle:=List.getElem?_eq_none_iff.1 ht;have e1:P.pick n x=(P,46):=by unfold PS.pick;simp only;rw[if_pos (.inr (.inl (by rw[hi,h.len];omega)))]
   have e2:pickM F ths c x=(ths,c,46):=by unfold pickM;rw[if_neg hneg,hxi,ht]
   rw[e1,e2];exact k
  | some t=>
   have hlt:=(List.getElem?_eq_some_iff.1 ht).1;obtain⟨K,s,g⟩:=h.th i t ht;obtain⟨m,g1,g2⟩:=g.nx;have hx:=g2.next hj hl;rw[←g1]at hx;obtain⟨u,hu⟩:∃u,u=upc F t.next:=⟨_,rfl⟩;rw[←hu]at hx;obtain⟨kn,hkn⟩:∃kn,kn=t.kn.set t.ix (t.kn.get t.ix+1):=⟨_,rfl⟩;have hpm:pickM F ths c x=if u.kind=9∨awaitedM c.lk u≠0 then(ths,c,46)else(ths.set i (c.does { t with next:=u.nx,kn:=kn } u).2.1,(c.does { t with next:=u.nx,kn:=kn } u).1,(c.does { t with next:=u.nx,kn:=kn } u).2.2):=by
    unfold pickM;rw[if_neg hneg,hxi,ht];simp only;rw[←hu,←hkn]
   have htd:P.todo.getD i []=s:=by rw[List.getD_eq_getElem?_getD,g.todo];rfl
   have hpp:P.pick n x=if s=[]then(P,46)else if 0≤waitsL P.held s then(P,46)else({ (P.does i).1 with st:=(P.does i).1.st++[⟨n,(i:Int),(P.does i).2.1,(P.does i).2.2⟩] },(P.does i).2.1):=by
    unfold PS.pick PS.waits;simp only;rw[hi,Int.toNat_natCast,htd]
    by_cases h0:s=[]
    ·rw[if_pos (.inr (.inr h0)),if_pos h0]
    ·rw[if_neg (by rw[h.len];rintro(h1|h1|h1);omega;omega;exact h0 h1),if_neg h0]
   have at':At P i s K.reverse t.reg:=⟨g.todo,g.held,g.reg⟩;have aw:u.kind≠6→awaitedM c.lk u=0:=fun h6=>if_neg (fun e=>h6 e.1)
   have hix:t.ix=i:=by unfold TH.ix;rw[g.nm];omega
   have hkn2:kn=t.kn.set i (t.kn.get i+1):=by rw[hkn,hix]
   have noW:∀{c0:UInt8} {r:List UInt8},s=c0::r→c0≠91→c0≠60→¬(0≤waitsL P.held s):=fun e h1 h2=>by
    rw[e];unfold waitsL
    split
    ·rename_i c1 l1 r1 e1;injection e1 with e1 _;subst e1;rw[if_neg (by rintro(h3|h3);exact h1 h3;exact h2 h3)]
     decide
    ·decide
   cases hx with
   | fin h9=>
    rw[hpm,if_pos (.inl h9),hpp,if_pos rfl];exact k
   | get v k' hk hv hn' hq hr=>
    have hv':=glob_range hv;have hd:c.does { t with next:=u.nx,kn:=kn } u=({ c with gl:=c.gl.set u.num.toNat (noteG (c.g u.num.toNat) { t with next:=u.nx,kn:=kn }),raced:=c.raced||kn.misses (c.g u.num.toNat).puts },{ t with next:=u.nx,kn:=kn,reg:=(c.g u.num.toNat).val },103):=by unfold CS.does;rw[if_pos hk]
    rw[hpm,if_neg (by rw[not_or];exact⟨by omega,by simp[aw (by omega)]⟩),hd,hpp,if_neg (by simp),if_neg (noW rfl (by decide) (by decide)),doesP_get at'];exact k.getStep (m:=u.num.toNat) (t1:={ t with next:=u.nx,kn:=kn }) ht _ rfl rfl (by omega) h.gl3 (glob_of hv hn') hkn2 hkn2 hix rfl rfl rfl
   | put v k' hk hv hn' hq hr=>
    have hv':=glob_range hv;have hd:c.does { t with next:=u.nx,kn:=kn } u=({ c with gl:=c.gl.set u.num.toNat (noteP (c.g u.num.toNat) { t with next:=u.nx,kn:=kn }),raced:=(c.raced||kn.misses (c.g u.num.toNat).puts)||kn.misses (c.g u.num.toNat).gets },{ t with next:=u.nx,kn:=kn },112):=by unfold CS.does;rw[if_neg (by omega),if_pos hk]
    rw[hpm,if_neg (by rw[not_or];exact⟨by omega,by simp[aw (by omega)]⟩),hd,hpp,if_neg (by simp),if_neg (noW rfl (by decide) (by decide)),doesP_put at'];exact k.putStep (m:=u.num.toNat) (t1:={ t with next:=u.nx,kn:=kn }) ht _ rfl rfl (by omega) h.gl3 (glob_of hv hn') hkn2 hkn2 hix rfl rfl rfl
   | add d k' hk hv hn' hq hr=>
    have hd:c.does { t with next:=u.nx,kn:=kn } u=(c,TH.add { t with next:=u.nx,kn:=kn } u.num,105):=by unfold CS.does;rw[if_neg (by omega),if_neg (by omega),if_pos hk]
    rw[hpm,if_neg (by rw[not_or];exact⟨by omega,by simp[aw (by omega)]⟩),hd,hpp,if_neg (by simp),if_neg (noW rfl (by decide) (by decide)),doesP_add at'];exact k.quietStep ht _ rfl rfl rfl (by show(105:UInt8)≠103;decide) (by show(105:UInt8)≠112;decide) hkn2 rfl rfl rfl
   | out k' hk hq hr=>
    have hd:c.does { t with next:=u.nx,kn:=kn } u=({ c with pr:=c.pr++[UInt8.ofNat (48+t.reg.toNat)] },{ t with next:=u.nx,kn:=kn },111):=by unfold CS.does;rw[if_neg (by omega),if_neg (by omega),if_neg (by omega),if_pos hk]
    rw[hpm,if_neg (by rw[not_or];exact⟨by omega,by simp[aw (by omega)]⟩),hd,hpp,if_neg (by simp),if_neg (noW rfl (by decide) (by decide)),doesP_out at'];exact k.quietStep ht _ rfl rfl rfl (by show(111:UInt8)≠103;decide) (by show(111:UInt8)≠112;decide) hkn2 rfl rfl rfl
   | @take _ r cc l k' hk hc hv hn' hq hr=>
    obtain⟨n0,n5,en,en2,el⟩:=lock_no hv hn';have hti:=g.td.take_inv (by rcases hc with⟨rfl,_⟩|⟨rfl,_⟩<;>simp);have hho:=h.hold n0 n5;rw[←el]at hho;have hnn:n0<c.lk.length:=by rw[h.lk5];exact n5
    have haw:awaitedM c.lk u=(c.lk.getD n0 lk0).holder:=by
     unfold awaitedM;rw[if_pos ⟨hk,by omega,by omega⟩,en2]
    have hwl:waitsL P.held (cc::l::r)=(c.lk.getD n0 lk0).holder-1:=by
     show(if cc=91∨cc=60 then holderP P.held l else -1)=_;rw[if_pos (by rcases hc with⟨rfl,_⟩|⟨rfl,_⟩<;>simp),hho.holder]
    have hge:0≤(c.lk.getD n0 lk0).holder:=by
     rcases hho with⟨e,_⟩|⟨_,_,_,e,_⟩<;>omega
    by_cases h0:(c.lk.getD n0 lk0).holder=0
    ·rw[hpm,if_neg (by rw[not_or,haw];exact⟨by omega,fun e=>e h0⟩),hpp,if_neg (by simp),if_neg (by rw[hwl,h0];decide)];have hd:c.does { t with next:=u.nx,kn:=kn } u=({ c with lk:=c.lk.set n0 { c.l n0 with holder:=t.name } },{ t with next:=u.nx,kn:=kn.learn (c.l n0).kn },if u.mend then 60 else 91):=by
      unfold CS.does;rw[if_neg (by omega),if_neg (by omega),if_neg (by omega),if_neg (by omega),if_neg (by omega),if_pos hk,en2]
     have hdP:P.does i=({ P with todo:=P.todo.set i r,held:=P.held.set i (K.reverse++[l]) },if u.mend then 60 else 91,l):=by
      rcases hc with⟨rfl,hm⟩|⟨rfl,hm⟩
      ·rw[doesP_opens at',hm];rfl
      ·rw[doesP_mended at',hm];rfl
     rw[hd,hdP];refine k.takeStep (m:=n0) ht _ rfl ?_ n5 h.lk5 el (by rw[hkn2]) ?_ rfl rfl
     ·show(if u.mend then(60:UInt8)else 91)=91∨(if u.mend then(60:UInt8)else 91)=60;cases u.mend<;>simp
     ·show c.lk.set n0 { c.l n0 with holder:=t.name }=_;rw[g.nm]
    ·rw[hpm,if_pos (.inr (by rw[haw];exact h0)),hpp,if_neg (by simp),if_pos (by rw[hwl];omega)];exact k
   | @give K' r cc l k' hk hc hn' hq hr=>
    have hv:=g.ks l (by simp);obtain⟨n0,n5,en,en2,el⟩:=lock_no hv hn';have hnn:n0<c.lk.length:=by rw[h.lk5];exact n5
    have hnd:=List.nodup_cons.1 g.nd;have hd:c.does { t with next:=u.nx,kn:=kn } u=({ c with lk:=c.lk.set n0 ⟨0,kn⟩ },{ t with next:=u.nx,kn:=kn },if u.mend then 62 else 93):=by unfold CS.does;rw[if_neg (by omega),if_neg (by omega),if_neg (by omega),if_neg (by omega),if_neg (by omega),if_neg (by omega),if_pos hk,en2]
    have at2:At P i (cc::r) (K'.reverse++[l]) t.reg:=by rw[←List.reverse_cons];exact at'
    have hdP:P.does i=({ P with todo:=P.todo.set i r,held:=P.held.set i K'.reverse },if u.mend then 62 else 93,l):=by
     rcases hc with⟨rfl,hm⟩|⟨rfl,hm⟩
     ·rw[doesP_shut at2,hm];rfl
     ·rw[doesP_mend at2,hm];rfl
    rw[hpm,if_neg (by rw[not_or];exact⟨by omega,by simp[aw (by omega)]⟩),hd,hpp,if_neg (by simp),if_neg (noW rfl (by rcases hc with⟨rfl,_⟩|⟨rfl,_⟩<;>decide) (by rcases hc with⟨rfl,_⟩|⟨rfl,_⟩<;>decide)),hdP];have hhold:(c.lk.getD n0 lk0).holder=(i:Int)+1:=by
     have hin:inU (l::K').reverse (UInt8.ofNat (65+n0))=true:=by rw[inU_reverse,←el,inU_cons];simp
     rcases h.hold n0 n5 with⟨_,h0⟩|⟨y,b,h1,h2,h3,h4⟩
     ·have:=h0 _ (List.mem_of_getElem? g.held);rw[hin]at this;cases this
     ·rw[h2]
      by_cases hiy:i=y
      ·rw[hiy]
      ·have:=h4 i _ g.held hiy;rw[hin]at this;cases this
    refine k.giveStep (m:=n0) ht _ rfl ?_ n5 h.lk5 el hhold hkn2 (by rw[hkn2]) rfl rfl;show(if u.mend then(62:UInt8)else 93)=93∨(if u.mend then(62:UInt8)else 93)=62;cases u.mend<;>simp
   | @branch _ a b r k' e hk hq he ha hb hr hr2=>
    have hd:c.does { t with next:=u.nx,kn:=kn } u=(c,TH.test { t with next:=u.nx,kn:=kn } u.el,TH.tested { t with next:=u.nx,kn:=kn }):=by unfold CS.does;rw[if_neg (by omega),if_neg (by omega),if_neg (by omega),if_neg (by omega),if_pos hk]
    rw[hpm,if_neg (by rw[not_or];exact⟨by omega,by simp[aw (by omega)]⟩),hd,hpp,if_neg (by simp),if_neg (noW rfl (by decide) (by decide)),doesP_test (.inl rfl) at'];unfold TH.test
    by_cases hz:t.reg=0
    ·simp only[if_pos hz];exact k.quietStep ht _ rfl (tested_takes _) (tested_gives _) (tested_get _) (tested_put _) hkn2 rfl rfl rfl
    ·simp only[if_neg hz];exact k.quietStep ht _ rfl (tested_takes _) (tested_gives _) (tested_get _) (tested_put _) hkn2 rfl rfl rfl
   | @loop _ a r k' e hk hq he ha hr hr2=>
    have hd:c.does { t with next:=u.nx,kn:=kn } u=(c,TH.test { t with next:=u.nx,kn:=kn } u.el,TH.tested { t with next:=u.nx,kn:=kn }):=by unfold CS.does;rw[if_neg (by omega),if_neg (by omega),if_neg (by omega),if_neg (by omega),if_pos hk]
    rw[hpm,if_neg (by rw[not_or];exact⟨by omega,by simp[aw (by omega)]⟩),hd,hpp,if_neg (by simp),if_neg (noW rfl (by decide) (by decide)),doesP_test (.inr rfl) at'];unfold TH.test
    by_cases hz:t.reg=0
    ·simp only[if_pos hz];exact k.quietStep ht _ rfl (tested_takes _) (tested_gives _) (tested_get _) (tested_put _) hkn2 rfl rfl rfl
    ·simp only[if_neg hz];exact k.quietStep ht _ rfl (tested_takes _) (tested_gives _) (tested_get _) (tested_put _) hkn2 rfl rfl rfl
def RaceNo(l:List Did)(r:Int):Prop:=(r=0∧∀j,¬RaceAt l j)∨(1≤r∧∃(j:Nat) (d:Did),l[j]?=some d∧r=d.pick∧RaceAt l j∧∀j',j'<j→¬RaceAt l j')
theorem RaceAt.lt{l:List Did}{j:Nat}(h:RaceAt l j):j<l.length:=by
 obtain⟨_,_,_,_,_,h3,_⟩:=h;exact(List.getElem?_eq_some_iff.1 h3).1
theorem RaceNo.step{l l':List Did}{r n:Int}{c:CS}(h:RaceNo l r)(hn:1≤n)(hl:l'=l∨∃d:Did,d.pick=n∧l'=l++[d])(hc:c.raced=true↔∃j,RaceAt l' j):RaceNo l' (if c.raced&&r==0 then n else r):=by
 rcases h with⟨rfl,h0⟩|⟨h1,j,d,hj,hr,ha,hb⟩
 ·cases hcr:c.raced with
  | false=>
   left;refine⟨rfl,fun j hj=>?_⟩;have:=hc.2 ⟨j,hj⟩;rw[hcr]at this;cases this
  | true=>
   obtain⟨j,hj⟩:=hc.1 hcr;rcases hl with rfl|⟨d,hd,rfl⟩
   ·exact absurd hj (h0 j)
   ·have hlt:=hj.lt;rw[List.length_append]at hlt;have hjl:j=l.length:=by
     apply Decidable.byContradiction;intro hne;have hj2:j<l.length:=by simp at hlt;omega
     exact h0 j ((RaceAt.old hj2).1 hj)
    subst hjl;right;exact⟨hn,l.length,d,some_new,hd.symm,hj,fun j' h' e=>h0 j' ((RaceAt.old h').1 e)⟩
 ·have hr0:(r==0)=false:=by rw[beq_eq_false_iff_ne];omega
  rw[hr0,Bool.and_false];right;refine⟨h1,j,d,?_⟩;rcases hl with rfl|⟨e,he,rfl⟩
  ·exact⟨hj,hr,ha,hb⟩
  ·have hjl:=ha.lt;exact⟨some_app hj,hr,(RaceAt.old hjl).2 ha,fun j' h' e=>hb j' h' ((RaceAt.old (by omega)).1 e)⟩
theorem Ckd.start{p:List UInt8}{F:List ST}{ts:List (Nat×List UInt8)}(h:Prog p F ts)(h4:ts.length≤4)(q:List UInt8):Ckd [] (runU F q 0).ths (runU F q 0).c:=by
 have e:(runU F q 0).ths=ts.mapIdx fun i x=>th0 i x.1:=h.thr.start
 have z:∀p:Nat→Prop,Clk [] p CK.zero:=fun p=>⟨fun j a x hj _ _=>by simp at hj,fun x hx=>by rcases four hx with rfl|rfl|rfl|rfl<;>exact⟨Int.le_refl _,Int.le_refl _⟩⟩
 have za:∀w o:UInt8,AccM [] w o CK.zero:=fun w o=>⟨fun j a x hj _ _ _ _=>by simp at hj,fun x hx=>.inl (by rcases four hx with rfl|rfl|rfl|rfl<;>rfl)⟩
 refine⟨by rw[e];simpa using h4,fun a ha=>(by cases ha),?_,?_,?_,?_,?_⟩
 ·intro i t hi;rw[e,List.getElem?_mapIdx]at hi;cases hx:ts[i]? with
  | none=>rw[hx]at hi;cases hi
  | some x=>
   rw[hx]at hi;have ht:=Option.some.inj hi;subst ht;have hlt:=(List.getElem?_eq_some_iff.1 hx).1;have hi4:i<4:=by omega
   exact⟨z _,by rcases four hi4 with rfl|rfl|rfl|rfl<;>rfl⟩
 ·intro n hn;rcases less5 hn with rfl|rfl|rfl|rfl|rfl<;>exact z _
 ·intro n hn i hi j hj;exact absurd hj.lt (by simp)
 ·intro n hn;have:n=0∨n=1∨n=2:=by omega
  rcases this with rfl|rfl|rfl<;>exact⟨za _ _,za _ _⟩
 ·constructor
  ·intro e;cases e
  ·rintro⟨j,hj⟩;exact absurd hj.lt (by simp)
theorem does_st(P:PS)(t:Nat):(P.does t).1.st=P.st:=by
 unfold PS.does
 split
 ·rfl
 ·simp only
  repeat' split
  all_goals rfl
theorem pick_st(P:PS)(n:Int)(x:UInt8):(P.pick n x).1.st=P.st∨∃d:Did,d.pick=n∧(P.pick n x).1.st=P.st++[d]:=by
 unfold PS.pick;simp only
 split
 ·exact .inl rfl
 ·split
  ·exact .inl rfl
  ·exact .inr ⟨⟨n,(x.toNat:Int)-49,(P.does ((x.toNat:Int)-49).toNat).2.1,(P.does ((x.toNat:Int)-49).toNat).2.2⟩,rfl,congrArg (·++_) (does_st P _)⟩
theorem Ckd.run{p:List UInt8}{F:List ST}{ts:List (Nat×List UInt8)}(h:Prog p F ts)(h4:ts.length≤4)(htd:∀a∈splitBar p,TD [] [] a)(q:List UInt8):∀k,Ckd ((PS.start p).upK q k).st (runU F q k).ths (runU F q k).c∧RaceNo ((PS.start p).upK q k).st (runU F q k).race:=by
 intro k
 induction k with
 | zero=>exact⟨Ckd.start h h4 q,.inl ⟨rfl,fun j hj=>absurd hj.lt (Nat.not_lt_zero _)⟩⟩
 | succ k ih=>
  have ha:=(Alike.run h htd q k).1;rw[PS.upK,runU];cases hx:q[k]? with
  | none=>exact ih
  | some x=>
   have hc:=Ckd.pick h.jok h.thr.lastEnd ha ih.1 ((k:Int)+1) x;exact⟨hc,ih.2.step (by omega) (pick_st _ _ x) hc.rc⟩
theorem RaceNo.unique{l:List Did}{r s:Int}(h:RaceNo l r)(g:RaceNo l s):r=s:=by
 rcases h with⟨h1,h2⟩|⟨_,j,d,h1,h2,h3,h4⟩
 ·rcases g with⟨g1,_⟩|⟨_,i,e,g1,g2,g3,g4⟩
  ·rw[h1,g1]
  ·exact absurd g3 (h2 i)
 ·rcases g with⟨g1,g2⟩|⟨_,i,e,g1,g2,g3,g4⟩
  ·exact absurd h3 (g2 j)
  ·have hij:i=j:=by
    apply Decidable.byContradiction;intro hne;rcases Nat.lt_or_gt_of_ne hne with h|h
    ·exact h4 i h g3
    ·exact g4 j h h3
   subst hij;rw[h1]at g1;rw[h2,g2,Option.some.inj g1]
theorem Kn.row{l:List Did}{i j:Nat}{b:Did}(hb:l[j]?=some b):Kn l i j↔∃(h:Nat) (a:Did),h<j∧l[h]?=some a∧tellD a b=true∧(i=h∨Kn l i h):=by
 constructor
 ·intro k;cases k with
  | one h1 h2 h3 h4=>
   rw[hb]at h3;have:=Option.some.inj h3;subst this;exact⟨i,_,h1,h2,h4,.inl rfl⟩
  | more h0 h1 h2 h3 h4=>
   rw[hb]at h3;have:=Option.some.inj h3;subst this;exact⟨_,_,h1,h2,h4,.inr h0⟩
 ·rintro⟨h,a,h1,h2,h3,e|e⟩
  ·subst e;exact .one h1 h2 hb h3
  ·exact .more e h1 h2 hb h3
theorem all_bit(P:PS)(k i:Nat):(P.all k).testBit i=true↔∃set,set<k∧P.waiting set=true∧set.testBit i=true:=by
 induction k with
 | zero=>simp[PS.all]
 | succ k ih=>
  rw[PS.all];constructor
  ·intro h
   split at h
   ·rename_i hw;rw[Nat.testBit_or,Bool.or_eq_true]at h;rcases h with h|h
    ·obtain⟨s,h1,h2,h3⟩:=ih.1 h;exact⟨s,by omega,h2,h3⟩
    ·exact⟨k,by omega,hw,h⟩
   ·obtain⟨s,h1,h2,h3⟩:=ih.1 h;exact⟨s,by omega,h2,h3⟩
  ·rintro⟨s,h1,h2,h3⟩
   by_cases hs:s=k
   ·subst hs;rw[if_pos h2,Nat.testBit_or,h3,Bool.or_true]
   ·have:=ih.2 ⟨s,by omega,h2,h3⟩
    split
    ·rw[Nat.testBit_or,this,Bool.true_or]
    ·exact this
theorem bits_of(f:Nat→Bool)(n:Nat):∃m,m<2 ^ n∧∀i,i<n→m.testBit i=f i:=by
 induction n with
 | zero=>exact⟨0,by decide,fun i h=>absurd h (Nat.not_lt_zero _)⟩
 | succ n ih=>
  obtain⟨m,hm,hb⟩:=ih;have h2:2 ^ n<2 ^ (n+1):=by rw[Nat.pow_succ];have:=Nat.two_pow_pos n;omega
  refine⟨m ||| (if f n then 2 ^ n else 0),Nat.or_lt_two_pow (by omega) (by split;exact h2;exact Nat.two_pow_pos _),fun i hi=>?_⟩;rw[Nat.testBit_or]
  by_cases hin:i=n
  ·subst hin;rw[Nat.testBit_lt_two_pow hm,Bool.false_or];cases hf:f i with
   | false=>simp
   | true=>simp[Nat.testBit_two_pow_self]
  ·rw[hb i (by omega)];cases hf:f n with
   | false=>simp
   | true=>simp[show n≠i from fun e=>hin e.symm]
theorem StuckP.bit(P:PS)(i:Nat)(hi:i<P.todo.length)(hw:∀a,P.waits a<P.todo.length):(P.all (2 ^ P.todo.length)).testBit i=true↔StuckP P i:=by
 rw[all_bit];constructor
 ·rintro⟨s,h1,h2,h3⟩;refine⟨hi,fun a=>s.testBit a=true,h3,fun a ha0=>?_⟩;have ha:s.testBit a=true:=ha0;have hal:a<P.todo.length:=by
   apply Decidable.byContradiction;intro hn;have h4:s<2 ^ a:=Nat.lt_of_lt_of_le h1 (Nat.pow_le_pow_right (by decide) (by omega));rw[Nat.testBit_lt_two_pow h4]at ha;cases ha
  have:=List.all_eq_true.1 h2 a (List.mem_range.2 hal);unfold PS.waitOk at this;rw[ha]at this;simp only[Bool.not_true,Bool.false_or,Bool.and_eq_true,decide_eq_true_eq]at this;exact⟨hal,this.1,this.2⟩
 ·rintro⟨_,S,si,hS⟩;obtain⟨m,hm,hb⟩:=bits_of (fun a=>@decide (S a) (Classical.propDecidable _)) P.todo.length;refine⟨m,hm,List.all_eq_true.2 fun a ha=>?_,by rw[hb i hi];exact @decide_eq_true _ (Classical.propDecidable _) si⟩;have hal:=List.mem_range.1 ha;unfold PS.waitOk;rw[hb a hal]
  by_cases sa:S a
  ·obtain⟨_,h0,hs⟩:=hS a sa;have hl2:=hw a;rw[hb _ (by omega),@decide_eq_true _ (Classical.propDecidable _) hs,decide_eq_true h0];simp
  ·rw[@decide_eq_false _ (Classical.propDecidable _) sa];rfl
theorem Alike.stuck{F:List ST}{P:PS}{ths:List TH}{c:CS}(hj:JOk F)(hl:LastEnd F)(h:Alike F P ths c):stuckM F c.lk ths=P.stuck:=by
 obtain⟨f,hf⟩:=iterM_sub F c.lk ths ths.length;have hw:∀a,P.waits a<P.todo.length:=by
  intro a;cases ha:ths[a]? with
  | some t=>rw[h.len];exact(h.awaits hj hl ha).2.2
  | none=>
   have:=List.getElem?_eq_none_iff.1 ha;unfold PS.waits;rw[List.getD_eq_getElem?_getD,List.getElem?_eq_none (by rw[h.len];exact this)];show(-1:Int)<_;omega
 have hbit:∀(i:Nat) (t:TH),ths[i]?=some t→f t=(P.all (2 ^ P.todo.length)).testBit i:=by
  intro i t ht;have hlt:=(List.getElem?_eq_some_iff.1 ht).1;have h1:=StuckP.bit P i (by rw[h.len];exact hlt) hw;have h2:=h.stuckP hj hl ht;rw[hf,List.mem_filter]at h2;rw[Bool.eq_iff_iff,h1,←h2];exact⟨fun e=>⟨List.mem_of_getElem? ht,e⟩,fun e=>e.2⟩
 have key:∀k,k≤ths.length→((ths.take k).filter f).map nameB=namesOf (P.all (2 ^ P.todo.length)) k:=by
  intro k
  induction k with
  | zero=>intro _;rfl
  | succ k ih=>
   intro hk;have ht:ths[k]?=some ths[k]:=List.getElem?_eq_getElem (by omega);rw[List.take_add_one,ht,List.filter_append,List.map_append,ih (by omega),namesOf]
   congr 1
   have hb:=hbit k _ ht;have hn:nameB ths[k]=UInt8.ofNat (49+k):=by
    obtain⟨_,_,g⟩:=h.th _ _ ht;unfold nameB;rw[g.nm]
    congr 1
    omega
   show(List.filter f [ths[k]]).map nameB=_;rw[←hb];cases hfk:f ths[k]with
   | true=>simp[List.filter,hfk,hn]
   | false=>simp[List.filter,hfk]
 unfold stuckM PS.stuck;have:=key ths.length (Nat.le_refl _);rw[List.take_length]at this;rw[hf,this,h.len]
end Go.Proofs.YtdgkpkdinfklaabGreat
