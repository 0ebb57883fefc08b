import Derived.Test.YtdgkpkdinfklaabGreatGI
import Derived.Test.YtdgkpkdinfklaabGreatGTA
import Derived.Test.YtdgkpkdinfklaabGreatGV
namespace Go.Proofs.YtdgkpkdinfklaabGreat
def acs:Int→List UInt8→List UInt8→List (Int×UInt8×UInt8×List UInt8)
 | _,_,[]=>[]
 | _,_,[_]=>[]
 | th,now,c::v::s=>
  if c=103∨c=112 then(th,c,v,now)::acs th now s
  else if c=105 then acs th now s
  else if c=91∨c=60 then acs th (now++[v]) s
  else if c=93∨c=62 then acs th now.dropLast (v::s)
  else if c=124 then acs (th+1) now (v::s)
  else acs th now (v::s)
theorem acs_acc{th:Int}{now:List UInt8}{c v:UInt8}{s:List UInt8}(h:c=103∨c=112):acs th now (c::v::s)=(th,c,v,now)::acs th now s:=by rw[acs,if_pos h]
theorem acs_add{th:Int}{now:List UInt8}{v:UInt8}{s:List UInt8}:acs th now (105::v::s)=acs th now s:=by rw[acs,if_neg (by decide),if_pos rfl]
theorem acs_take{th:Int}{now:List UInt8}{c v:UInt8}{s:List UInt8}(h:c=91∨c=60):acs th now (c::v::s)=acs th (now++[v]) s:=by
 rw[acs,if_neg (by rcases h with rfl|rfl<;>decide),if_neg (by rcases h with rfl|rfl<;>decide),if_pos h]
theorem acs_give{th:Int}{now:List UInt8}{c:UInt8}{s:List UInt8}(h:c=93∨c=62):acs th now (c::s)=acs th now.dropLast s:=by
 cases s with
 | nil=>rfl
 | cons v s=>rw[acs,if_neg (by rcases h with rfl|rfl<;>decide),if_neg (by rcases h with rfl|rfl<;>decide),if_neg (by rcases h with rfl|rfl<;>decide),if_pos h]
theorem acs_bar{th:Int}{now:List UInt8}{s:List UInt8}:acs th now (124::s)=acs (th+1) now s:=by
 cases s with
 | nil=>rfl
 | cons v s=>rw[acs,if_neg (by decide),if_neg (by decide),if_neg (by decide),if_neg (by decide),if_pos rfl]
theorem acs_skip{th:Int}{now:List UInt8}{c:UInt8}{s:List UInt8}(h:sizeU c=1)(h1:c≠93)(h2:c≠62)(h3:c≠124):acs th now (c::s)=acs th now s:=by
 cases s with
 | nil=>rfl
 | cons v s=>
  have n1:¬(c=103∨c=112):=by rintro(rfl|rfl)<;>exact absurd h (by decide)
  have n2:¬c=105:=by rintro rfl;exact absurd h (by decide)
  have n3:¬(c=91∨c=60):=by rintro(rfl|rfl)<;>exact absurd h (by decide)
  rw[acs,if_neg n1,if_neg n2,if_neg n3,if_neg (by simp[h1,h2]),if_neg h3]
theorem acs_cat{X J a:List UInt8}(h:TD X J a):∀(th:Int) (base s:List UInt8),acs th (base++J.reverse) (a++s)=acs th (base++J.reverse) a++acs th base s:=by
 induction h with
 | nil X=>intro th base s;simp[acs]
 | acc c v hc hv _ ih=>intro th base s;rw[List.cons_append,List.cons_append,acs_acc hc,acs_acc hc,ih,List.cons_append]
 | add d hd _ ih=>intro th base s;rw[List.cons_append,List.cons_append,acs_add,acs_add,ih]
 | out _ ih=>intro th base s;rw[List.cons_append,acs_skip (by decide) (by decide) (by decide) (by decide),acs_skip (by decide) (by decide) (by decide) (by decide),ih]
 | take c l hc hl hn _ ih=>
  intro th base s;have:=ih th base s;rw[List.reverse_cons,←List.append_assoc]at this;rw[List.cons_append,List.cons_append,acs_take hc,acs_take hc,this]
 | give c l hc _ ih=>
  intro th base s;rw[List.cons_append,acs_give hc,acs_give hc,List.reverse_cons,←List.append_assoc,List.dropLast_concat];exact ih th base s
 | @branch H K a b s' ha hb hs iha ihb ihs=>
  intro th base s;have ea:=fun t=>iha th (base++K.reverse) t
  have eb:=fun t=>ihb th (base++K.reverse) t
  simp only[List.reverse_nil,List.append_nil]at ea eb;have sk:∀(c:UInt8) (t:List UInt8),(c=63∨c=123∨c=125)→acs th (base++K.reverse) (c::t)=acs th (base++K.reverse) t:=fun c t hc=>acs_skip (by rcases hc with rfl|rfl|rfl<;>decide) (by rcases hc with rfl|rfl|rfl<;>decide) (by rcases hc with rfl|rfl|rfl<;>decide) (by rcases hc with rfl|rfl|rfl<;>decide)
  simp only[List.cons_append,List.append_assoc];rw[sk 63 _ (by simp),sk 123 _ (by simp),ea,sk 125 _ (by simp),sk 123 _ (by simp),eb,sk 125 _ (by simp),ihs,sk 63 _ (by simp),sk 123 _ (by simp),ea,sk 125 _ (by simp),sk 123 _ (by simp),eb,sk 125 _ (by simp)];simp[List.append_assoc]
 | @loop H K a s' hm ha hs iha ihs=>
  intro th base s;have ea:=fun t=>iha th (base++K.reverse) t
  simp only[List.reverse_nil,List.append_nil]at ea;have sk:∀(c:UInt8) (t:List UInt8),(c=33∨c=123∨c=125)→acs th (base++K.reverse) (c::t)=acs th (base++K.reverse) t:=fun c t hc=>acs_skip (by rcases hc with rfl|rfl|rfl<;>decide) (by rcases hc with rfl|rfl|rfl<;>decide) (by rcases hc with rfl|rfl|rfl<;>decide) (by rcases hc with rfl|rfl|rfl<;>decide)
  simp only[List.cons_append,List.append_assoc];rw[sk 33 _ (by simp),sk 123 _ (by simp),ea,sk 125 _ (by simp),ihs,sk 33 _ (by simp),sk 123 _ (by simp),ea,sk 125 _ (by simp)];simp[List.append_assoc]
def MarkOf(m:MK)(x:Int×UInt8×UInt8×List UInt8):Prop:=m.thread=x.1∧m.kind=(if x.2.1=112 then 2 else 1)∧m.num=(x.2.2.1.toNat:Int)-120∧m.h0=inU x.2.2.2 65∧m.h1=inU x.2.2.2 66∧m.h2=inU x.2.2.2 67∧m.h3=inU x.2.2.2 68∧m.h4=inU x.2.2.2 69
theorem tw_next{p:List UInt8}{k:Nat}{c:UInt8}(hlt:(tw p k).i<p.length)(hc:p[(tw p k).i]?=some c):tw p (k+1)=⟨(tw p k).i+sizeU c,heldU (tw p k).now p (tw p k).i,if c=124 then(tw p k).th+1 else(tw p k).th,
  if c=91∨c=60 then(tw p k).mks++[mkN 3 (tw p k).i (tw p k).th (((p[(tw p k).i+1]?).getD 0).toNat-65) (tw p k).now]
   else if c=103∨c=112 then(tw p k).mks++[mkN (if c=112 then 2 else 1) (tw p k).i (tw p k).th (((p[(tw p k).i+1]?).getD 0).toNat-120) (tw p k).now]else(tw p k).mks⟩:=by
 rw[tw,if_pos hlt,tstep,hc]
theorem acs_marks{p:List UInt8}{mks:List MK}(ha:Acc p mks):∀x∈acs 1 [] p,∃m∈mks,MarkOf m x:=by
 have key:∀n k,p.length-(tw p k).i≤n→∀x∈acs (tw p k).th (tw p k).now (p.drop (tw p k).i),∃m∈mks,MarkOf m x:=by
  intro n
  induction n with
  | zero=>
   intro k hk x hx;rw[List.drop_eq_nil_of_le (by omega)]at hx;simp[acs]at hx
  | succ n ih=>
   intro k hk x hx
   by_cases hlt:(tw p k).i<p.length
   ·have hc:=List.getElem?_eq_getElem hlt;obtain⟨hroom,l,hl⟩:=acc_room ha hlt hc;have hst:=tw_next hlt hc;have hpos:=sizeU_pos p[(tw p k).i];have hi:=ih (k+1) (by rw[hst];simp only;omega);rw[hst]at hi;simp only at hi;generalize hcc:p[(tw p k).i]=c at *;have hd:p.drop (tw p k).i=c::p.drop ((tw p k).i+1):=by rw[List.drop_eq_getElem_cons hlt,hcc]
    rw[hd]at hx
    by_cases h2:sizeU c=2
    ·have hlt2:(tw p k).i+1<p.length:=by omega
     have hd2:p.drop ((tw p k).i+1)=p[(tw p k).i+1]::p.drop ((tw p k).i+2):=by rw[List.drop_eq_getElem_cons hlt2]
     have hg:p[(tw p k).i+1]?=some p[(tw p k).i+1]:=List.getElem?_eq_getElem hlt2;rw[hd2]at hx;rw[h2]at hi;have hcase:(c=103∨c=112)∨c=105∨(c=91∨c=60):=by
      by_cases h3:inU [103,112,105,91,60] c=true
      ·simp[inU]at h3;rcases h3 with rfl|rfl|rfl|rfl|rfl<;>simp
      ·rw[sizeU,if_neg h3]at h2;exact absurd h2 (by decide)
     rcases hcase with h3|h3|h3
     ·have nb:¬c=124:=by rintro rfl;rcases h3 with h3|h3<;>exact absurd h3 (by decide)
      have nt:¬(c=91∨c=60):=by rcases h3 with rfl|rfl<;>decide
      have ng:¬(c=93∨c=62):=by rcases h3 with rfl|rfl<;>decide
      have hh:heldU (tw p k).now p (tw p k).i=(tw p k).now:=by
       rw[heldU,hc];simp only;rw[if_neg nt,if_neg ng]
      rw[if_neg nb,hh]at hi;rw[acs_acc h3,List.mem_cons]at hx;rcases hx with rfl|hx
      ·refine⟨mkN (if c=112 then 2 else 1) (tw p k).i (tw p k).th ((p[(tw p k).i+1].toNat:Int)-120) (tw p k).now,?_,?_⟩
       ·rw[hl,hst];simp only;rw[if_neg nt,if_pos h3,hg];simp
       ·exact⟨rfl,rfl,rfl,rfl,rfl,rfl,rfl,rfl⟩
      ·exact hi x hx
     ·subst h3;have hh:heldU (tw p k).now p (tw p k).i=(tw p k).now:=by
       rw[heldU,hc];simp only;rw[if_neg (by decide),if_neg (by decide)]
      rw[if_neg (by decide),hh]at hi;rw[acs_add]at hx;exact hi x hx
     ·have nb:¬c=124:=by rintro rfl;rcases h3 with h3|h3<;>exact absurd h3 (by decide)
      have hh:heldU (tw p k).now p (tw p k).i=(tw p k).now++[p[(tw p k).i+1]]:=by
       rw[heldU,hc];simp only;rw[if_pos h3,hg];rfl
      rw[if_neg nb,hh]at hi;rw[acs_take h3]at hx;exact hi x hx
    ·have h1:sizeU c=1:=by
      unfold sizeU at h2 ⊢
      split<;>simp_all
     have nt:¬(c=91∨c=60):=by rintro(rfl|rfl)<;>exact absurd h1 (by decide)
     rw[h1]at hi
     by_cases hg:c=93∨c=62
     ·have nb:¬c=124:=by rintro rfl;rcases hg with h3|h3<;>exact absurd h3 (by decide)
      have hh:heldU (tw p k).now p (tw p k).i=(tw p k).now.dropLast:=by
       rw[heldU,hc];simp only;rw[if_neg nt,if_pos hg]
      rw[if_neg nb,hh]at hi;rw[acs_give hg]at hx;exact hi x hx
     ·have hh:heldU (tw p k).now p (tw p k).i=(tw p k).now:=by
       rw[heldU,hc];simp only;rw[if_neg nt,if_neg hg]
      rw[hh]at hi
      by_cases hb:c=124
      ·subst hb;rw[if_pos rfl]at hi;rw[acs_bar]at hx;exact hi x hx
      ·rw[if_neg hb]at hi;rw[acs_skip h1 (fun e=>hg (.inl e)) (fun e=>hg (.inr e)) hb]at hx;exact hi x hx
   ·rw[List.drop_eq_nil_of_le (by omega)]at hx;simp[acs]at hx
 exact key p.length 0 (by simp[tw])
def lkM(m:MK)(a:UInt8):Bool:=(a==65&&m.h0)||(a==66&&m.h1)||(a==67&&m.h2)||(a==68&&m.h3)||(a==69&&m.h4)
def NoOpen(mks:List MK):Prop:=∀m∈mks,∀m'∈mks,m.kind≠3→m'.kind≠3→m.thread≠m'.thread→m.num=m'.num→(m.kind=2∨m'.kind=2)→∃l,lkM m l=true∧lkM m' l=true
theorem acs_test{th:Int}{l:List UInt8}{c:UInt8}{t:List UInt8}(hc:c=63∨c=33∨c=123∨c=125):acs th l (c::t)=acs th l t:=
 acs_skip (by rcases hc with rfl|rfl|rfl|rfl<;>decide) (by rcases hc with rfl|rfl|rfl|rfl<;>decide) (by rcases hc with rfl|rfl|rfl|rfl<;>decide) (by rcases hc with rfl|rfl|rfl|rfl<;>decide)
theorem acs_body{X a:List UInt8}(h:TD X [] a)(th:Int)(l s:List UInt8):acs th l (a++s)=acs th l a++acs th l s:=by
 have:=acs_cat h th l s;simpa using this
theorem acs_branch{X Y a b:List UInt8}(ha:TD X [] a)(hb:TD Y [] b)(th:Int)(l r:List UInt8):acs th l (63::123::(a++125::123::(b++125::r)))=acs th l a++(acs th l b++acs th l r):=by
 rw[acs_test (by simp),acs_test (by simp),acs_body ha,acs_test (by simp),acs_test (by simp),acs_body hb,acs_test (by simp)]
theorem acs_loop{X a:List UInt8}(ha:TD X [] a)(th:Int)(l r:List UInt8):acs th l (33::123::(a++125::r))=acs th l a++acs th l r:=by
 rw[acs_test (by simp),acs_test (by simp),acs_body ha,acs_test (by simp)]
theorem prL_none{l:List MK}:∀n,prL l n=[]→∀i k,i<n→i<k→k<l.length→opAt l i k=false:=by
 have inner:∀i c,prI l i c=[]→∀q,q<c→opAt l i (i+1+q)=false:=by
  intro i c
  induction c with
  | zero=>intro _ q hq;omega
  | succ c ih=>
   intro h q hq;rw[prI]at h;have h1:=List.append_eq_nil_iff.1 h
   by_cases e:q=c
   ·subst e;cases ho:opAt l i (i+1+q)with
    | false=>rfl
    | true=>rw[ho,if_pos rfl]at h1;exact absurd h1.2 (by simp)
   ·exact ih h1.1 q (by omega)
 intro n
 induction n with
 | zero=>intro _ i k hi;omega
 | succ n ih=>
  intro h i k hi hk hl;rw[prL]at h;have h1:=List.append_eq_nil_iff.1 h
  by_cases e:i=n
  ·subst e;have:=inner i _ h1.2 (k-(i+1)) (by omega);rw[show i+1+(k-(i+1))=k by omega]at this;exact this
  ·exact ih h1.1 i k (by omega) hk hl
theorem meet_lock{m m':MK}(h:meetB (hOf m) (hOf m')=true):∃l,lkM m l=true∧lkM m' l=true:=by
 rw[meetB,List.any_eq_true]at h;obtain⟨i,hi,h⟩:=h;simp at hi h;have:i=0∨i=1∨i=2∨i=3∨i=4:=by omega
 rcases this with rfl|rfl|rfl|rfl|rfl
 ·exact⟨65,by simpa[lkM,hOf]using h⟩
 ·exact⟨66,by simpa[lkM,hOf]using h⟩
 ·exact⟨67,by simpa[lkM,hOf]using h⟩
 ·exact⟨68,by simpa[lkM,hOf]using h⟩
 ·exact⟨69,by simpa[lkM,hOf]using h⟩
theorem noOpen_of{mks:List MK}(h:prL (accL mks) (accL mks).length=[]):NoOpen mks:=by
 intro m hm m' hm' k3 k3' ht hn hp;have mem:∀m∈mks,m.kind≠3→m∈accL mks:=fun m hm k=>by
  rw[accL,List.mem_filter];exact⟨hm,by simp[isAcc,k]⟩
 obtain⟨i,hi⟩:=List.getElem?_of_mem (mem m hm k3);obtain⟨k,hk⟩:=List.getElem?_of_mem (mem m' hm' k3');have li:=(List.getElem?_eq_some_iff.1 hi).1;have lk:=(List.getElem?_eq_some_iff.1 hk).1;have hne:i≠k:=fun e=>by
  subst e;rw[hi]at hk;cases hk;exact ht rfl
 by_cases hlt:i<k
 ·have:=prL_none _ h i k li hlt lk;rw[opAt,hi,hk]at this;simp only[opMK]at this;have ht':(m.thread != m'.thread)=true:=by simpa using ht
  have hn':(m.num==m'.num)=true:=by simpa using hn
  have hp':(m.kind==2||m'.kind==2)=true:=by simpa using hp
  rw[ht',hn',hp']at this;exact meet_lock (by simpa using this)
 ·have:=prL_none _ h k i lk (by omega) li;rw[opAt,hi,hk]at this;simp only[opMK]at this;have ht':(m'.thread != m.thread)=true:=by simpa using fun e:m'.thread=m.thread=>ht e.symm
  have hn':(m'.num==m.num)=true:=by simpa using hn.symm
  have hp':(m'.kind==2||m.kind==2)=true:=by simpa[or_comm]using hp
  rw[ht',hn',hp']at this;obtain⟨l,l1,l2⟩:=meet_lock (m:=m') (m':=m) (by simpa using this);exact⟨l,l2,l1⟩
end Go.Proofs.YtdgkpkdinfklaabGreat
