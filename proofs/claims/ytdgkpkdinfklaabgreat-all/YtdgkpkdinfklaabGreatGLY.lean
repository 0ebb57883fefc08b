import Derived.Test.YtdgkpkdinfklaabGreatGRG
import Derived.Test.YtdgkpkdinfklaabGreatGE
import Derived.Test.YtdgkpkdinfklaabGreatGSF
namespace Go.Proofs.YtdgkpkdinfklaabGreat
def clo:List UInt8→List UInt8→List UInt8
 | [],Y=>Y
 | _::K,Y=>93::66::clo K Y
theorem fr_go{f f':List UInt8}{c:UInt8}(h:nxt f c=(f',true))(s:List UInt8):fr f (c::s)=fr f' s:=by rw[fr,h];rfl
theorem md_fr{H K s:List UInt8}(h:MD H K s):∀(Y t:List UInt8),fr (66::clo K Y) (s++t)=fr (66::Y) t:=by
 induction h with
 | nil H=>intro Y t;rfl
 | acc c v hc hv _ ih=>
  intro Y t;rw[List.cons_append,List.cons_append,fr_go (nxt_B (more:=[118]) (by rcases hc with rfl|rfl<;>rfl)),fr_go (f':=66::clo _ Y) (by show nxt (118::_) v=_;rw[nxt_e (by decide) (by decide)];exact congrArg _ hv),ih]
 | add d hd _ ih=>
  intro Y t;rw[List.cons_append,List.cons_append,fr_go (nxt_B (more:=[110]) rfl),fr_go (f':=66::clo _ Y) (by show nxt (110::_) d=_;rw[nxt_e (by decide) (by decide)];exact congrArg _ hd),ih]
 | out _ ih=>
  intro Y t;rw[List.cons_append,fr_go (nxt_B (more:=[]) rfl)];exact ih Y t
 | take l hl hn _ ih=>
  intro Y t;rw[List.cons_append,List.cons_append,fr_go (nxt_B (more:=[108,66,93]) rfl),fr_go (f':=66::93::66::clo _ Y) (by show nxt (108::_) l=_;rw[nxt_e (by decide) (by decide)];exact congrArg _ hl)];exact ih Y t
 | give l _ ih=>
  intro Y t;rw[List.cons_append,fr_go (f':=66::clo _ Y) (by show nxt (66::93::_) 93=_;rw[nxt_skip rfl,nxt_e (by decide) (by decide)];rfl)];exact ih Y t
 | mend l c v hl hn hc hv _ ih=>
  intro Y t;simp only[List.cons_append]
  rw[fr_go (nxt_B (more:=[107,97,118,62]) rfl),fr_go (f':=97::118::62::66::clo _ Y) (by show nxt (107::_) l=_;rw[nxt_e (by decide) (by decide)];exact congrArg _ hl),
   fr_go (f':=118::62::66::clo _ Y) (by rw[nxt_e (by decide) (by decide)];rcases hc with rfl|rfl<;>rfl),fr_go (f':=62::66::clo _ Y) (by rw[nxt_e (by decide) (by decide)];exact congrArg _ hv),fr_go (f':=66::clo _ Y) (by rw[nxt_e (by decide) (by decide)];rfl)]
  exact ih Y t
 | @branch H K a b s _ _ _ iha ihb ih=>
  intro Y t;simp only[List.cons_append,List.append_assoc];rw[fr_go (nxt_B (more:=[123,66,125,123,66,125]) rfl),fr_go (f':=66::125::123::66::125::66::clo K Y) (by show nxt (123::_) 123=_;rw[nxt_e (by decide) (by decide)];rfl)];have ea:=iha (125::123::66::125::66::clo K Y);simp only[clo]at ea;rw[ea,fr_go (f':=123::66::125::66::clo K Y) (by rw[nxt_skip rfl,nxt_e (by decide) (by decide)];rfl),fr_go (f':=66::125::66::clo K Y) (by rw[nxt_e (by decide) (by decide)];rfl)];have eb:=ihb (125::66::clo K Y);simp only[clo]at eb;rw[eb,fr_go (f':=66::clo K Y) (by rw[nxt_skip rfl,nxt_e (by decide) (by decide)];rfl)];exact ih Y t
 | @loop H K a s hm _ _ iha ih=>
  intro Y t;simp only[List.cons_append,List.append_assoc];rw[fr_go (nxt_B (more:=[123,66,125]) rfl),fr_go (f':=66::125::66::clo K Y) (by show nxt (123::_) 123=_;rw[nxt_e (by decide) (by decide)];rfl)];have ea:=iha (125::66::clo K Y);simp only[clo]at ea;rw[ea,fr_go (f':=66::clo K Y) (by rw[nxt_skip rfl,nxt_e (by decide) (by decide)];rfl)];exact ih Y t
theorem md_threads(m:Nat):∀p,(splitBar p).length≤m+1→(∀a∈splitBar p,MD [] [] a)→∃g,fr (66::List.replicate m 109) p=some g∧wholeF g=true:=by
 induction m with
 | zero=>
  intro p hl h;have hb:(124:UInt8)∉p:=fun hb=>by
   obtain⟨u,v,rfl,hu⟩:=List.eq_append_cons_of_mem hb;rw[split_bar hu]at hl;simp at hl;have:=splitBar_count v;rw[hl]at this;simp at this
  rw[split_none hb]at h;have:=md_fr (h p (by simp)) (List.replicate 0 109) [];rw[List.append_nil]at this;simp only[clo]at this;exact⟨_,this,rfl⟩
 | succ m ih=>
  intro p hl h
  by_cases hb:(124:UInt8)∈p
  ·obtain⟨u,v,rfl,hu⟩:=List.eq_append_cons_of_mem hb;rw[split_bar hu]at hl h;have:=md_fr (h u (by simp)) (List.replicate (m+1) 109) (124::v);simp only[clo]at this;rw[this,List.replicate_succ,fr_go (f':=66::List.replicate m 109) (by rw[nxt_skip rfl,nxt_m];rfl)];exact ih v (by simpa using hl) (fun a ha=>h a (by simp[ha]))
  ·rw[split_none hb]at h;have:=md_fr (h p (by simp)) (List.replicate (m+1) 109) [];rw[List.append_nil]at this;simp only[clo]at this;exact⟨_,this,by simp[wholeF]⟩
theorem fr_snoc(s:List UInt8):∀(f:List UInt8) (c:UInt8),fr f (s++[c])=match fr f s with|some g=>if (nxt g c).2 then some (nxt g c).1 else none|none=>none:=by
 induction s with
 | nil=>intro f c;simp[fr]
 | cons d r ih=>
  intro f c;rw[List.cons_append,fr,fr]
  split
  ·exact ih _ c
  ·rfl
theorem fw_fr(p:List UInt8):∀k,k≤p.length→fw p k=fr [66,109,109,109] (p.take k):=by
 intro k
 induction k with
 | zero=>intro _;rfl
 | succ k ih=>
  intro hk;rw[fw,ih (by omega),List.take_succ_eq_append_getElem (by omega),fr_snoc,List.getElem?_eq_getElem (by omega)];cases fr [66,109,109,109] (p.take k)<;>rfl
theorem form_not_fail{p:List UInt8}{q:Nat}{f:List UInt8}(hff:fw p p.length=some f)(hw:wholeF f=true)(hf:Fail p q):False:=by
 rcases hf with⟨g,c,hl,hg,hc,hn⟩|⟨hl,g,hg,hn⟩
 ·obtain⟨g',hg'⟩:=fw_prefix hff (show q+1≤p.length by omega);rw[fw,hg,hc]at hg';simp only at hg';rw[if_neg (by rw[hn];decide)]at hg';cases hg'
 ·rw[hl,hff]at hg;cases hg;rw[hw]at hn;cases hn
theorem md_acc{p:List UInt8}(h4:(splitBar p).length≤4)(h:∀a∈splitBar p,MD [] [] a):∃mks,Acc p mks:=by
 obtain⟨g,hg,hw⟩:=md_threads 3 p h4 h;have hff:fw p p.length=some g:=by rw[fw_fr p p.length (Nat.le_refl _),List.take_length];exact hg
 obtain⟨r,hr,he|⟨hl,hf⟩⟩:=reach_end p
 ·by_cases ho:r.op=[]
  ·exact⟨_,acc_of hr he ho⟩
  ·exact(form_not_fail hff hw (fail_end hr he ho)).elim
 ·exact(form_not_fail hff hw (fail_piece hr hl hf)).elim
def TakeOf(m:MK)(x:UInt8×UInt8×List UInt8):Prop:=m.num=(x.2.1.toNat:Int)-65∧m.h0=inU x.2.2 65∧m.h1=inU x.2.2 66∧m.h2=inU x.2.2 67∧m.h3=inU x.2.2 68∧m.h4=inU x.2.2 69
structure MkIn(p:List UInt8)(t:TS):Prop where
 a:∀x∈acs t.th t.now (p.drop t.i),x∈acs 1 [] p
 b:∀x∈tks t.now (p.drop t.i),x∈tks [] p
 c:∀m∈t.mks,(m.kind=3∧∃x∈tks [] p,TakeOf m x)∨(m.kind≠3∧∃x∈acs 1 [] p,MarkOf m x)
theorem mk_in{p:List UInt8}{mks:List MK}(ha:Acc p mks):∀k,MkIn p (tw p k):=by
 intro k
 induction k with
 | zero=>exact⟨fun x hx=>by simpa[tw]using hx,fun x hx=>by simpa[tw]using hx,fun m hm=>by simp[tw]at hm⟩
 | succ k ih=>
  by_cases hlt:(tw p k).i<p.length
  ·have hc:=List.getElem?_eq_getElem hlt;obtain⟨hroom,_,_⟩:=acc_room ha hlt hc;have hst:=tw_next hlt hc;rw[hst];generalize hcc:p[(tw p k).i]=c at *;have hd:p.drop (tw p k).i=c::p.drop ((tw p k).i+1):=by rw[List.drop_eq_getElem_cons hlt,hcc]
   obtain⟨ia,ib,ic⟩:=ih;rw[hd]at ia ib
   by_cases h2:sizeU c=2
   ·have hlt2:(tw p k).i+1<p.length:=by omega
    have hd2:p.drop ((tw p k).i+1)=p[(tw p k).i+1]::p.drop ((tw p k).i+2):=by rw[List.drop_eq_getElem_cons hlt2]
    have hg:p[(tw p k).i+1]?=some p[(tw p k).i+1]:=List.getElem?_eq_getElem hlt2;rw[hd2]at ia ib;rw[h2];have hcase:(c=103∨c=112)∨c=105∨(c=91∨c=60):=by
     by_cases h3:inU [103,112,105,91,60] c=true
     ·simp[inU]at h3;rcases h3 with rfl|rfl|rfl|rfl|rfl<;>simp
     ·rw[sizeU,if_neg h3]at h2;exact absurd h2 (by decide)
    rcases hcase with h3|h3|h3
    ·have nb:¬c=124:=by rintro rfl;rcases h3 with h3|h3<;>exact absurd h3 (by decide)
     have nt:¬(c=91∨c=60):=by rcases h3 with rfl|rfl<;>decide
     have ng:¬(c=93∨c=62):=by rcases h3 with rfl|rfl<;>decide
     have hh:heldU (tw p k).now p (tw p k).i=(tw p k).now:=by
      rw[heldU,hc];simp only;rw[if_neg nt,if_neg ng]
     rw[if_neg nb,hh,if_neg nt,if_pos h3,hg];rw[acs_acc h3]at ia;rw[tks_two (by rcases h3 with h|h<;>simp[h])]at ib;refine⟨fun x hx=>ia x (List.mem_cons_of_mem _ hx),ib,fun m hm=>?_⟩;rw[List.mem_append,List.mem_singleton]at hm;rcases hm with hm|rfl
     ·exact ic m hm
     ·right;refine⟨?_,(_,c,p[(tw p k).i+1],(tw p k).now),ia _ List.mem_cons_self,⟨rfl,rfl,rfl,rfl,rfl,rfl,rfl,rfl⟩⟩;show(if c=112 then(2:Int)else 1)≠3
      split<;>decide
    ·subst h3;have hh:heldU (tw p k).now p (tw p k).i=(tw p k).now:=by
      rw[heldU,hc];simp only;rw[if_neg (by decide),if_neg (by decide)]
     rw[if_neg (by decide),hh,if_neg (by decide),if_neg (by decide)];rw[acs_add]at ia;rw[tks_two (by simp)]at ib;exact⟨ia,ib,ic⟩
    ·have nb:¬c=124:=by rintro rfl;rcases h3 with h3|h3<;>exact absurd h3 (by decide)
     have hh:heldU (tw p k).now p (tw p k).i=(tw p k).now++[p[(tw p k).i+1]]:=by
      rw[heldU,hc];simp only;rw[if_pos h3,hg];rfl
     rw[if_neg nb,hh,if_pos h3,hg];rw[acs_take h3]at ia;rw[tks_take h3]at ib;refine⟨ia,fun x hx=>ib x (List.mem_cons_of_mem _ hx),fun m hm=>?_⟩;rw[List.mem_append,List.mem_singleton]at hm;rcases hm with hm|rfl
     ·exact ic m hm
     ·left;exact⟨rfl,(c,p[(tw p k).i+1],(tw p k).now),ib _ List.mem_cons_self,⟨rfl,rfl,rfl,rfl,rfl,rfl⟩⟩
   ·have h1:sizeU c=1:=by
     unfold sizeU at h2 ⊢
     split<;>simp_all
    have nt:¬(c=91∨c=60):=by rintro(rfl|rfl)<;>exact absurd h1 (by decide)
    have na:¬(c=103∨c=112):=by rintro(rfl|rfl)<;>exact absurd h1 (by decide)
    rw[h1,if_neg nt,if_neg na]
    by_cases hg:c=93∨c=62
    ·have nb:¬c=124:=by rintro rfl;rcases hg with h3|h3<;>exact absurd h3 (by decide)
     have hh:heldU (tw p k).now p (tw p k).i=(tw p k).now.dropLast:=by
      rw[heldU,hc];simp only;rw[if_neg nt,if_pos hg]
     rw[if_neg nb,hh];rw[acs_give hg]at ia;rw[tks_give hg]at ib;exact⟨ia,ib,ic⟩
    ·have hh:heldU (tw p k).now p (tw p k).i=(tw p k).now:=by
      rw[heldU,hc];simp only;rw[if_neg nt,if_neg hg]
     rw[hh];rw[tks_skip h1 (fun e=>hg (.inl e)) (fun e=>hg (.inr e))]at ib
     by_cases hb:c=124
     ·subst hb;rw[if_pos rfl];rw[acs_bar]at ia;exact⟨ia,ib,ic⟩
     ·rw[if_neg hb];rw[acs_skip h1 (fun e=>hg (.inl e)) (fun e=>hg (.inr e)) hb]at ia;exact⟨ia,ib,ic⟩
  ·have:tw p (k+1)=tw p k:=by rw[tw,if_neg hlt]
   rw[this];exact ih
theorem marks_in{p:List UInt8}{mks:List MK}(ha:Acc p mks):∀m∈mks,(m.kind=3∧∃x∈tks [] p,TakeOf m x)∨(m.kind≠3∧∃x∈acs 1 [] p,MarkOf m x):=by
 obtain⟨k,n,t,hk⟩:=ha.toks;have:=(mk_in ha k).c;rw[hk]at this;exact this
theorem tks_split(p:List UInt8)(h:∀a∈splitBar p,TD [] [] a):∀x,x∈tks [] p↔∃a∈splitBar p,x∈tks [] a:=by
 have key:∀n p,p.length≤n→(∀a∈splitBar p,TD [] [] a)→∀x,x∈tks [] p↔∃a∈splitBar p,x∈tks [] a:=by
  intro n
  induction n with
  | zero=>
   intro p hp _ x;have:p=[]:=List.eq_nil_of_length_eq_zero (by omega);subst this;have hs:splitBar []=[[]]:=rfl;simp[hs,tks]
  | succ n ih=>
   intro p hp h x
   by_cases hb:(124:UInt8)∈p
   ·obtain⟨u,v,rfl,hu⟩:=List.eq_append_cons_of_mem hb;rw[split_bar hu]at h ⊢;rw[tks_body (h u (by simp)),tks_skip (by decide) (by decide) (by decide),List.mem_append,ih v (by simp at hp;omega) (fun a ha=>h a (by simp[ha])) x];constructor
    ·rintro(hx|⟨a,ha,hx⟩)
     ·exact⟨u,by simp,hx⟩
     ·exact⟨a,by simp[ha],hx⟩
    ·rintro⟨a,ha,hx⟩;rcases List.mem_cons.1 ha with rfl|ha
     ·exact .inl hx
     ·exact .inr ⟨a,ha,hx⟩
   ·rw[split_none hb];simp
 exact key p.length p (Nat.le_refl _) h
theorem td_nest{H K s:List UInt8}(h:TD H K s):∀base,(∀l∈base,l∈H)→∀x∈tks (base++K.reverse) s,inU [65,66,67,68,69] x.2.1=true∧x.2.1∉x.2.2:=by
 induction h with
 | nil H=>intro base _ x hx;simp[tks]at hx
 | acc c v hc hv _ ih=>intro base hb x hx;rw[tks_two (by rcases hc with h|h<;>simp[h])]at hx;exact ih base hb x hx
 | add d hd _ ih=>intro base hb x hx;rw[tks_two (by simp)]at hx;exact ih base hb x hx
 | out _ ih=>intro base hb x hx;rw[tks_test (by simp)]at hx;exact ih base hb x hx
 | @take H K s c l hc hl hn _ ih=>
  intro base hb x hx;rw[tks_take hc,List.mem_cons]at hx;rcases hx with rfl|hx
  ·refine⟨hl,fun hm=>?_⟩;have:inU (K++H) l=true:=by
    rw[inU_mem,List.mem_append];simp only[List.mem_append,List.mem_reverse]at hm;rcases hm with hm|hm
    ·exact .inr (hb l hm)
    ·exact .inl hm
   rw[hn]at this;cases this
  ·refine ih base hb x ?_;rw[List.reverse_cons,←List.append_assoc];exact hx
 | give c l hc _ ih=>
  intro base hb x hx;rw[tks_give hc,List.reverse_cons,←List.append_assoc,List.dropLast_concat]at hx;exact ih base hb x hx
 | @branch H K a b s ha hb' hs iha ihb ih=>
  intro base hb x hx;rw[tks_test (c:=63) (by simp),tks_test (c:=123) (by simp),tks_body ha,tks_test (c:=125) (by simp),tks_test (c:=123) (by simp),tks_body hb',tks_test (c:=125) (by simp),List.mem_append,List.mem_append]at hx;have hbb:∀l∈base++K.reverse,l∈K++H:=fun l hl=>by
   simp only[List.mem_append,List.mem_reverse]at hl ⊢;rcases hl with hl|hl
   ·exact .inr (hb l hl)
   ·exact .inl hl
  rcases hx with hx|hx|hx
  ·exact iha (base++K.reverse) hbb x (by simpa using hx)
  ·exact ihb (base++K.reverse) hbb x (by simpa using hx)
  ·exact ih base hb x hx
 | @loop H K a s hm ha hs iha ih=>
  intro base hb x hx;rw[tks_test (c:=33) (by simp),tks_test (c:=123) (by simp),tks_body ha,tks_test (c:=125) (by simp),List.mem_append]at hx;have hbb:∀l∈base++K.reverse,l∈K++H:=fun l hl=>by
   simp only[List.mem_append,List.mem_reverse]at hl ⊢;rcases hl with hl|hl
   ·exact .inr (hb l hl)
   ·exact .inl hl
  rcases hx with hx|hx
  ·exact iha (base++K.reverse) hbb x (by simpa using hx)
  ·exact ih base hb x hx
theorem md_prog{p:List UInt8}(h4:(splitBar p).length≤4)(h:∀a∈splitBar p,MD [] [] a):∃mks,Acc p mks∧mks.find? nestB=none:=by
 obtain⟨mks,ha⟩:=md_acc h4 h;refine⟨mks,ha,?_⟩;rw[List.find?_eq_none];intro m hm hn;have htd:∀a∈splitBar p,TD [] [] a:=fun a ha=>(h a ha).td
 rcases marks_in ha m hm with⟨hk,x,hx,ht⟩|⟨hk,_⟩
 ·obtain⟨a,haa,hxa⟩:=(tks_split p htd x).1 hx;obtain⟨h1,h2⟩:=td_nest (htd a haa) [] (fun l hl=>by cases hl) x (by simpa using hxa);obtain⟨c,v,H⟩:=x;obtain⟨t1,t2,t3,t4,t5,t6⟩:=ht;simp only at t1 t2 t3 t4 t5 t6 h1 h2;apply h2;rw[inU_mem]at h1;simp only[List.mem_cons,List.not_mem_nil,or_false]at h1;rcases h1 with rfl|rfl|rfl|rfl|rfl
  all_goals
   simp only[nestB,hk,t1]at hn;simp at hn;rw[←inU_mem]
   simp_all
 ·simp only[nestB]at hn;simp at hn;exact hk hn.1
def up(h:Nat):Nat→List UInt8
 | 0=>[]
 | k+1=>UInt8.ofNat (65+h+k)::up h k
def lay(ch:Nat→Option UInt8):Nat→List UInt8→List UInt8
 | _,[]=>[]
 | _,[c]=>[c]
 | k,c::v::s=>
  if c=103∨c=112 then(match ch k with|some l=>60::l::c::v::62::lay ch (k+1) s|none=>c::v::lay ch (k+1) s)
  else if c=105∨c=91∨c=60 then c::v::lay ch k s
  else c::lay ch k (v::s)
def na:List UInt8→Nat
 | []=>0
 | [_]=>0
 | c::v::s=>if c=103∨c=112 then na s+1 else if c=105∨c=91∨c=60 then na s else na (v::s)
section
variable {ch : Nat → Option UInt8} {k : Nat} {c v : UInt8} {s : List UInt8}
theorem lay_acc(h:c=103∨c=112):lay ch k (c::v::s)=(match ch k with|some l=>[60,l,c,v,62]|none=>[c,v])++lay ch (k+1) s:=by
 rw[lay,if_pos h];cases ch k<;>rfl
theorem lay_two(h:c=105∨c=91):lay ch k (c::v::s)=c::v::lay ch k s:=by
 rw[lay,if_neg (by rcases h with rfl|rfl<;>decide),if_pos (by rcases h with rfl|rfl<;>simp)]
theorem lay_one(h:sizeU c=1):lay ch k (c::s)=c::lay ch k s:=by
 cases s with
 | nil=>rfl
 | cons v s=>
  rw[lay,if_neg (by rintro(rfl|rfl)<;>exact absurd h (by decide)),if_neg (by rintro(rfl|rfl|rfl)<;>exact absurd h (by decide))]
theorem na_acc(h:c=103∨c=112):na (c::v::s)=na s+1:=by rw[na,if_pos h]
theorem na_two(h:c=105∨c=91):na (c::v::s)=na s:=by
 rw[na,if_neg (by rcases h with rfl|rfl<;>decide),if_pos (by rcases h with rfl|rfl<;>simp)]
theorem na_one(h:sizeU c=1):na (c::s)=na s:=by
 cases s with
 | nil=>rfl
 | cons v s=>
  rw[na,if_neg (by rintro(rfl|rfl)<;>exact absurd h (by decide)),if_neg (by rintro(rfl|rfl|rfl)<;>exact absurd h (by decide))]
end
theorem lay_cat{X J a:List UInt8}(h:MD X J a):(60:UInt8)∉a→∀(ch:Nat→Option UInt8) (k:Nat) (s:List UInt8),lay ch k (a++s)=lay ch k a++lay ch (k+na a) s∧na (a++s)=na a+na s:=by
 induction h with
 | nil X=>intro _ ch k s;simp[lay,na]
 | acc c v hc hv _ ih=>
  intro hn ch k s;have hn':(60:UInt8)∉_:=fun h=>hn (List.mem_cons_of_mem _ (List.mem_cons_of_mem _ h))
  obtain⟨i1,i2⟩:=ih hn' ch (k+1) s;rw[List.cons_append,List.cons_append,lay_acc hc,lay_acc hc,na_acc hc,na_acc hc,i1,i2];exact⟨by rw[List.append_assoc];congr 3;omega,by omega⟩
 | add d hd _ ih=>
  intro hn ch k s;have hn':(60:UInt8)∉_:=fun h=>hn (List.mem_cons_of_mem _ (List.mem_cons_of_mem _ h))
  obtain⟨i1,i2⟩:=ih hn' ch k s;rw[List.cons_append,List.cons_append,lay_two (.inl rfl),lay_two (.inl rfl),na_two (.inl rfl),na_two (.inl rfl),i1,i2];exact⟨rfl,rfl⟩
 | out _ ih=>
  intro hn ch k s;obtain⟨i1,i2⟩:=ih (fun h=>hn (List.mem_cons_of_mem _ h)) ch k s;rw[List.cons_append,lay_one (by decide),lay_one (by decide),na_one (by decide),na_one (by decide),i1,i2];exact⟨rfl,rfl⟩
 | take l hl hnn _ ih=>
  intro hn ch k s;have hn':(60:UInt8)∉_:=fun h=>hn (List.mem_cons_of_mem _ (List.mem_cons_of_mem _ h))
  obtain⟨i1,i2⟩:=ih hn' ch k s;rw[List.cons_append,List.cons_append,lay_two (.inr rfl),lay_two (.inr rfl),na_two (.inr rfl),na_two (.inr rfl),i1,i2];exact⟨rfl,rfl⟩
 | give l _ ih=>
  intro hn ch k s;obtain⟨i1,i2⟩:=ih (fun h=>hn (List.mem_cons_of_mem _ h)) ch k s;rw[List.cons_append,lay_one (by decide),lay_one (by decide),na_one (by decide),na_one (by decide),i1,i2];exact⟨rfl,rfl⟩
 | mend l c v _ _ _ _ _ _=>intro hn;exact absurd List.mem_cons_self hn
 | @branch H K a b s' ha hb hs iha ihb ihs=>
  intro hn ch k s;have na1:(60:UInt8)∉a:=fun h=>hn (by simp[h])
  have nb1:(60:UInt8)∉b:=fun h=>hn (by simp[h])
  have ns1:(60:UInt8)∉s':=fun h=>hn (by simp[h])
  have ea:=fun k t=>iha na1 ch k t
  have eb:=fun k t=>ihb nb1 ch k t
  have es:=fun k t=>ihs ns1 ch k t
  have lB:∀t,lay ch k (63::123::(a++125::123::(b++125::t)))=63::123::(lay ch k a++125::123::(lay ch (k+na a) b++125::lay ch (k+na a+na b) t)):=fun t=>by
   rw[lay_one (c:=63) (by decide),lay_one (c:=123) (by decide),(ea _ _).1,lay_one (c:=125) (by decide),lay_one (c:=123) (by decide),(eb _ _).1,lay_one (c:=125) (by decide)]
  have nB:∀t,na (63::123::(a++125::123::(b++125::t)))=na a+(na b+na t):=fun t=>by
   rw[na_one (c:=63) (by decide),na_one (c:=123) (by decide),(ea 0 _).2,na_one (c:=125) (by decide),na_one (c:=123) (by decide),(eb 0 _).2,na_one (c:=125) (by decide)]
  have e0:63::123::(a++125::123::(b++125::s'))++s=63::123::(a++125::123::(b++125::(s'++s))):=by simp
  rw[e0,lB,lB,nB,nB,(es _ _).1,(es 0 _).2];refine⟨?_,by omega⟩;have e1:k+(na a+(na b+na s'))=k+na a+na b+na s':=by omega
  rw[e1];simp
 | @loop H K a s' hm ha hs iha ihs=>
  intro hn ch k s;have na1:(60:UInt8)∉a:=fun h=>hn (by simp[h])
  have ns1:(60:UInt8)∉s':=fun h=>hn (by simp[h])
  have ea:=fun k t=>iha na1 ch k t
  have es:=fun k t=>ihs ns1 ch k t
  have lB:∀t,lay ch k (33::123::(a++125::t))=33::123::(lay ch k a++125::lay ch (k+na a) t):=fun t=>by
   rw[lay_one (c:=33) (by decide),lay_one (c:=123) (by decide),(ea _ _).1,lay_one (c:=125) (by decide)]
  have nB:∀t,na (33::123::(a++125::t))=na a+na t:=fun t=>by
   rw[na_one (c:=33) (by decide),na_one (c:=123) (by decide),(ea 0 _).2,na_one (c:=125) (by decide)]
  have e0:33::123::(a++125::s')++s=33::123::(a++125::(s'++s)):=by simp
  rw[e0,lB,lB,nB,nB,(es _ _).1,(es 0 _).2];refine⟨?_,by omega⟩;have e1:k+(na a+na s')=k+na a+na s':=by omega
  rw[e1];simp
theorem lay_branch{X Y a b:List UInt8}(ha:MD X [] a)(hb:MD Y [] b)(n1:(60:UInt8)∉a)(n2:(60:UInt8)∉b)(ch:Nat→Option UInt8)(k:Nat)(t:List UInt8) :
  lay ch k (63::123::(a++125::123::(b++125::t)))=63::123::(lay ch k a++125::123::(lay ch (k+na a) b++125::lay ch (k+na a+na b) t)):=by
 rw[lay_one (c:=63) (by decide),lay_one (c:=123) (by decide),(lay_cat ha n1 ch _ _).1,lay_one (c:=125) (by decide),lay_one (c:=123) (by decide),(lay_cat hb n2 ch _ _).1,lay_one (c:=125) (by decide)]
theorem lay_loop{X a:List UInt8}(ha:MD X [] a)(n1:(60:UInt8)∉a)(ch:Nat→Option UInt8)(k:Nat)(t:List UInt8) :
  lay ch k (33::123::(a++125::t))=33::123::(lay ch k a++125::lay ch (k+na a) t):=by
 rw[lay_one (c:=33) (by decide),lay_one (c:=123) (by decide),(lay_cat ha n1 ch _ _).1,lay_one (c:=125) (by decide)]
theorem acs_len{X J a:List UInt8}(h:MD X J a):(60:UInt8)∉a→∀(th:Int) (base:List UInt8),(acs th (base++J.reverse) a).length=na a:=by
 induction h with
 | nil X=>intro _ th base;rfl
 | acc c v hc hv _ ih=>intro hn th base;rw[acs_acc hc,na_acc hc,List.length_cons,ih (fun h=>hn (by simp[h]))]
 | add d hd _ ih=>intro hn th base;rw[acs_add,na_two (.inl rfl),ih (fun h=>hn (by simp[h]))]
 | out _ ih=>intro hn th base;rw[acs_skip (by decide) (by decide) (by decide) (by decide),na_one (by decide),ih (fun h=>hn (by simp[h]))]
 | take l hl hnn _ ih=>
  intro hn th base;have:=ih (fun h=>hn (by simp[h])) th base;rw[List.reverse_cons,←List.append_assoc]at this;rw[acs_take (.inl rfl),na_two (.inr rfl),this]
 | give l _ ih=>
  intro hn th base;rw[acs_give (.inl rfl),na_one (by decide),List.reverse_cons,←List.append_assoc,List.dropLast_concat];exact ih (fun h=>hn (by simp[h])) th base
 | mend l c v _ _ _ _ _ _=>intro hn;exact absurd List.mem_cons_self hn
 | @branch H K a b s' ha hb hs iha ihb ihs=>
  intro hn th base;have n1:(60:UInt8)∉a:=fun h=>hn (by simp[h])
  have n2:(60:UInt8)∉b:=fun h=>hn (by simp[h])
  have n3:(60:UInt8)∉s':=fun h=>hn (by simp[h])
  have ea:=iha n1 th (base++K.reverse);have eb:=ihb n2 th (base++K.reverse);simp only[List.reverse_nil,List.append_nil]at ea eb;rw[acs_branch ha.td hb.td,List.length_append,List.length_append,ea,eb,ihs n3];rw[na_one (c:=63) (by decide),na_one (c:=123) (by decide),(lay_cat ha n1 (fun _=>none) 0 _).2,na_one (c:=125) (by decide),na_one (c:=123) (by decide),(lay_cat hb n2 (fun _=>none) 0 _).2,na_one (c:=125) (by decide)]
 | @loop H K a s' hm ha hs iha ihs=>
  intro hn th base;have n1:(60:UInt8)∉a:=fun h=>hn (by simp[h])
  have n3:(60:UInt8)∉s':=fun h=>hn (by simp[h])
  have ea:=iha n1 th (base++K.reverse);simp only[List.reverse_nil,List.append_nil]at ea;rw[acs_loop ha.td,List.length_append,ea,ihs n3];rw[na_one (c:=33) (by decide),na_one (c:=123) (by decide),(lay_cat ha n1 (fun _=>none) 0 _).2,na_one (c:=125) (by decide)]
def Fits(ch:Nat→Option UInt8)(k:Nat)(L:List (Int×UInt8×UInt8×List UInt8)):Prop:=∀(j:Nat) (x:Int×UInt8×UInt8×List UInt8) (l:UInt8),L[j]?=some x→ch (k+j)=some l→inU [65,66,67,68,69] l=true∧l∉x.2.2.2
theorem Fits.tail{ch:Nat→Option UInt8}{k:Nat}{x:Int×UInt8×UInt8×List UInt8}{L:List (Int×UInt8×UInt8×List UInt8)}(h:Fits ch k (x::L)):Fits ch (k+1) L:=fun j y l hj hl=>h (j+1) y l (by simpa using hj) (by rw[show k+(j+1)=k+1+j by omega];exact hl)
theorem Fits.left{ch:Nat→Option UInt8}{k:Nat}{A B:List (Int×UInt8×UInt8×List UInt8)}(h:Fits ch k (A++B)):Fits ch k A:=fun j y l hj hl=>h j y l (by rw[List.getElem?_append_left (List.getElem?_eq_some_iff.1 hj).1];exact hj) hl
theorem Fits.right{ch:Nat→Option UInt8}{k:Nat}{A B:List (Int×UInt8×UInt8×List UInt8)}(h:Fits ch k (A++B)):Fits ch (k+A.length) B:=fun j y l hj hl=>h (A.length+j) y l (by rw[List.getElem?_append_right (by omega),Nat.add_sub_cancel_left];exact hj) (by rw[show k+(A.length+j)=k+A.length+j by omega];exact hl)
theorem MD.lay{H K s:List UInt8}(h:MD H K s):(60:UInt8)∉s→∀(ch:Nat→Option UInt8) (k:Nat) (th:Int) (base:List UInt8),(∀l∈H,l∈base)→Fits ch k (acs th (base++K.reverse) s)→(Proofs.YtdgkpkdinfklaabGreat.lay ch k s).length≤240→MD H K (Proofs.YtdgkpkdinfklaabGreat.lay ch k s):=by
 induction h with
 | nil H=>intro _ ch k th base _ _ _;exact .nil H
 | @acc H K s c v hc hv _ ih=>
  intro hn ch k th base hb hf hl;rw[acs_acc hc]at hf;rw[lay_acc hc]at hl ⊢;have r:=ih (fun h=>hn (by simp[h])) ch (k+1) th base hb hf.tail (by simp at hl;omega);cases hch:ch k with
  | none=>exact .acc c v hc hv r
  | some l=>
   obtain⟨f1,f2⟩:=hf 0 _ l rfl hch;refine .mend l c v f1 ?_ hc hv r;cases hi:inU (K++H) l with
   | false=>rfl
   | true=>
    exfalso
    apply f2;rw[inU_mem,List.mem_append]at hi;simp only[List.mem_append,List.mem_reverse];rcases hi with hi|hi
    ·exact .inr hi
    ·exact .inl (hb l hi)
 | add d hd _ ih=>
  intro hn ch k th base hb hf hl;rw[acs_add]at hf;rw[lay_two (.inl rfl)]at hl ⊢;exact .add d hd (ih (fun h=>hn (by simp[h])) ch k th base hb hf (by simp at hl;omega))
 | out _ ih=>
  intro hn ch k th base hb hf hl;rw[acs_skip (by decide) (by decide) (by decide) (by decide)]at hf;rw[lay_one (by decide)]at hl ⊢;exact .out (ih (fun h=>hn (by simp[h])) ch k th base hb hf (by simp at hl;omega))
 | take l hll hnn _ ih=>
  intro hn ch k th base hb hf hl;rw[acs_take (.inl rfl)]at hf;rw[lay_two (.inr rfl)]at hl ⊢;refine .take l hll hnn (ih (fun h=>hn (by simp[h])) ch k th base hb ?_ (by simp at hl;omega));rw[List.reverse_cons,←List.append_assoc];exact hf
 | give l _ ih=>
  intro hn ch k th base hb hf hl;rw[acs_give (.inl rfl),List.reverse_cons,←List.append_assoc,List.dropLast_concat]at hf;rw[lay_one (by decide)]at hl ⊢;exact .give l (ih (fun h=>hn (by simp[h])) ch k th base hb hf (by simp at hl;omega))
 | mend l c v _ _ _ _ _ _=>intro hn;exact absurd List.mem_cons_self hn
 | @branch H K a b s ha hb' hs iha ihb ih=>
  intro hn ch k th base hb hf hl;have n1:(60:UInt8)∉a:=fun h=>hn (by simp[h])
  have n2:(60:UInt8)∉b:=fun h=>hn (by simp[h])
  have n3:(60:UInt8)∉s:=fun h=>hn (by simp[h])
  have hbb:∀l∈K++H,l∈base++K.reverse:=fun l hl=>by
   simp only[List.mem_append,List.mem_reverse]at hl ⊢;rcases hl with hl|hl
   ·exact .inr hl
   ·exact .inl (hb l hl)
  have la:=acs_len ha n1 th (base++K.reverse);have lb:=acs_len hb' n2 th (base++K.reverse);simp only[List.reverse_nil,List.append_nil]at la lb;rw[acs_branch ha.td hb'.td]at hf;rw[lay_branch ha hb' n1 n2]at hl ⊢;simp only[List.length_cons,List.length_append]at hl;have fr:=hf.right;rw[la]at fr;have fr2:=fr.right;rw[lb]at fr2;exact .branch (iha n1 ch k th (base++K.reverse) hbb (by simpa using hf.left) (by omega)) (ihb n2 ch (k+na a) th (base++K.reverse) hbb (by simpa using fr.left) (by omega)) (ih n3 ch (k+na a+na b) th base hb fr2 (by omega))
 | @loop H K a s hm ha hs iha ih=>
  intro hn ch k th base hb hf hl;have n1:(60:UInt8)∉a:=fun h=>hn (by simp[h])
  have n3:(60:UInt8)∉s:=fun h=>hn (by simp[h])
  have hbb:∀l∈K++H,l∈base++K.reverse:=fun l hl=>by
   simp only[List.mem_append,List.mem_reverse]at hl ⊢;rcases hl with hl|hl
   ·exact .inr hl
   ·exact .inl (hb l hl)
  have la:=acs_len ha n1 th (base++K.reverse);simp only[List.reverse_nil,List.append_nil]at la;rw[acs_loop ha.td]at hf;rw[lay_loop ha n1]at hl ⊢;simp only[List.length_cons,List.length_append]at hl;have fr:=hf.right;rw[la]at fr;exact .loop (by omega) (iha n1 ch k th (base++K.reverse) hbb (by simpa using hf.left) (by omega)) (ih n3 ch (k+na a) th base hb fr (by omega))
theorem stp_lay{X J a:List UInt8}(h:MD X J a):(60:UInt8)∉a→∀(ch:Nat→Option UInt8) (k:Nat) (t:List UInt8),stp (lay ch k a++t)=a++stp t:=by
 induction h with
 | nil X=>intro _ ch k t;rfl
 | acc c v hc hv _ ih=>
  intro hn ch k t;rw[lay_acc hc,List.append_assoc];have r:=ih (fun h=>hn (by simp[h])) ch (k+1) t;cases ch k with
  | none=>
   simp only[List.cons_append,List.nil_append];rw[stp_two (acc_keep hc) (xyz_keep hv),r]
  | some l=>
   simp only[List.cons_append,List.nil_append];rw[stp_lt,stp_two (acc_keep hc) (xyz_keep hv),stp_gt,r]
 | add d hd _ ih=>intro hn ch k t;rw[lay_two (.inl rfl)];simp only[List.cons_append];rw[stp_two (by decide) (dig_keep hd),ih (fun h=>hn (by simp[h]))]
 | out _ ih=>intro hn ch k t;rw[lay_one (by decide)];simp only[List.cons_append];rw[stp_keep (by decide) (by decide),ih (fun h=>hn (by simp[h]))]
 | take l hl hnn _ ih=>intro hn ch k t;rw[lay_two (.inr rfl)];simp only[List.cons_append];rw[stp_two (by decide) (lc4_keep hl),ih (fun h=>hn (by simp[h]))]
 | give l _ ih=>intro hn ch k t;rw[lay_one (by decide)];simp only[List.cons_append];rw[stp_keep (by decide) (by decide),ih (fun h=>hn (by simp[h]))]
 | mend l c v _ _ _ _ _ _=>intro hn;exact absurd List.mem_cons_self hn
 | @branch H K a b s ha hb' hs iha ihb ih=>
  intro hn ch k t;have n1:(60:UInt8)∉a:=fun h=>hn (by simp[h])
  have n2:(60:UInt8)∉b:=fun h=>hn (by simp[h])
  have n3:(60:UInt8)∉s:=fun h=>hn (by simp[h])
  rw[lay_branch ha hb' n1 n2];simp only[List.cons_append,List.append_assoc];rw[stp_two (by decide) (by decide),iha n1,stp_two (by decide) (by decide),ihb n2,stp_keep (by decide) (by decide),ih n3]
 | @loop H K a s hm ha hs iha ih=>
  intro hn ch k t;have n1:(60:UInt8)∉a:=fun h=>hn (by simp[h])
  have n3:(60:UInt8)∉s:=fun h=>hn (by simp[h])
  rw[lay_loop ha n1];simp only[List.cons_append,List.append_assoc];rw[stp_two (by decide) (by decide),iha n1,stp_keep (by decide) (by decide),ih n3]
def layA(ch:Nat→Option UInt8):Nat→List (Int×UInt8×UInt8×List UInt8)→List (Int×UInt8×UInt8×List UInt8)
 | _,[]=>[]
 | k,x::r=>(match ch k with|some l=>(x.1,x.2.1,x.2.2.1,x.2.2.2++[l])|none=>x)::layA ch (k+1) r
def layT(ch:Nat→Option UInt8):Nat→List (Int×UInt8×UInt8×List UInt8)→List (UInt8×UInt8×List UInt8)
 | _,[]=>[]
 | k,x::r=>(match ch k with|some l=>[(60,l,x.2.2.2)]|none=>[])++layT ch (k+1) r
theorem layA_append(ch:Nat→Option UInt8)(A:List (Int×UInt8×UInt8×List UInt8)):∀k B,layA ch k (A++B)=layA ch k A++layA ch (k+A.length) B:=by
 induction A with
 | nil=>intro k B;rfl
 | cons x r ih=>intro k B;rw[List.cons_append,layA,layA,ih,List.cons_append,List.length_cons,show k+1+r.length=k+(r.length+1) by omega]
theorem layT_append(ch:Nat→Option UInt8)(A:List (Int×UInt8×UInt8×List UInt8)):∀k B,layT ch k (A++B)=layT ch k A++layT ch (k+A.length) B:=by
 induction A with
 | nil=>intro k B;rfl
 | cons x r ih=>intro k B;rw[List.cons_append,layT,layT,ih,List.append_assoc,List.length_cons,show k+1+r.length=k+(r.length+1) by omega]
theorem acs_lay{X J a:List UInt8}(h:MD X J a):(60:UInt8)∉a→∀(ch:Nat→Option UInt8) (k:Nat) (th:Int) (base t:List UInt8),acs th (base++J.reverse) (lay ch k a++t)=layA ch k (acs th (base++J.reverse) a)++acs th base t:=by
 induction h with
 | nil X=>intro _ ch k th base t;simp[lay,acs,layA]
 | acc c v hc hv _ ih=>
  intro hn ch k th base t;have r:=ih (fun h=>hn (by simp[h])) ch (k+1) th base t;rw[lay_acc hc,List.append_assoc,acs_acc hc,layA];cases ch k with
  | none=>
   simp only[List.cons_append,List.nil_append];rw[acs_acc hc,r]
  | some l=>
   simp only[List.cons_append,List.nil_append];rw[acs_take (.inr rfl),acs_acc hc,acs_give (.inr rfl),List.dropLast_concat,r]
 | add d hd _ ih=>intro hn ch k th base t;rw[lay_two (.inl rfl)];simp only[List.cons_append];rw[acs_add,acs_add,ih (fun h=>hn (by simp[h]))]
 | out _ ih=>intro hn ch k th base t;rw[lay_one (by decide)];simp only[List.cons_append];rw[acs_skip (by decide) (by decide) (by decide) (by decide),acs_skip (by decide) (by decide) (by decide) (by decide),ih (fun h=>hn (by simp[h]))]
 | take l hl hnn _ ih=>
  intro hn ch k th base t;have r:=ih (fun h=>hn (by simp[h])) ch k th base t;rw[List.reverse_cons,←List.append_assoc]at r;rw[lay_two (.inr rfl)];simp only[List.cons_append];rw[acs_take (.inl rfl),acs_take (.inl rfl),r]
 | give l _ ih=>
  intro hn ch k th base t;rw[lay_one (by decide)];simp only[List.cons_append];rw[acs_give (.inl rfl),acs_give (.inl rfl),List.reverse_cons,←List.append_assoc,List.dropLast_concat];exact ih (fun h=>hn (by simp[h])) ch k th base t
 | mend l c v _ _ _ _ _ _=>intro hn;exact absurd List.mem_cons_self hn
 | @branch H K a b s ha hb' hs iha ihb ih=>
  intro hn ch k th base t;have n1:(60:UInt8)∉a:=fun h=>hn (by simp[h])
  have n2:(60:UInt8)∉b:=fun h=>hn (by simp[h])
  have n3:(60:UInt8)∉s:=fun h=>hn (by simp[h])
  have ea:=fun k t=>iha n1 ch k th (base++K.reverse) t
  have eb:=fun k t=>ihb n2 ch k th (base++K.reverse) t
  have la:=acs_len ha n1 th (base++K.reverse);have lb:=acs_len hb' n2 th (base++K.reverse);simp only[List.reverse_nil,List.append_nil]at la lb ea eb;rw[lay_branch ha hb' n1 n2,acs_branch ha.td hb'.td,layA_append,layA_append,la,lb];simp only[List.cons_append,List.append_assoc];rw[acs_test (by simp),acs_test (by simp),ea,acs_test (by simp),acs_test (by simp),eb,acs_test (by simp),ih n3]
 | @loop H K a s hm ha hs iha ih=>
  intro hn ch k th base t;have n1:(60:UInt8)∉a:=fun h=>hn (by simp[h])
  have n3:(60:UInt8)∉s:=fun h=>hn (by simp[h])
  have ea:=fun k t=>iha n1 ch k th (base++K.reverse) t
  have la:=acs_len ha n1 th (base++K.reverse);simp only[List.reverse_nil,List.append_nil]at la ea;rw[lay_loop ha n1,acs_loop ha.td,layA_append,la];simp only[List.cons_append,List.append_assoc];rw[acs_test (by simp),acs_test (by simp),ea,acs_test (by simp),ih n3]
theorem tks_lay{X J a:List UInt8}(h:MD X J a):(60:UInt8)∉a→∀(ch:Nat→Option UInt8) (k:Nat) (th:Int) (base t:List UInt8) (x:UInt8×UInt8×List UInt8),x∈tks (base++J.reverse) (lay ch k a++t)↔x∈tks (base++J.reverse) a∨x∈layT ch k (acs th (base++J.reverse) a)∨x∈tks base t:=by
 induction h with
 | nil X=>intro _ ch k th base t x;simp[lay,acs,layT,tks]
 | acc c v hc hv _ ih=>
  intro hn ch k th base t x;have r:=ih (fun h=>hn (by simp[h])) ch (k+1) th base t x;have h2:c=103∨c=112∨c=105:=by rcases hc with h|h<;>simp[h]
  rw[lay_acc hc,List.append_assoc,acs_acc hc,layT,tks_two h2];cases ch k with
  | none=>
   simp only[List.cons_append,List.nil_append];rw[tks_two h2,r]
  | some l=>
   simp only[List.cons_append,List.nil_append];rw[tks_take (.inr rfl),tks_two h2,tks_give (.inr rfl),List.dropLast_concat,List.mem_cons,List.mem_cons,r];constructor
   ·rintro(h|h|h|h)
    ·exact .inr (.inl (.inl h))
    ·exact .inl h
    ·exact .inr (.inl (.inr h))
    ·exact .inr (.inr h)
   ·rintro(h|(h|h)|h)
    ·exact .inr (.inl h)
    ·exact .inl h
    ·exact .inr (.inr (.inl h))
    ·exact .inr (.inr (.inr h))
 | add d hd _ ih=>intro hn ch k th base t x;rw[lay_two (.inl rfl)];simp only[List.cons_append];rw[tks_two (by simp),tks_two (by simp),acs_add,ih (fun h=>hn (by simp[h])) ch k th]
 | out _ ih=>intro hn ch k th base t x;rw[lay_one (by decide)];simp only[List.cons_append];rw[tks_test (by simp),tks_test (by simp),acs_skip (by decide) (by decide) (by decide) (by decide),ih (fun h=>hn (by simp[h])) ch k th]
 | take l hl hnn _ ih=>
  intro hn ch k th base t x;have r:=ih (fun h=>hn (by simp[h])) ch k th base t x;rw[List.reverse_cons,←List.append_assoc]at r;rw[lay_two (.inr rfl)];simp only[List.cons_append];rw[tks_take (.inl rfl),tks_take (.inl rfl),acs_take (.inl rfl),List.mem_cons,List.mem_cons,r,or_assoc]
 | give l _ ih=>
  intro hn ch k th base t x;rw[lay_one (by decide)];simp only[List.cons_append];rw[tks_give (.inl rfl),tks_give (.inl rfl),acs_give (.inl rfl),List.reverse_cons,←List.append_assoc,List.dropLast_concat];exact ih (fun h=>hn (by simp[h])) ch k th base t x
 | mend l c v _ _ _ _ _ _=>intro hn;exact absurd List.mem_cons_self hn
 | @branch H K a b s ha hb' hs iha ihb ih=>
  intro hn ch k th base t x;have n1:(60:UInt8)∉a:=fun h=>hn (by simp[h])
  have n2:(60:UInt8)∉b:=fun h=>hn (by simp[h])
  have n3:(60:UInt8)∉s:=fun h=>hn (by simp[h])
  have ea:=fun k t=>iha n1 ch k th (base++K.reverse) t x
  have eb:=fun k t=>ihb n2 ch k th (base++K.reverse) t x
  have la:=acs_len ha n1 th (base++K.reverse);have lb:=acs_len hb' n2 th (base++K.reverse);simp only[List.reverse_nil,List.append_nil]at la lb ea eb;rw[lay_branch ha hb' n1 n2,acs_branch ha.td hb'.td,layT_append,layT_append,la,lb];simp only[List.cons_append,List.append_assoc];rw[tks_test (c:=63) (by simp),tks_test (c:=123) (by simp),ea,tks_test (c:=125) (by simp),tks_test (c:=123) (by simp),eb,tks_test (c:=125) (by simp),ih n3 ch _ th];rw[tks_test (c:=63) (by simp),tks_test (c:=123) (by simp),tks_body ha.td,tks_test (c:=125) (by simp),tks_test (c:=123) (by simp),tks_body hb'.td,tks_test (c:=125) (by simp)];simp only[List.mem_append];constructor
  ·rintro(h|h|h|h|h|h|h)
   ·exact .inl (.inl h)
   ·exact .inr (.inl (.inl h))
   ·exact .inl (.inr (.inl h))
   ·exact .inr (.inl (.inr (.inl h)))
   ·exact .inl (.inr (.inr h))
   ·exact .inr (.inl (.inr (.inr h)))
   ·exact .inr (.inr h)
  ·rintro((h|h|h)|(h|h|h)|h)
   ·exact .inl h
   ·exact .inr (.inr (.inl h))
   ·exact .inr (.inr (.inr (.inr (.inl h))))
   ·exact .inr (.inl h)
   ·exact .inr (.inr (.inr (.inl h)))
   ·exact .inr (.inr (.inr (.inr (.inr (.inl h)))))
   ·exact .inr (.inr (.inr (.inr (.inr (.inr h)))))
 | @loop H K a s hm ha hs iha ih=>
  intro hn ch k th base t x;have n1:(60:UInt8)∉a:=fun h=>hn (by simp[h])
  have n3:(60:UInt8)∉s:=fun h=>hn (by simp[h])
  have ea:=fun k t=>iha n1 ch k th (base++K.reverse) t x
  have la:=acs_len ha n1 th (base++K.reverse);simp only[List.reverse_nil,List.append_nil]at la ea;rw[lay_loop ha n1,acs_loop ha.td,layT_append,la];simp only[List.cons_append,List.append_assoc];rw[tks_test (c:=33) (by simp),tks_test (c:=123) (by simp),ea,tks_test (c:=125) (by simp),ih n3 ch _ th];rw[tks_test (c:=33) (by simp),tks_test (c:=123) (by simp),tks_body ha.td,tks_test (c:=125) (by simp)];simp only[List.mem_append];constructor
  ·rintro(h|h|h|h|h)
   ·exact .inl (.inl h)
   ·exact .inr (.inl (.inl h))
   ·exact .inl (.inr h)
   ·exact .inr (.inl (.inr h))
   ·exact .inr (.inr h)
  ·rintro((h|h)|(h|h)|h)
   ·exact .inl h
   ·exact .inr (.inr (.inl h))
   ·exact .inr (.inl h)
   ·exact .inr (.inr (.inr (.inl h)))
   ·exact .inr (.inr (.inr (.inr h)))
def layL(ch:Nat→Option UInt8):Nat→List (List UInt8)→List (List UInt8)
 | _,[]=>[]
 | k,a::r=>lay ch k a::layL ch (k+na a) r
theorem layL_len(ch:Nat→Option UInt8)(L:List (List UInt8)):∀k,(layL ch k L).length=L.length:=by
 induction L with
 | nil=>intro k;rfl
 | cons a r ih=>intro k;simp[layL,ih]
theorem lay_no{X J a:List UInt8}(h:MD X J a)(hn:(60:UInt8)∉a)(ch:Nat→Option UInt8)(hc:∀k l,ch k=some l→l≠124):∀k,(124:UInt8)∉lay ch k a:=by
 induction h with
 | nil X=>intro k;simp[lay]
 | acc c v hcc hv _ ih=>
  intro k;have r:=ih (fun h=>hn (by simp[h])) (k+1);rw[lay_acc hcc];have c1:(124:UInt8)≠c:=by rcases hcc with rfl|rfl<;>decide
  have v1:(124:UInt8)≠v:=by rintro rfl;exact absurd hv (by decide)
  cases hk:ch k with
  | none=>simp[r,c1,v1]
  | some l=>
   have l1:(124:UInt8)≠l:=fun e=>hc k l hk e.symm
   simp[r,c1,v1,l1]
 | add d hd _ ih=>
  intro k;have d1:(124:UInt8)≠d:=by rintro rfl;exact absurd hd (by decide)
  rw[lay_two (.inl rfl)];simp[ih (fun h=>hn (by simp[h])) k,d1]
 | out _ ih=>intro k;rw[lay_one (by decide)];simp[ih (fun h=>hn (by simp[h])) k]
 | take l hl hnn _ ih=>
  intro k;have l1:(124:UInt8)≠l:=by rintro rfl;exact absurd hl (by decide)
  rw[lay_two (.inr rfl)];simp[ih (fun h=>hn (by simp[h])) k,l1]
 | give l _ ih=>intro k;rw[lay_one (by decide)];simp[ih (fun h=>hn (by simp[h])) k]
 | mend l c v _ _ _ _ _ _=>exact absurd List.mem_cons_self hn
 | @branch H K a b s ha hb' hs iha ihb ih=>
  intro k;have n1:(60:UInt8)∉a:=fun h=>hn (by simp[h])
  have n2:(60:UInt8)∉b:=fun h=>hn (by simp[h])
  have n3:(60:UInt8)∉s:=fun h=>hn (by simp[h])
  rw[lay_branch ha hb' n1 n2];simp[iha n1 k,ihb n2 (k+na a),ih n3 (k+na a+na b)]
 | @loop H K a s hm ha hs iha ih=>
  intro k;have n1:(60:UInt8)∉a:=fun h=>hn (by simp[h])
  have n3:(60:UInt8)∉s:=fun h=>hn (by simp[h])
  rw[lay_loop ha n1];simp[iha n1 k,ih n3 (k+na a)]
theorem lay_bar{a v:List UInt8}(h:MD [] [] a)(hn:(60:UInt8)∉a)(ch:Nat→Option UInt8)(k:Nat):lay ch k (a++124::v)=lay ch k a++124::lay ch (k+na a) v:=by
 rw[(lay_cat h hn ch k _).1,lay_one (by decide)]
structure LayAll(ch:Nat→Option UInt8)(k:Nat)(th:Int)(p:List UInt8):Prop where
 spl:splitBar (lay ch k p)=layL ch k (splitBar p)
 str:stp (lay ch k p)=p
 acs:Proofs.YtdgkpkdinfklaabGreat.acs th [] (lay ch k p)=layA ch k (Proofs.YtdgkpkdinfklaabGreat.acs th [] p)
 tks:∀x,x∈Proofs.YtdgkpkdinfklaabGreat.tks [] (lay ch k p)↔x∈Proofs.YtdgkpkdinfklaabGreat.tks [] p∨x∈layT ch k (Proofs.YtdgkpkdinfklaabGreat.acs th [] p)
theorem lay_all(ch:Nat→Option UInt8)(hc:∀k l,ch k=some l→l≠124)(p:List UInt8)(h60:(60:UInt8)∉p)(h:∀a∈splitBar p,MD [] [] a):∀k th,LayAll ch k th p:=by
 have key:∀n p,p.length≤n→(60:UInt8)∉p→(∀a∈splitBar p,MD [] [] a)→∀k th,LayAll ch k th p:=by
  intro n
  induction n with
  | zero=>
   intro p hp _ _ k th;have:p=[]:=List.eq_nil_of_length_eq_zero (by omega);subst this;exact⟨rfl,rfl,rfl,fun x=>by simp[lay,Proofs.YtdgkpkdinfklaabGreat.tks,Proofs.YtdgkpkdinfklaabGreat.acs,layT]⟩
  | succ n ih=>
   intro p hp h60 h k th
   by_cases hb:(124:UInt8)∈p
   ·obtain⟨u,v,rfl,hu⟩:=List.eq_append_cons_of_mem hb;rw[split_bar hu]at h;have hmu:=h u (by simp);have nu:(60:UInt8)∉u:=fun h=>h60 (by simp[h])
    have nv:(60:UInt8)∉v:=fun h=>h60 (by simp[h])
    have r:=fun k th=>ih v (by simp at hp;omega) nv (fun a ha=>h a (by simp[ha])) k th
    have lu:=acs_len hmu nu th [];have eu:=fun t=>acs_lay hmu nu ch k th [] t
    have tu:=fun t x=>tks_lay hmu nu ch k th [] t x
    simp only[List.reverse_nil,List.append_nil]at lu eu tu;rw[←split_bar hu]at h;refine⟨?_,?_,?_,fun x=>?_⟩
    ·rw[lay_bar hmu nu,split_bar (lay_no hmu nu ch hc k),(r (k+na u) (th+1)).spl,split_bar hu,layL]
    ·rw[lay_bar hmu nu,stp_lay hmu nu,stp_keep (by decide) (by decide),(r (k+na u) (th+1)).str]
    ·rw[lay_bar hmu nu,eu,acs_bar,(r (k+na u) (th+1)).acs,acs_body hmu.td,acs_bar,layA_append,lu]
    ·rw[lay_bar hmu nu,tu,tks_skip (by decide) (by decide) (by decide),(r (k+na u) (th+1)).tks,tks_body hmu.td,tks_skip (by decide) (by decide) (by decide),acs_body hmu.td,acs_bar,layT_append,lu,List.mem_append,List.mem_append];constructor
     ·rintro(h|h|h|h)
      ·exact .inl (.inl h)
      ·exact .inr (.inl h)
      ·exact .inl (.inr h)
      ·exact .inr (.inr h)
     ·rintro((h|h)|(h|h))
      ·exact .inl h
      ·exact .inr (.inr (.inl h))
      ·exact .inr (.inl h)
      ·exact .inr (.inr (.inr h))
   ·rw[split_none hb]at h;have hmp:=h p (by simp);have ep:=acs_lay hmp h60 ch k th [] [];have tp:=fun x=>tks_lay hmp h60 ch k th [] [] x
    have sp:=stp_lay hmp h60 ch k [];simp only[List.reverse_nil,List.append_nil]at ep tp sp;refine⟨?_,?_,?_,fun x=>?_⟩
    ·rw[split_none hb,split_none (lay_no hmp h60 ch hc k)];rfl
    ·rw[sp];simp[stp]
    ·rw[ep];simp[Proofs.YtdgkpkdinfklaabGreat.acs]
    ·rw[tp];simp[Proofs.YtdgkpkdinfklaabGreat.tks]
 exact key p.length p (Nat.le_refl _) h60 h
theorem split_sub(p:List UInt8):∀a∈splitBar p,∀x∈a,x∈p:=by
 induction p with
 | nil=>intro a ha x hx;have:splitBar []=[[]]:=rfl;rw[this]at ha;simp at ha;subst ha;cases hx
 | cons c s ih=>
  intro a ha x hx;rw[splitBar]at ha
  split at ha
  ·rcases List.mem_cons.1 ha with rfl|ha
   ·cases hx
   ·exact List.mem_cons_of_mem _ (ih a ha x hx)
  ·cases hs:splitBar s with
   | nil=>
    rw[hs]at ha;simp at ha;subst ha;simp at hx;rw[hx];exact List.mem_cons_self
   | cons y r=>
    rw[hs]at ha ih;simp only at ha;rcases List.mem_cons.1 ha with rfl|ha
    ·rcases List.mem_cons.1 hx with rfl|hx
     ·exact List.mem_cons_self
     ·exact List.mem_cons_of_mem _ (ih y List.mem_cons_self x hx)
    ·exact List.mem_cons_of_mem _ (ih a (List.mem_cons_of_mem _ ha) x hx)
def TKp(p:List UInt8)(x:UInt8×UInt8×List UInt8):Prop:=x∈tks [] p
theorem tks_marks{p:List UInt8}{mks:List MK}(ha:Acc p mks):∀x∈tks [] p,∃m∈mks,m.kind=3∧TakeOf m x:=by
 have key:∀n k,p.length-(tw p k).i≤n→∀x∈tks (tw p k).now (p.drop (tw p k).i),∃m∈mks,m.kind=3∧TakeOf m x:=by
  intro n
  induction n with
  | zero=>
   intro k hk x hx;rw[List.drop_eq_nil_of_le (by omega)]at hx;simp[tks]at hx
  | succ n ih=>
   intro k hk x hx
   by_cases hlt:(tw p k).i<p.length
   ·have hc:=List.getElem?_eq_getElem hlt;obtain⟨hroom,l,hl⟩:=acc_room ha hlt hc;have hst:=tw_next hlt hc;have hpos:=sizeU_pos p[(tw p k).i];have hi:=ih (k+1) (by rw[hst];simp only;omega);rw[hst]at hi;simp only at hi;generalize hcc:p[(tw p k).i]=c at *;have hd:p.drop (tw p k).i=c::p.drop ((tw p k).i+1):=by rw[List.drop_eq_getElem_cons hlt,hcc]
    rw[hd]at hx
    by_cases h2:sizeU c=2
    ·have hlt2:(tw p k).i+1<p.length:=by omega
     have hd2:p.drop ((tw p k).i+1)=p[(tw p k).i+1]::p.drop ((tw p k).i+2):=by rw[List.drop_eq_getElem_cons hlt2]
     have hg:p[(tw p k).i+1]?=some p[(tw p k).i+1]:=List.getElem?_eq_getElem hlt2;rw[hd2]at hx;rw[h2]at hi;have hcase:(c=103∨c=112∨c=105)∨(c=91∨c=60):=by
      by_cases h3:inU [103,112,105,91,60] c=true
      ·simp[inU]at h3;rcases h3 with rfl|rfl|rfl|rfl|rfl<;>simp
      ·rw[sizeU,if_neg h3]at h2;exact absurd h2 (by decide)
     rcases hcase with h3|h3
     ·have nt:¬(c=91∨c=60):=by rcases h3 with rfl|rfl|rfl<;>decide
      have ng:¬(c=93∨c=62):=by rcases h3 with rfl|rfl|rfl<;>decide
      have hh:heldU (tw p k).now p (tw p k).i=(tw p k).now:=by
       rw[heldU,hc];simp only;rw[if_neg nt,if_neg ng]
      rw[hh]at hi;rw[tks_two h3]at hx;exact hi x hx
     ·have hh:heldU (tw p k).now p (tw p k).i=(tw p k).now++[p[(tw p k).i+1]]:=by
       rw[heldU,hc];simp only;rw[if_pos h3,hg];rfl
      rw[hh]at hi;rw[tks_take h3,List.mem_cons]at hx;rcases hx with rfl|hx
      ·refine⟨mkN 3 (tw p k).i (tw p k).th ((p[(tw p k).i+1].toNat:Int)-65) (tw p k).now,?_,rfl,⟨rfl,rfl,rfl,rfl,rfl,rfl⟩⟩;rw[hl,hst];simp only;rw[if_pos h3,hg];simp
      ·exact hi x hx
    ·have h1:sizeU c=1:=by
      unfold sizeU at h2 ⊢
      split<;>simp_all
     have nt:¬(c=91∨c=60):=by rintro(rfl|rfl)<;>exact absurd h1 (by decide)
     rw[h1]at hi
     by_cases hg:c=93∨c=62
     ·have hh:heldU (tw p k).now p (tw p k).i=(tw p k).now.dropLast:=by
       rw[heldU,hc];simp only;rw[if_neg nt,if_pos hg]
      rw[hh]at hi;rw[tks_give hg]at hx;exact hi x hx
     ·have hh:heldU (tw p k).now p (tw p k).i=(tw p k).now:=by
       rw[heldU,hc];simp only;rw[if_neg nt,if_neg hg]
      rw[hh]at hi;rw[tks_skip h1 (fun e=>hg (.inl e)) (fun e=>hg (.inr e))]at hx;exact hi x hx
   ·rw[List.drop_eq_nil_of_le (by omega)]at hx;simp[tks]at hx
 exact key p.length 0 (by simp[tw])
theorem lkM_take{m:MK}{x:UInt8×UInt8×List UInt8}(h:TakeOf m x){a:UInt8}(ha:inU [65,66,67,68,69] a=true):lkM m a=inU x.2.2 a:=by
 obtain⟨_,h0,h1,h2,h3,h4⟩:=h;rw[inU_mem]at ha;simp only[List.mem_cons,List.not_mem_nil,or_false]at ha;rcases ha with rfl|rfl|rfl|rfl|rfl<;>simp[lkM,h0,h1,h2,h3,h4]
theorem edge_iff{p:List UInt8}{mks:List MK}(hacc:Acc p mks){a b:UInt8}(ha:inU [65,66,67,68,69] a=true):(∃m∈mks,m.kind=3∧m.num=(b.toNat:Int)-65∧lkM m a=true)↔edgeT (TKp p) a b:=by
 constructor
 ·rintro⟨m,hm,hk,hn,hl⟩;rcases marks_in hacc m hm with⟨_,x,hx,ht⟩|⟨hk',_⟩
  ·rw[lkM_take ht ha,inU_mem]at hl;obtain⟨c,v,H⟩:=x;have hv:v=b:=by
    have:=ht.1;simp only at this;rw[hn]at this;have e:b.toNat=v.toNat:=by omega
    exact(UInt8.toNat_inj.1 e).symm
   subst hv;exact⟨c,H,hx,hl⟩
  ·exact absurd hk hk'
 ·rintro⟨c,H,hx,hl⟩;obtain⟨m,hm,hk,ht⟩:=tks_marks hacc _ hx;refine⟨m,hm,hk,ht.1,?_⟩;rw[lkM_take ht ha,inU_mem];exact hl
inductive WayE(E:List (UInt8×UInt8)):UInt8→UInt8→Prop
 | one {a b:UInt8}:(a,b)∈E→WayE E a b
 | more {a b c:UInt8}:WayE E a b→(b,c)∈E→WayE E a c
def pas(a:UInt8):List (UInt8×UInt8)→List UInt8→List UInt8
 | [],to=>to
 | e::E,to=>pas a E (if (e.1=a∨e.1∈to)∧e.2∉to then to++[e.2]else to)
theorem pas_mono(a:UInt8)(E:List (UInt8×UInt8)):∀to,∃r,pas a E to=to++r:=by
 induction E with
 | nil=>intro to;exact⟨[],by simp[pas]⟩
 | cons e E ih=>
  intro to;rw[pas];obtain⟨r,hr⟩:=ih (if (e.1=a∨e.1∈to)∧e.2∉to then to++[e.2]else to);rw[hr]
  split
  ·exact⟨[e.2]++r,by simp⟩
  ·exact⟨r,rfl⟩
theorem pas_sound(E0:List (UInt8×UInt8))(a:UInt8)(E:List (UInt8×UInt8))(hE:∀e∈E,e∈E0):∀to,(∀x∈to,WayE E0 a x)→∀x∈pas a E to,WayE E0 a x:=by
 induction E with
 | nil=>intro to h x hx;exact h x hx
 | cons e E ih=>
  intro to h;rw[pas];refine ih (fun e he=>hE e (List.mem_cons_of_mem _ he)) _ (fun x hx=>?_)
  split at hx
  ·rename_i hc;rw[List.mem_append,List.mem_singleton]at hx;rcases hx with hx|rfl
   ·exact h x hx
   ·have he:=hE e List.mem_cons_self;rcases hc.1 with h1|h1
    ·exact .one (by rw[←h1];exact he)
    ·exact .more (h _ h1) he
  ·exact h x hx
theorem pas_closed(a:UInt8)(E:List (UInt8×UInt8)):∀to,pas a E to=to→∀e∈E,(e.1=a∨e.1∈to)→e.2∈to:=by
 induction E with
 | nil=>intro to _ e he;cases he
 | cons e E ih=>
  intro to h;rw[pas]at h
  by_cases hc:(e.1=a∨e.1∈to)∧e.2∉to
  ·rw[if_pos hc]at h;obtain⟨r,hr⟩:=pas_mono a E (to++[e.2]);rw[hr]at h;have:=congrArg List.length h;simp at this
  ·rw[if_neg hc]at h;intro f hf h1;rcases List.mem_cons.1 hf with rfl|hf
   ·by_cases h2:f.2∈to
    ·exact h2
    ·exact absurd ⟨h1,h2⟩ hc
   ·exact ih to h f hf h1
theorem way_gathered(E:List (UInt8×UInt8))(a:UInt8)(to:List UInt8)(hs:∀x∈to,WayE E a x)(hf:pas a E to=to)(b:UInt8):b∈to↔WayE E a b:=by
 refine⟨hs b,fun h=>?_⟩;have cl:=pas_closed a E to hf
 induction h with
 | one he=>exact cl _ he (.inl rfl)
 | more _ he ih=>exact cl _ he (.inr ih)
theorem wayE_iff{TK:UInt8×UInt8×List UInt8→Prop}{E:List (UInt8×UInt8)}(h:∀a b,(a,b)∈E↔edgeT TK a b)(a b:UInt8):WayE E a b↔Way TK a b:=by
 constructor
 ·intro hw
  induction hw with
  | one he=>exact .one ((h _ _).1 he)
  | more _ he ih=>exact .more ih ((h _ _).1 he)
 ·intro hw
  induction hw with
  | one he=>exact .one ((h _ _).2 he)
  | more _ he ih=>exact .more ih ((h _ _).2 he)
def NoOpenA(L:List (Int×UInt8×UInt8×List UInt8)):Prop:=∀x∈L,∀y∈L,x.1≠y.1→x.2.2.1=y.2.2.1→(x.2.1=112∨y.2.1=112)→∃l,inU [65,66,67,68,69] l=true∧l∈x.2.2.2∧l∈y.2.2.2
theorem lkM_mark{m:MK}{x:Int×UInt8×UInt8×List UInt8}(h:MarkOf m x)(l:UInt8):lkM m l=true↔inU [65,66,67,68,69] l=true∧l∈x.2.2.2:=by
 obtain⟨_,_,_,h0,h1,h2,h3,h4⟩:=h;constructor
 ·intro hl;simp only[lkM,Bool.or_eq_true,Bool.and_eq_true,beq_iff_eq]at hl;rcases hl with(((hl|hl)|hl)|hl)|hl
  ·rw[h0]at hl;obtain⟨rfl,e⟩:=hl;exact⟨by decide,inU_mem.1 e⟩
  ·rw[h1]at hl;obtain⟨rfl,e⟩:=hl;exact⟨by decide,inU_mem.1 e⟩
  ·rw[h2]at hl;obtain⟨rfl,e⟩:=hl;exact⟨by decide,inU_mem.1 e⟩
  ·rw[h3]at hl;obtain⟨rfl,e⟩:=hl;exact⟨by decide,inU_mem.1 e⟩
  ·rw[h4]at hl;obtain⟨rfl,e⟩:=hl;exact⟨by decide,inU_mem.1 e⟩
 ·rintro⟨ha,hm⟩;have hm':=inU_mem.2 hm;rw[inU_mem]at ha;simp only[List.mem_cons,List.not_mem_nil,or_false]at ha;rcases ha with rfl|rfl|rfl|rfl|rfl<;>simp[lkM,h0,h1,h2,h3,h4,hm']
theorem noOpen_iff{p:List UInt8}{mks:List MK}(ha:Acc p mks):NoOpen mks↔NoOpenA (acs 1 [] p):=by
 constructor
 ·intro h x hx y hy ht hv hp;obtain⟨m,m1,m2⟩:=acs_marks ha x hx;obtain⟨m',n1,n2⟩:=acs_marks ha y hy;have q2:=m2;have r2:=n2;obtain⟨q0,q1,q3,_⟩:=q2;obtain⟨r0,r1,r3,_⟩:=r2
  obtain⟨l,l1,l2⟩:=h m m1 m' n1 (by rw[q1];split<;>decide) (by rw[r1];split<;>decide) (by rw[q0,r0];exact ht) (by rw[q3,r3,hv]) (by
   rw[q1,r1];rcases hp with e|e
   ·left;rw[if_pos e]
   ·right;rw[if_pos e])
  exact⟨l,((lkM_mark m2 l).1 l1).1,((lkM_mark m2 l).1 l1).2,((lkM_mark n2 l).1 l2).2⟩
 ·intro h m hm m' hm' k1 k2 ht hn hp;rcases marks_in ha m hm with⟨e,_⟩|⟨_,x,hx,m2⟩
  ·exact absurd e k1
  rcases marks_in ha m' hm' with⟨e,_⟩|⟨_,y,hy,n2⟩
  ·exact absurd e k2
  have q2:=m2;have r2:=n2;obtain⟨q0,q1,q3,_⟩:=q2;obtain⟨r0,r1,r3,_⟩:=r2
  obtain⟨l,l0,l1,l2⟩:=h x hx y hy (by rw[←q0,←r0];exact ht) (by
   have e:x.2.2.1.toNat=y.2.2.1.toNat:=by rw[q3,r3]at hn;omega
   exact UInt8.toNat_inj.1 e) (by
   rw[q1,r1]at hp;rcases hp with e|e
   ·left;split at e
    ·assumption
    ·exact absurd e (by decide)
   ·right;split at e
    ·assumption
    ·exact absurd e (by decide))
  exact⟨l,(lkM_mark m2 l).2 ⟨l0,l1⟩,(lkM_mark n2 l).2 ⟨l0,l2⟩⟩
def GoodC(A:List (Int×UInt8×UInt8×List UInt8))(T:List (UInt8×UInt8×List UInt8))(ch:Nat→Option UInt8):Prop:=
 Fits ch 0 A∧NoOpenA (layA ch 0 A)∧FairT (fun x=>x∈T∨x∈layT ch 0 A)
def cst(ch:Nat→Option UInt8):Nat→Nat→Nat
 | _,0=>0
 | k,n+1=>(if (ch k).isSome then 1 else 0)+cst ch (k+1) n
def ltC(s:List UInt8):Nat:=(s.filter (·==60)).length
theorem ltC_app(a b:List UInt8):ltC (a++b)=ltC a+ltC b:=by simp[ltC]
theorem ltC_cons(c:UInt8)(s:List UInt8):ltC (c::s)=(if c=60 then 1 else 0)+ltC s:=by
 unfold ltC
 by_cases h:c=60
 ·subst h;simp;omega
 ·simp[h]
end Go.Proofs.YtdgkpkdinfklaabGreat
