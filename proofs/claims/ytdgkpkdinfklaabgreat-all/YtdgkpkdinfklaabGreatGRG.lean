import Derived.Test.YtdgkpkdinfklaabGreatGMD
namespace Go.Proofs.YtdgkpkdinfklaabGreat
def tks:List UInt8→List UInt8→List (UInt8×UInt8×List UInt8)
 | _,[]=>[]
 | _,[_]=>[]
 | now,c::v::s=>
  if c=91∨c=60 then(c,v,now)::tks (now++[v]) s
  else if c=103∨c=112∨c=105 then tks now s
  else if c=93∨c=62 then tks now.dropLast (v::s)
  else tks now (v::s)
theorem tks_two{now:List UInt8}{c v:UInt8}{s:List UInt8}(h:c=103∨c=112∨c=105):tks now (c::v::s)=tks now s:=by
 rw[tks,if_neg (by rcases h with rfl|rfl|rfl<;>decide),if_pos h]
theorem tks_take{now:List UInt8}{c v:UInt8}{s:List UInt8}(h:c=91∨c=60):tks now (c::v::s)=(c,v,now)::tks (now++[v]) s:=by rw[tks,if_pos h]
theorem tks_give{now:List UInt8}{c:UInt8}{s:List UInt8}(h:c=93∨c=62):tks now (c::s)=tks now.dropLast s:=by
 cases s with
 | nil=>rfl
 | cons v s=>rw[tks,if_neg (by rcases h with rfl|rfl<;>decide),if_neg (by rcases h with rfl|rfl<;>decide),if_pos h]
theorem tks_skip{now:List UInt8}{c:UInt8}{s:List UInt8}(h:sizeU c=1)(h1:c≠93)(h2:c≠62):tks now (c::s)=tks now s:=by
 cases s with
 | nil=>rfl
 | cons v s=>
  have n1:¬(c=91∨c=60):=by rintro(rfl|rfl)<;>exact absurd h (by decide)
  have n2:¬(c=103∨c=112∨c=105):=by rintro(rfl|rfl|rfl)<;>exact absurd h (by decide)
  rw[tks,if_neg n1,if_neg n2,if_neg (by simp[h1,h2])]
theorem tks_test{l:List UInt8}{c:UInt8}{t:List UInt8}(hc:c=63∨c=33∨c=123∨c=125∨c=111):tks l (c::t)=tks l t:=
 tks_skip (by rcases hc with rfl|rfl|rfl|rfl|rfl<;>decide) (by rcases hc with rfl|rfl|rfl|rfl|rfl<;>decide) (by rcases hc with rfl|rfl|rfl|rfl|rfl<;>decide)
theorem tks_cat{X J a:List UInt8}(h:TD X J a):∀(base s:List UInt8),tks (base++J.reverse) (a++s)=tks (base++J.reverse) a++tks base s:=by
 induction h with
 | nil X=>intro base s;simp[tks]
 | acc c v hc hv _ ih=>intro base s;rw[List.cons_append,List.cons_append,tks_two (by rcases hc with h|h<;>simp[h]),tks_two (by rcases hc with h|h<;>simp[h]),ih]
 | add d hd _ ih=>intro base s;rw[List.cons_append,List.cons_append,tks_two (by simp),tks_two (by simp),ih]
 | out _ ih=>intro base s;rw[List.cons_append,tks_test (by simp),tks_test (by simp),ih]
 | take c l hc hl hn _ ih=>
  intro base s;have:=ih base s;rw[List.reverse_cons,←List.append_assoc]at this;rw[List.cons_append,List.cons_append,tks_take hc,tks_take hc,this,List.cons_append]
 | give c l hc _ ih=>
  intro base s;rw[List.cons_append,tks_give hc,tks_give hc,List.reverse_cons,←List.append_assoc,List.dropLast_concat];exact ih base s
 | @branch H K a b s' ha hb hs iha ihb ihs=>
  intro base s;have ea:=fun t=>iha (base++K.reverse) t
  have eb:=fun t=>ihb (base++K.reverse) t
  simp only[List.reverse_nil,List.append_nil]at ea eb;simp only[List.cons_append,List.append_assoc];rw[tks_test (c:=63) (by simp),tks_test (c:=123) (by simp),ea,tks_test (c:=125) (by simp),tks_test (c:=123) (by simp),eb,tks_test (c:=125) (by simp),ihs,tks_test (c:=63) (by simp),tks_test (c:=123) (by simp),ea,tks_test (c:=125) (by simp),tks_test (c:=123) (by simp),eb,tks_test (c:=125) (by simp)];simp[List.append_assoc]
 | @loop H K a s' hm ha hs iha ihs=>
  intro base s;have ea:=fun t=>iha (base++K.reverse) t
  simp only[List.reverse_nil,List.append_nil]at ea;simp only[List.cons_append,List.append_assoc];rw[tks_test (c:=33) (by simp),tks_test (c:=123) (by simp),ea,tks_test (c:=125) (by simp),ihs,tks_test (c:=33) (by simp),tks_test (c:=123) (by simp),ea,tks_test (c:=125) (by simp)];simp[List.append_assoc]
theorem tks_body{X a:List UInt8}(h:TD X [] a)(l s:List UInt8):tks l (a++s)=tks l a++tks l s:=by
 have:=tks_cat h l s;simpa using this
def edgeT(TK:UInt8×UInt8×List UInt8→Prop)(k v:UInt8):Prop:=∃c H,TK (c,v,H)∧k∈H
inductive Way(TK:UInt8×UInt8×List UInt8→Prop):UInt8→UInt8→Prop
 | one {a b:UInt8}:edgeT TK a b→Way TK a b
 | more {a b c:UInt8}:Way TK a b→edgeT TK b c→Way TK a c
def FairT(TK:UInt8×UInt8×List UInt8→Prop):Prop:=∀v H,TK (60,v,H)→∀k∈H,¬Way TK v k
end Go.Proofs.YtdgkpkdinfklaabGreat
