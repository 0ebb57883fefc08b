import Derived.Test.YtdgkpkdinfklaabGreatGI
import Derived.Test.YtdgkpkdinfklaabGreatGA
import Derived.Test.YtdgkpkdinfklaabGreatGE
namespace Go.Proofs.YtdgkpkdinfklaabGreat
inductive Sg(F:List ST)(lo hi:Nat):List UInt8→Nat→List UInt8→Nat→Prop
 | nil (k:Nat):Sg F lo hi [] k [] k
 | jump {K u:List UInt8} {k k' j:Nat} (s:ST):lo≤k→k<hi→F[k]?=some s→s.kind=8→s.nx=k'→Sg F lo hi K k' u j→Sg F lo hi K k u j
 | acc {K u:List UInt8} {k j:Nat} (s:ST) (c v:UInt8):lo≤k→k<hi→F[k]?=some s→(c=103∧s.kind=1∨c=112∧s.kind=2)→inU [120,121,122] v=true→s.num=(v.toNat:Int)-120→s.nx=((k+1:Nat):Int)→Sg F lo hi K (k+1) u j→Sg F lo hi K k (c::v::u) j
 | add {K u:List UInt8} {k j:Nat} (s:ST) (d:UInt8):lo≤k→k<hi→F[k]?=some s→s.kind=3→inU [48,49,50,51,52,53,54,55,56,57] d=true→s.num=(d.toNat:Int)-48→s.nx=((k+1:Nat):Int)→Sg F lo hi K (k+1) u j→Sg F lo hi K k (105::d::u) j
 | out {K u:List UInt8} {k j:Nat} (s:ST):lo≤k→k<hi→F[k]?=some s→s.kind=4→s.nx=((k+1:Nat):Int)→Sg F lo hi K (k+1) u j→Sg F lo hi K k (111::u) j
 | take {K u:List UInt8} {k j:Nat} (s:ST) (c l:UInt8):lo≤k→k<hi→F[k]?=some s→s.kind=6→(c=91∧s.mend=false∨c=60∧s.mend=true)→inU [65,66,67,68,69] l=true→s.num=(l.toNat:Int)-65→s.nx=((k+1:Nat):Int)→Sg F lo hi (l::K) (k+1) u j→Sg F lo hi K k (c::l::u) j
 | give {K u:List UInt8} {k j:Nat} (s:ST) (c l:UInt8):lo≤k→k<hi→F[k]?=some s→s.kind=7→(c=93∧s.mend=false∨c=62∧s.mend=true)→s.num=(l.toNat:Int)-65→s.nx=((k+1:Nat):Int)→Sg F lo hi K (k+1) u j→Sg F lo hi (l::K) k (c::u) j
 | branch {K a b u:List UInt8} {k e x j:Nat} (s:ST):lo≤k→k<hi→F[k]?=some s→s.kind=5→s.nx=((k+1:Nat):Int)→s.el=e→Sg F lo hi [] (k+1) a x→Sg F lo hi [] e b x→Sg F lo hi K x u j→Sg F lo hi K k (63::123::(a++125::123::(b++125::u))) j
 | loop {K a u:List UInt8} {k e j:Nat} (s:ST):lo≤k→k<hi→F[k]?=some s→s.kind=5→s.nx=((k+1:Nat):Int)→s.el=e→Sg F lo hi [] (k+1) a k→Sg F lo hi K e u j→Sg F lo hi K k (33::123::(a++125::u)) j
theorem Sg.congr{F G:List ST}{lo hi lo' hi':Nat}(hlo:lo'≤lo)(hhi:hi≤hi')(h:∀i,lo≤i→i<hi→F[i]?=G[i]?){K u:List UInt8}{k j:Nat}(hs:Sg F lo hi K k u j):Sg G lo' hi' K k u j:=by
 induction hs with
 | nil k=>exact .nil k
 | jump s h1 h2 h3 h4 h5 _ ih=>exact .jump s (by omega) (by omega) (by rw[←h _ h1 h2];exact h3) h4 h5 ih
 | acc s c v h1 h2 h3 h4 h5 h6 h7 _ ih=>exact .acc s c v (by omega) (by omega) (by rw[←h _ h1 h2];exact h3) h4 h5 h6 h7 ih
 | add s d h1 h2 h3 h4 h5 h6 h7 _ ih=>exact .add s d (by omega) (by omega) (by rw[←h _ h1 h2];exact h3) h4 h5 h6 h7 ih
 | out s h1 h2 h3 h4 h5 _ ih=>exact .out s (by omega) (by omega) (by rw[←h _ h1 h2];exact h3) h4 h5 ih
 | take s c l h1 h2 h3 h4 h5 h6 h7 h8 _ ih=>exact .take s c l (by omega) (by omega) (by rw[←h _ h1 h2];exact h3) h4 h5 h6 h7 h8 ih
 | give s c l h1 h2 h3 h4 h5 h6 h7 _ ih=>exact .give s c l (by omega) (by omega) (by rw[←h _ h1 h2];exact h3) h4 h5 h6 h7 ih
 | branch s h1 h2 h3 h4 h5 h6 _ _ _ iha ihb ih=>exact .branch s (by omega) (by omega) (by rw[←h _ h1 h2];exact h3) h4 h5 h6 iha ihb ih
 | loop s h1 h2 h3 h4 h5 h6 _ _ iha ih=>exact .loop s (by omega) (by omega) (by rw[←h _ h1 h2];exact h3) h4 h5 h6 iha ih
theorem Sg.mono{F:List ST}{lo hi lo' hi':Nat}(hlo:lo'≤lo)(hhi:hi≤hi'){K u:List UInt8}{k j:Nat}(hs:Sg F lo hi K k u j):Sg F lo' hi' K k u j:=hs.congr hlo hhi (fun _ _ _=>rfl)
theorem Sg.cat{F:List ST}{lo hi:Nat}{K a:List UInt8}{k m:Nat}(h:Sg F lo hi K k a m):∀{J b:List UInt8} {j:Nat},Sg F lo hi J m b j→Sg F lo hi (K++J) k (a++b) j:=by
 induction h with
 | nil k=>intro J b j hb;exact hb
 | jump s h1 h2 h3 h4 h5 _ ih=>intro J b j hb;exact .jump s h1 h2 h3 h4 h5 (ih hb)
 | acc s c v h1 h2 h3 h4 h5 h6 h7 _ ih=>intro J b j hb;exact .acc s c v h1 h2 h3 h4 h5 h6 h7 (ih hb)
 | add s d h1 h2 h3 h4 h5 h6 h7 _ ih=>intro J b j hb;exact .add s d h1 h2 h3 h4 h5 h6 h7 (ih hb)
 | out s h1 h2 h3 h4 h5 _ ih=>intro J b j hb;exact .out s h1 h2 h3 h4 h5 (ih hb)
 | take s c l h1 h2 h3 h4 h5 h6 h7 h8 _ ih=>intro J b j hb;exact .take s c l h1 h2 h3 h4 h5 h6 h7 h8 (ih hb)
 | give s c l h1 h2 h3 h4 h5 h6 h7 _ ih=>intro J b j hb;exact .give s c l h1 h2 h3 h4 h5 h6 h7 (ih hb)
 | branch s h1 h2 h3 h4 h5 h6 ha hb' _ _ _ ih=>
  intro J b j hb;have:=Sg.branch s h1 h2 h3 h4 h5 h6 ha hb' (ih hb);simpa using this
 | loop s h1 h2 h3 h4 h5 h6 ha _ _ ih=>
  intro J b j hb;have:=Sg.loop s h1 h2 h3 h4 h5 h6 ha (ih hb);simpa using this
theorem Sg.cat0{F:List ST}{lo hi:Nat}{J a b:List UInt8}{k m j:Nat}(h:Sg F lo hi [] k a m)(hb:Sg F lo hi J m b j):Sg F lo hi J k (a++b) j:=by
 simpa using h.cat hb
theorem Sg.blk{F:List ST}{lo hi:Nat}{K a:List UInt8}{k m:Nat}(h:Sg F lo hi K k a m):∀(d:Nat) (z:List UInt8),blkG d (a++z)=(a++(blkG d z).1,(blkG d z).2):=by
 induction h with
 | nil k=>intro d z;rfl
 | jump s h1 h2 h3 h4 h5 _ ih=>exact ih
 | acc s c v _ _ _ hc hv _ _ _ ih=>
  intro d z;rw[List.cons_append,List.cons_append,blk_any _ _ (by rcases hc with⟨rfl,_⟩|⟨rfl,_⟩<;>decide) (by rcases hc with⟨rfl,_⟩|⟨rfl,_⟩<;>decide),blk_any _ _ (by rintro rfl;exact absurd hv (by decide)) (by rintro rfl;exact absurd hv (by decide)),ih];rfl
 | add s d _ _ _ _ hv _ _ _ ih=>
  intro d z;rw[List.cons_append,List.cons_append,blk_any _ _ (by decide) (by decide),blk_any _ _ (by rintro rfl;exact absurd hv (by decide)) (by rintro rfl;exact absurd hv (by decide)),ih];rfl
 | out s _ _ _ _ _ _ ih=>intro d z;rw[List.cons_append,blk_any _ _ (by decide) (by decide),ih];rfl
 | take s c l _ _ _ _ hc hl _ _ _ ih=>
  intro d z;rw[List.cons_append,List.cons_append,blk_any _ _ (by rcases hc with⟨rfl,_⟩|⟨rfl,_⟩<;>decide) (by rcases hc with⟨rfl,_⟩|⟨rfl,_⟩<;>decide),blk_any _ _ (by rintro rfl;exact absurd hl (by decide)) (by rintro rfl;exact absurd hl (by decide)),ih];rfl
 | give s c l _ _ _ _ hc _ _ _ ih=>
  intro d z;rw[List.cons_append,blk_any _ _ (by rcases hc with⟨rfl,_⟩|⟨rfl,_⟩<;>decide) (by rcases hc with⟨rfl,_⟩|⟨rfl,_⟩<;>decide),ih];rfl
 | branch s _ _ _ _ _ _ _ _ _ iha ihb ih=>
  intro d z;simp only[List.cons_append,List.append_assoc];rw[blk_any _ _ (by decide) (by decide),blk_open,iha,blk_shut,blk_open,ihb,blk_shut,ih]
 | loop s _ _ _ _ _ _ _ _ iha ih=>
  intro d z;simp only[List.cons_append,List.append_assoc];rw[blk_any _ _ (by decide) (by decide),blk_open,iha,blk_shut,ih]
theorem Sg.no{F:List ST}{lo hi:Nat}{K a:List UInt8}{k m:Nat}(h:Sg F lo hi K k a m):124∉a:=by
 induction h with
 | nil k=>simp
 | jump s h1 h2 h3 h4 h5 _ ih=>exact ih
 | acc s c v _ _ _ hc hv _ _ _ ih=>
  simp only[List.mem_cons,not_or];exact⟨by rcases hc with⟨rfl,_⟩|⟨rfl,_⟩<;>decide,by rintro rfl;exact absurd hv (by decide),ih⟩
 | add s d _ _ _ _ hv _ _ _ ih=>
  simp only[List.mem_cons,not_or];exact⟨by decide,by rintro rfl;exact absurd hv (by decide),ih⟩
 | out s _ _ _ _ _ _ ih=>simp only[List.mem_cons,not_or];exact⟨by decide,ih⟩
 | take s c l _ _ _ _ hc hl _ _ _ ih=>
  simp only[List.mem_cons,not_or];exact⟨by rcases hc with⟨rfl,_⟩|⟨rfl,_⟩<;>decide,by rintro rfl;exact absurd hl (by decide),ih⟩
 | give s c l _ _ _ _ hc _ _ _ ih=>
  simp only[List.mem_cons,not_or];exact⟨by rcases hc with⟨rfl,_⟩|⟨rfl,_⟩<;>decide,ih⟩
 | branch s _ _ _ _ _ _ _ _ _ iha ihb ih=>
  simp only[List.mem_cons,List.mem_append,not_or];exact⟨by decide,by decide,iha,by decide,by decide,ihb,by decide,ih⟩
 | loop s _ _ _ _ _ _ _ _ iha ih=>
  simp only[List.mem_cons,List.mem_append,not_or];exact⟨by decide,by decide,iha,by decide,ih⟩
inductive Stk(F:List ST):List OP→Nat→Nat→List UInt8→Prop
 | base {k n:Nat} {u:List UInt8}:k≤n→Sg F k n [] k u n→Stk F [] k n u
 | region {op:List OP} {k m n:Nat} {v u:List UInt8} (s:ST) (l:UInt8) (f:Int):Stk F op k m v→k≤m→m<n→F[m]?=some s→s.kind=6→s.mend=false→inU [65,66,67,68,69] l=true→s.num=(l.toNat:Int)-65→s.nx=((m+1:Nat):Int) →
   Sg F (m+1) n [] (m+1) u n→Stk F ((1,(l.toNat:Int)-65,f)::op) k n (v++91::l::u)
 | first {op:List OP} {k m n:Nat} {v u:List UInt8} (s:ST):Stk F op k m v→k≤m→m<n→F[m]?=some s→s.kind=5→s.nx=((m+1:Nat):Int)→Sg F (m+1) n [] (m+1) u n→Stk F ((3,-1,(m:Int))::op) k n (v++63::123::u)
 | second {op:List OP} {k m j n:Nat} {v a b:List UInt8} (s t:ST):Stk F op k m v→k≤m→m<j→j<n→F[m]?=some s→s.kind=5→s.nx=((m+1:Nat):Int)→s.el=((j+1:Nat):Int)→Sg F (m+1) j [] (m+1) a j→F[j]?=some t→t.kind=8 →
   Sg F (j+1) n [] (j+1) b n→Stk F ((4,-1,(j:Int))::op) k n (v++63::123::(a++125::123::b))
 | loop {op:List OP} {k m n:Nat} {v u:List UInt8} (s:ST):Stk F op k m v→k≤m→m<n→F[m]?=some s→s.kind=5→s.nx=((m+1:Nat):Int)→Sg F (m+1) n [] (m+1) u n→Stk F ((5,-1,(m:Int))::op) k n (v++33::123::u)
theorem Stk.le{F:List ST}{op:List OP}{k n:Nat}{u:List UInt8}(h:Stk F op k n u):k≤n:=by cases h<;>omega
theorem Stk.congr{F G:List ST}{op:List OP}{k n:Nat}{u:List UInt8}(h:Stk F op k n u)(he:∀i,k≤i→i<n→F[i]?=G[i]?):Stk G op k n u:=by
 induction h with
 | base h1 h2=>exact .base h1 (h2.congr (Nat.le_refl _) (Nat.le_refl _) he)
 | region s l f h0 h1 h2 h3 h4 h5 h6 h7 h8 h9 ih=>exact .region s l f (ih (fun i a b=>he i a (by omega))) h1 h2 (by rw[←he _ h1 h2];exact h3) h4 h5 h6 h7 h8 (h9.congr (Nat.le_refl _) (Nat.le_refl _) (fun i a b=>he i (by omega) b))
 | first s h0 h1 h2 h3 h4 h5 h6 ih=>exact .first s (ih (fun i a b=>he i a (by omega))) h1 h2 (by rw[←he _ h1 h2];exact h3) h4 h5 (h6.congr (Nat.le_refl _) (Nat.le_refl _) (fun i a b=>he i (by omega) b))
 | second s t h0 h1 h2 h3 h4 h5 h6 h7 h8 h9 h10 h11 ih=>
  exact .second s t (ih (fun i a b=>he i a (by omega))) h1 h2 h3 (by rw[←he _ h1 (by omega)];exact h4) h5 h6 h7 (h8.congr (Nat.le_refl _) (Nat.le_refl _) (fun i a b=>he i (by omega) (by omega))) (by rw[←he _ (by omega) h3];exact h9) h10 (h11.congr (Nat.le_refl _) (Nat.le_refl _) (fun i a b=>he i (by omega) b))
 | loop s h0 h1 h2 h3 h4 h5 h6 ih=>exact .loop s (ih (fun i a b=>he i a (by omega))) h1 h2 (by rw[←he _ h1 h2];exact h3) h4 h5 (h6.congr (Nat.le_refl _) (Nat.le_refl _) (fun i a b=>he i (by omega) b))
theorem Stk.more{F:List ST}{op:List OP}{k n n':Nat}{u x:List UInt8}(h:Stk F op k n u)(hn:n≤n')(hx:Sg F n n' [] n x n'):Stk F op k n' (u++x):=by
 cases h with
 | base h1 h2=>exact .base (by omega) ((h2.mono (Nat.le_refl _) hn).cat0 (hx.mono h1 (Nat.le_refl _)))
 | region s l f h0 h1 h2 h3 h4 h5 h6 h7 h8 h9=>
  have:=Stk.region s l f h0 h1 (Nat.lt_of_lt_of_le h2 hn) h3 h4 h5 h6 h7 h8 ((h9.mono (Nat.le_refl _) hn).cat0 (hx.mono h2 (Nat.le_refl _)));simpa using this
 | first s h0 h1 h2 h3 h4 h5 h6=>
  have:=Stk.first s h0 h1 (Nat.lt_of_lt_of_le h2 hn) h3 h4 h5 ((h6.mono (Nat.le_refl _) hn).cat0 (hx.mono h2 (Nat.le_refl _)))
  simpa using this
 | second s t h0 h1 h2 h3 h4 h5 h6 h7 h8 h9 h10 h11=>
  have:=Stk.second s t h0 h1 h2 (Nat.lt_of_lt_of_le h3 hn) h4 h5 h6 h7 h8 h9 h10 ((h11.mono (Nat.le_refl _) hn).cat0 (hx.mono h3 (Nat.le_refl _)));simpa using this
 | loop s h0 h1 h2 h3 h4 h5 h6=>
  have:=Stk.loop s h0 h1 (Nat.lt_of_lt_of_le h2 hn) h3 h4 h5 ((h6.mono (Nat.le_refl _) hn).cat0 (hx.mono h2 (Nat.le_refl _)));simpa using this
inductive Thr(F:List ST):Nat→Nat→List (Nat×List UInt8)→Prop
 | nil:Thr F 0 0 []
 | snoc {m k n:Nat} {ts:List (Nat×List UInt8)} {u:List UInt8} (s:ST):Thr F m k ts→k≤n→Sg F k n [] k u n→F[n]?=some s→s.kind=9→(∀(i:Nat) (t:ST),k≤i→i≤n→F[i]?=some t→t.thread=(m:Int)+1)→Thr F (m+1) (n+1) (ts++[(k,u)])
theorem Thr.congr{F G:List ST}{m k:Nat}{ts:List (Nat×List UInt8)}(h:Thr F m k ts)(he:∀i,i<k→F[i]?=G[i]?):Thr G m k ts:=by
 induction h with
 | nil=>exact .nil
 | snoc s h0 h1 h2 h3 h4 h5 ih=>
  exact .snoc s (ih (fun i a=>he i (by omega))) h1 (h2.congr (Nat.le_refl _) (Nat.le_refl _) (fun i a b=>he i (by omega))) (by rw[←he _ (by omega)];exact h3) h4 (fun i t a b c=>h5 i t a b (by rw[he i (by omega)];exact c))
def JOk(F:List ST):Prop:=∀(i:Nat) (s:ST),F[i]?=some s→s.kind=8→(i:Int)<s.nx∨∃(m:Nat) (t:ST),s.nx=m∧F[m]?=some t∧t.kind=5
def joinB(ts:List (Nat×List UInt8)):List UInt8:=ts.flatMap fun x=>x.2++[124]
structure Iv(p:List UInt8)(r:RT)(m k:Nat)(ts:List (Nat×List UInt8))(cur:List UInt8):Prop where
 thr:Thr r.st m k ts
 th:r.th=(m:Int)+1
 stk:Stk r.st r.op k r.st.length cur
 fld:∀(i:Nat) (t:ST),k≤i→r.st[i]?=some t→t.thread=(m:Int)+1
 txt:p.take r.pl=joinB ts++cur
 jok:JOk r.st
theorem take_one{p:List UInt8}{k:Nat}{c:UInt8}(h:p[k]?=some c):p.take (k+1)=p.take k++[c]:=by
 obtain⟨hk,rfl⟩:=List.getElem?_eq_some_iff.1 h;exact List.take_succ_eq_append_getElem hk
theorem take_two{p:List UInt8}{k:Nat}{c d:UInt8}(h:p[k]?=some c)(h2:p[k+1]?=some d):p.take (k+2)=p.take k++[c,d]:=by
 rw[take_one h2,take_one h];simp
theorem snoc_lt{F:List ST}(s:ST){i:Nat}(h:i<F.length):F[i]?=(F++[s])[i]?:=(List.getElem?_append_left h).symm
theorem snoc_at(F:List ST)(s:ST):(F++[s])[F.length]?=some s:=by simp
theorem JOk.snoc{F:List ST}(h:JOk F)(s:ST)(hs:s.kind=8→(F.length:Int)<s.nx):JOk (F++[s]):=by
 intro i t ht hk
 by_cases hi:i<F.length
 ·rw[List.getElem?_append_left hi]at ht;rcases h i t ht hk with h1|⟨m,x,e1,e2,e3⟩
  ·exact .inl h1
  ·exact .inr ⟨m,x,e1,by rw[List.getElem?_append_left (List.getElem?_eq_some_iff.1 e2).1];exact e2,e3⟩
 ·have hi':i=F.length:=by
   have:=(List.getElem?_eq_some_iff.1 ht).1;simp at this;omega
  subst hi';rw[snoc_at]at ht;have:=Option.some.inj ht;subst this;exact .inl (hs hk)
theorem Iv.more{p:List UInt8}{r:RT}{m k:Nat}{ts:List (Nat×List UInt8)}{cur:List UInt8}(h:Iv p r m k ts cur)(G:List ST)(pl:Nat)(x:List UInt8)(he:∀i,i<r.st.length→r.st[i]?=G[i]?)(hl:r.st.length≤G.length)(hf:∀(i:Nat) (t:ST),r.st.length≤i→G[i]?=some t→t.thread=r.th)(hj:JOk G)
  (hx:Sg G r.st.length G.length [] r.st.length x G.length)(ht:p.take pl=p.take r.pl++x):Iv p ⟨pl,r.th,r.op,G⟩ m k ts (cur++x):=by
 obtain⟨h1,h2,h3,h4,h5,h6⟩:=h;have hk:=h3.le;refine⟨h1.congr (fun i hi=>he i (by omega)),h2,(h3.congr (fun i _ hi=>he i hi)).more hl hx,?_,by simp[ht,h5],hj⟩;intro i t hi hit
 by_cases hlt:i<r.st.length
 ·exact h4 i t hi (by rw[he i hlt];exact hit)
 ·rw[hf i t (by omega) hit];exact h2
theorem fld_one{F:List ST}{s:ST}{x:Int}(hs:s.thread=x):∀(i:Nat) (t:ST),F.length≤i→(F++[s])[i]?=some t→t.thread=x:=by
 intro i t hi ht;have:=(List.getElem?_eq_some_iff.1 ht).1;have hi':i=F.length:=by simp at this;omega
 subst hi';rw[snoc_at]at ht;rw[←Option.some.inj ht];exact hs
theorem Iv.one{p:List UInt8}{r:RT}{m k:Nat}{ts:List (Nat×List UInt8)}{cur:List UInt8}(h:Iv p r m k ts cur)(s:ST)(pl:Nat)(x:List UInt8)(hs:s.thread=r.th)(h8:s.kind≠8)
  (hx:Sg (r.st++[s]) r.st.length (r.st.length+1) [] r.st.length x (r.st.length+1))(ht:p.take pl=p.take r.pl++x):Iv p ⟨pl,r.th,r.op,r.st++[s]⟩ m k ts (cur++x):=
 h.more _ pl x (fun _ hi=>snoc_lt s hi) (by simp) (fld_one hs) (h.jok.snoc s (fun e=>absurd e h8)) (by simpa using hx) ht
theorem digit_char{i:Nat}{d:UInt8}(h:([48,49,50,51,52,53,54,55,56,57]:List UInt8)[i]?=some d):(d.toNat:Int)-48=i:=by
 have h5:i<10:=(List.getElem?_eq_some_iff.1 h).1;have h6:i=0∨i=1∨i=2∨i=3∨i=4∨i=5∨i=6∨i=7∨i=8∨i=9:=by omega
 rcases h6 with rfl|rfl|rfl|rfl|rfl|rfl|rfl|rfl|rfl|rfl<;>(simp at h;subst h;decide)
theorem nxI_inU{p:List UInt8}{q i:Nat}{al:List UInt8}{c:UInt8}(h:nxI p q al=some i)(hc:p[q]?=some c):inU al c=true:=by
 rw[←nxI_in hc,h];rfl
theorem one_char{i:Nat}{c d:UInt8}(h:([c]:List UInt8)[i]?=some d):d=c:=by
 cases i with
 | zero=>simpa using h.symm
 | succ i=>simp at h
theorem access_iv{p:List UInt8}{r r':RT}(hr:r.access p=(r',true)):∃(s:ST) (c v:UInt8),r'=⟨r.pl+2,r.th,r.op,r.st++[s]⟩∧s.thread=r.th∧s.nx=((r.st.length+1:Nat):Int)∧(c=103∧s.kind=1∨c=112∧s.kind=2)∧inU [120,121,122] v=true∧s.num=(v.toNat:Int)-120∧p.take (r.pl+2)=p.take r.pl++[c,v]:=by
 unfold RT.access at hr;cases hx:nxI p r.pl [103,112]with
 | none=>rw[hx]at hr;cases hr
 | some i=>
  rw[hx]at hr;cases hy:nxI p (r.pl+1) [120,121,122]with
  | none=>rw[hy]at hr;cases hr
  | some g=>
   rw[hy]at hr;simp only[Prod.mk.injEq,and_true]at hr;obtain⟨c,hc,hci⟩:=nxI_char hx;obtain⟨v,hv,hvi⟩:=nxI_char hy;refine⟨stepT (r.to 2) (if i=1 then 2 else 1) r.pl g false,c,v,hr.symm,rfl,rfl,?_,nxI_inU hy hv,(glob_char hvi).symm,take_two hc hv⟩;have h5:i<2:=(List.getElem?_eq_some_iff.1 hci).1;have h6:i=0∨i=1:=by omega
   rcases h6 with rfl|rfl
   ·left;exact⟨by simpa using hci.symm,rfl⟩
   ·right;exact⟨by simpa using hci.symm,rfl⟩
theorem Iv.access{p:List UInt8}{r r':RT}{m k:Nat}{ts:List (Nat×List UInt8)}{cur:List UInt8}(h:Iv p r m k ts cur)(hr:r.access p=(r',true)):∃cur',Iv p r' m k ts cur':=by
 obtain⟨s,c,v,rfl,h1,h2,h3,h4,h5,h6⟩:=access_iv hr;refine⟨_,h.one s (r.pl+2) [c,v] h1 (by rcases h3 with⟨_,e⟩|⟨_,e⟩<;>omega) ?_ h6⟩;exact .acc s c v (Nat.le_refl _) (by omega) (snoc_at _ _) h3 h4 h5 h2 (.nil _)
theorem leadL_get(l:List ST)(j:Nat)(t:Int)(i:Nat):(leadL l j t)[i]?=if i=j then(l[j]?).map fun s=>{ s with nx:=t }else l[i]?:=by
 have h0:(0:Int)≤(j:Int):=Int.natCast_nonneg _;unfold leadL;rw[if_pos h0,Int.toNat_natCast];cases hj:l[j]? with
 | none=>
  simp only[Option.map_none]
  by_cases hi:i=j
  ·subst hi;simp[hj]
  ·simp[hi]
 | some s=>
  simp only[Option.map_some];have hlt:j<l.length:=(List.getElem?_eq_some_iff.1 hj).1
  by_cases hi:i=j
  ·subst hi;rw[List.getElem?_set_self hlt];simp
  ·rw[List.getElem?_set_ne (fun e=>hi e.symm)];simp[hi]
theorem elseL_get(l:List ST)(j:Nat)(t:Int)(i:Nat):(elseL l j t)[i]?=if i=j then(l[j]?).map fun s=>{ s with el:=t }else l[i]?:=by
 have h0:(0:Int)≤(j:Int):=Int.natCast_nonneg _;unfold elseL;rw[if_pos h0,Int.toNat_natCast];cases hj:l[j]? with
 | none=>
  simp only[Option.map_none]
  by_cases hi:i=j
  ·subst hi;simp[hj]
  ·simp[hi]
 | some s=>
  simp only[Option.map_some];have hlt:j<l.length:=(List.getElem?_eq_some_iff.1 hj).1
  by_cases hi:i=j
  ·subst hi;rw[List.getElem?_set_self hlt];simp
  ·rw[List.getElem?_set_ne (fun e=>hi e.symm)];simp[hi]
theorem leadL_old{l:List ST}{j:Nat}{t:Int}{i:Nat}{s:ST}(h:(leadL l j t)[i]?=some s):∃s0,l[i]?=some s0∧s.thread=s0.thread∧s.kind=s0.kind∧(i≠j→s=s0)∧(i=j→s.nx=t):=by
 rw[leadL_get]at h
 by_cases hi:i=j
 ·subst hi;rw[if_pos rfl]at h;cases hl:l[i]? with
  | none=>rw[hl]at h;cases h
  | some s0=>
   rw[hl]at h;have:=Option.some.inj h;subst this;exact⟨s0,rfl,rfl,rfl,fun e=>absurd rfl e,fun _=>rfl⟩
 ·rw[if_neg hi]at h;exact⟨s,h,rfl,rfl,fun _=>rfl,fun e=>absurd e hi⟩
theorem elseL_old{l:List ST}{j:Nat}{t:Int}{i:Nat}{s:ST}(h:(elseL l j t)[i]?=some s):∃s0,l[i]?=some s0∧s.thread=s0.thread∧s.kind=s0.kind∧s.nx=s0.nx:=by
 rw[elseL_get]at h
 by_cases hi:i=j
 ·subst hi;rw[if_pos rfl]at h;cases hl:l[i]? with
  | none=>rw[hl]at h;cases h
  | some s0=>
   rw[hl]at h;have:=Option.some.inj h;subst this;exact⟨s0,rfl,rfl,rfl,rfl⟩
 ·rw[if_neg hi]at h;exact⟨s,h,rfl,rfl,rfl⟩
theorem leadL_new{l:List ST}{j:Nat}{t:Int}{i:Nat}{s:ST}(h:l[i]?=some s):∃s1,(leadL l j t)[i]?=some s1∧s1.kind=s.kind:=by
 rw[leadL_get]
 by_cases hi:i=j
 ·subst hi;rw[if_pos rfl,h];exact⟨_,rfl,rfl⟩
 ·rw[if_neg hi];exact⟨s,h,rfl⟩
theorem elseL_new{l:List ST}{j:Nat}{t:Int}{i:Nat}{s:ST}(h:l[i]?=some s):∃s1,(elseL l j t)[i]?=some s1∧s1.kind=s.kind:=by
 rw[elseL_get]
 by_cases hi:i=j
 ·subst hi;rw[if_pos rfl,h];exact⟨_,rfl,rfl⟩
 ·rw[if_neg hi];exact⟨s,h,rfl⟩
theorem JOk.els{F:List ST}(h:JOk F)(j:Nat)(t:Int):JOk (elseL F j t):=by
 intro i s hs hk;obtain⟨s0,h1,h2,h3,h4⟩:=elseL_old hs;rcases h i s0 h1 (by rw[←h3];exact hk)with h5|⟨m,x,e1,e2,e3⟩
 ·exact .inl (by rw[h4];exact h5)
 ·obtain⟨x1,y1,y2⟩:=elseL_new (j:=j) (t:=t) e2;exact .inr ⟨m,x1,by rw[h4];exact e1,y1,by rw[y2];exact e3⟩
theorem JOk.lead{F:List ST}(h:JOk F)(j:Nat)(t:Int)(ht:(j:Int)<t∨∃(m:Nat) (x:ST),t=m∧F[m]?=some x∧x.kind=5):JOk (leadL F j t):=by
 intro i s hs hk;obtain⟨s0,h1,h2,h3,h4,h5⟩:=leadL_old hs
 by_cases hi:i=j
 ·have hn:=h5 hi;subst hi;rcases ht with ht|⟨m,x,e1,e2,e3⟩
  ·exact .inl (by rw[hn];exact ht)
  ·obtain⟨x1,y1,y2⟩:=leadL_new (j:=i) (t:=t) e2;exact .inr ⟨m,x1,by rw[hn];exact e1,y1,by rw[y2];exact e3⟩
 ·have e:=h4 hi;subst e;rcases h i s h1 hk with h5|⟨m,x,e1,e2,e3⟩
  ·exact .inl h5
  ·obtain⟨x1,y1,y2⟩:=leadL_new (j:=j) (t:=t) e2;exact .inr ⟨m,x1,e1,y1,by rw[y2];exact e3⟩
theorem leadL_far{l:List ST}{j:Nat}{t:Int}{i:Nat}(h:i≠j):l[i]?=(leadL l j t)[i]?:=by rw[leadL_get,if_neg h]
theorem elseL_far{l:List ST}{j:Nat}{t:Int}{i:Nat}(h:i≠j):l[i]?=(elseL l j t)[i]?:=by rw[elseL_get,if_neg h]
section
variable {p : List UInt8} {r r' : RT} {m k : Nat} {ts : List (Nat × List UInt8)} {cur : List UInt8}
theorem Iv.addition(h:Iv p r m k ts cur)(hc:p[r.pl]?=some 105)(hr:r.addition p=(r',true)):∃cur',Iv p r' m k ts cur':=by
 unfold RT.addition at hr;cases hx:nxI p (r.pl+1) [48,49,50,51,52,53,54,55,56,57]with
 | none=>rw[hx]at hr;cases hr
 | some d=>
  rw[hx]at hr;simp only[Prod.mk.injEq,and_true]at hr;subst hr;obtain⟨v,hv,hvi⟩:=nxI_char hx;refine⟨_,h.one (stepT (r.to 2) 3 r.pl d false) (r.pl+2) [105,v] rfl (by show(3:Int)≠8;decide) ?_ (take_two hc hv)⟩;exact .add (stepT (r.to 2) 3 r.pl d false) v (Nat.le_refl _) (by omega) (snoc_at _ _) rfl (nxI_inU hx hv) (digit_char hvi).symm rfl (.nil _)
theorem Iv.print(h:Iv p r m k ts cur)(hc:p[r.pl]?=some 111):∃cur',Iv p r.print m k ts cur':=by
 refine⟨_,h.one (stepT r 4 r.pl 0 false) (r.pl+1) [111] rfl (by show(4:Int)≠8;decide) ?_ (take_one hc)⟩;exact .out (stepT r 4 r.pl 0 false) (Nat.le_refl _) (by omega) (snoc_at _ _) rfl rfl (.nil _)
theorem Iv.opened(h:Iv p r m k ts cur)(s:ST)(hs:s.thread=r.th)(h8:s.kind≠8)(pl:Nat)(x:List UInt8)(o:OP)(ht:p.take pl=p.take r.pl++x)
  (hx:Stk (r.st++[s]) r.op k r.st.length cur→Stk (r.st++[s]) (o::r.op) k (r.st.length+1) (cur++x)):Iv p ⟨pl,r.th,o::r.op,r.st++[s]⟩ m k ts (cur++x):=by
 obtain⟨h1,h2,h3,h4,h5,h6⟩:=h;have hk:=h3.le;refine⟨h1.congr (fun i hi=>snoc_lt s (by omega)),h2,?_,?_,by simp[ht,h5],h6.snoc s (fun e=>absurd e h8)⟩
 ·have:=hx (h3.congr (fun i _ hi=>snoc_lt s hi));simpa using this
 ·intro i t hi hit
  by_cases hlt:i<r.st.length
  ·exact h4 i t hi (by rw[snoc_lt s hlt];exact hit)
  ·rw[fld_one hs i t (by omega) hit];exact h2
theorem lock5{l:UInt8}(h:inU [65,66,67,68] l=true):inU [65,66,67,68,69] l=true:=inU_four h
theorem Iv.regionBegin(h:Iv p r m k ts cur)(hc:p[r.pl]?=some 91)(hr:r.regionBegin p=(r',true)):∃cur',Iv p r' m k ts cur':=by
 unfold RT.regionBegin at hr;cases hx:nxI p (r.pl+1) [65,66,67,68]with
 | none=>rw[hx]at hr;cases hr
 | some d=>
  rw[hx]at hr;simp only[Prod.mk.injEq,and_true]at hr;subst hr;obtain⟨v,hv,hvi⟩:=nxI_char hx;have hl:=(lock_char4 hvi).2.1
  have:=h.opened (stepT (r.to 2) 6 r.pl d false) rfl (by show(6:Int)≠8;decide) (r.pl+2) [91,v] (1,(d:Int),0) (take_two hc hv) (fun hk=>by
   have:=Stk.region (stepT (r.to 2) 6 r.pl d false) v 0 hk hk.le (Nat.lt_succ_self _) (snoc_at _ _) rfl rfl (lock5 (nxI_inU hx hv)) hl.symm rfl (.nil _);rw[hl]at this
   exact this)
  exact⟨_,this⟩
theorem Iv.regionEnd(h:Iv p r m k ts cur)(hc:p[r.pl]?=some 93)(hr:r.regionEnd=(r',true)):∃cur',Iv p r' m k ts cur':=by
 unfold RT.regionEnd at hr
 split at hr
 ·rename_i ht;simp only[Prod.mk.injEq,and_true]at hr;obtain⟨pl,th,op,st⟩:=r;obtain⟨h1,h2,h3,h4,h5,h6⟩:=h;simp only at h1 h2 h3 h4 h5 h6 hc;generalize hn:st.length=n at h3;cases h3 with
  | base=>simp[RT.top]at ht
  | first=>simp[RT.top]at ht
  | second=>simp[RT.top]at ht
  | loop=>simp[RT.top]at ht
  | @region op _ m' _ v u s l f g0 g1 g2 g3 g4 g5 g6 g7 g8 g9=>
   subst hn;obtain⟨gv,hgv⟩:∃gv,gv=stepT ⟨pl,th,op,st⟩ 7 pl ((l.toNat:Int)-65) false:=⟨_,rfl⟩;have hr':r'=⟨pl+1,th,op,st++[gv]⟩:=by rw[←hr,hgv];rfl
   subst hr';have hfar:∀i,i<st.length→st[i]?=(st++[gv])[i]?:=fun i hi=>snoc_lt gv hi
   have hs':(st++[gv])[m']?=some s:=by rw[←hfar m' g2];exact g3
   have hat:(st++[gv])[st.length]?=some gv:=snoc_at _ _;have hgive:Sg (st++[gv]) m' (st.length+1) [l] st.length [93] (st.length+1):=
    .give gv 93 l (by omega) (by omega) hat (by rw[hgv];rfl) (.inl ⟨rfl,by rw[hgv];rfl⟩) (by rw[hgv];rfl) (by rw[hgv];rfl) (.nil _)
   have hbody:Sg (st++[gv]) m' (st.length+1) [] (m'+1) u st.length:=g9.congr (by omega) (by omega) (fun i _ hi=>hfar i hi);have hall:Sg (st++[gv]) m' (st.length+1) [] m' (91::l::(u++[93])) (st.length+1):=
    .take s 91 l (Nat.le_refl _) (by omega) hs' g4 (.inl ⟨rfl,g5⟩) g6 g7 g8 (hbody.cat0 hgive)
   refine⟨v++91::l::(u++[93]),h1.congr (fun i hi=>hfar i (by omega)),h2,?_,?_,?_,?_⟩
   ·have:=(g0.congr (fun i _ hi=>hfar i (by omega))).more (by omega) hall;simpa using this
   ·intro i t hi hit
    by_cases hlt:i<st.length
    ·exact h4 i t hi (by rw[hfar i hlt];exact hit)
    ·rw[fld_one (x:=th) (by rw[hgv];rfl) i t (by omega) hit];exact h2
   ·show p.take (pl+1)=_;rw[take_one hc,h5];simp
   ·exact h6.snoc _ (fun e=>absurd e (by rw[hgv];show(7:Int)≠8;decide))
 ·cases hr
theorem Iv.mended(h:Iv p r m k ts cur)(hc:p[r.pl]?=some 60)(hr:r.mended p=(r',true)):∃cur',Iv p r' m k ts cur':=by
 unfold RT.mended at hr;cases hx:nxI p (r.pl+1) [65,66,67,68,69]with
 | none=>rw[hx]at hr;cases hr
 | some d=>
  rw[hx]at hr;simp only at hr;obtain⟨lv,hv,hvi⟩:=nxI_char hx;have hl:=(lock_char hvi).2.1;cases ha:(((r.to 2).step 6 r.pl d true).push 2 d 0).access p with
  | mk r3 ok=>
   rw[ha]at hr;cases ok with
   | false=>cases hr
   | true=>
    obtain⟨s,c,v,rfl,e1,e2,e3,e4,e5,e6⟩:=access_iv ha;simp only at hr;cases hz:nxI p (r.pl+2+2) [62]with
    | none=>simp only[RT.push,RT.step,RT.to]at hr;rw[hz]at hr;cases hr
    | some j=>
     simp only[RT.push,RT.step,RT.to]at hr;rw[hz]at hr;simp only[Prod.mk.injEq,and_true]at hr;obtain⟨z,hzc,hzi⟩:=nxI_char hz;have hz62:=one_char hzi;subst hz62;simp only[RT.push,RT.step,RT.to,List.length_append,List.length_singleton]at e2 e6 e1;obtain⟨s0,hs0⟩:∃s0,s0=stepT (r.to 2) 6 r.pl d true:=⟨_,rfl⟩;obtain⟨s9,hs9⟩:∃s9:ST,s9=stepT ⟨r.pl+2+2+1,r.th,r.op,r.st++[s0]++[s]⟩ 7 ((r.pl+2+2:Nat):Int) d true:=⟨_,rfl⟩;have hr':r'=⟨r.pl+2+2+1,r.th,r.op,r.st++[s0]++[s]++[s9]⟩:=by
      rw[←hr,hs9,hs0];rfl
     subst hr';have l2:(r.st++[s0]).length=r.st.length+1:=by simp
     have l3:(r.st++[s0]++[s]).length=r.st.length+2:=by simp
     have g0:(r.st++[s0]++[s]++[s9])[r.st.length]?=some s0:=by
      rw[←snoc_lt s9 (by rw[l3];omega),←snoc_lt s (by rw[l2];omega)];exact snoc_at _ _
     have g1:(r.st++[s0]++[s]++[s9])[r.st.length+1]?=some s:=by
      rw[←snoc_lt s9 (by rw[l3];omega)];have:=snoc_at (r.st++[s0]) s;rw[l2]at this;exact this
     have g2:(r.st++[s0]++[s]++[s9])[r.st.length+2]?=some s9:=by
      have:=snoc_at (r.st++[s0]++[s]) s9;rw[l3]at this;exact this
     have hG:(r.st++[s0]++[s]++[s9]).length=r.st.length+3:=by simp
     refine⟨_,h.more (r.st++[s0]++[s]++[s9]) (r.pl+2+2+1) [60,lv,c,v,62] ?_ (by omega) ?_ ?_ ?_ ?_⟩
     ·intro i hi;rw[←snoc_lt s9 (by rw[l3];omega),←snoc_lt s (by rw[l2];omega),←snoc_lt s0 hi]
     ·intro i t hi hit;have hlt:=(List.getElem?_eq_some_iff.1 hit).1;rw[hG]at hlt;have h3:i=r.st.length∨i=r.st.length+1∨i=r.st.length+2:=by omega
      rcases h3 with rfl|rfl|rfl
      ·rw[g0]at hit;rw[←Option.some.inj hit,hs0];rfl
      ·rw[g1]at hit;rw[←Option.some.inj hit];exact e1
      ·rw[g2]at hit;rw[←Option.some.inj hit,hs9];rfl
     ·exact((h.jok.snoc s0 (fun e=>absurd e (by rw[hs0];show(6:Int)≠8;decide))).snoc s (fun e=>by rcases e3 with⟨_,e3⟩|⟨_,e3⟩<;>omega)).snoc s9 (fun e=>absurd e (by rw[hs9];show(7:Int)≠8;decide))
     ·rw[hG];refine .take s0 60 lv (Nat.le_refl _) (by omega) g0 (by rw[hs0];rfl) (.inr ⟨rfl,by rw[hs0];rfl⟩) (nxI_inU hx hv) (by rw[hs0];exact hl.symm) (by rw[hs0];rfl) ?_;refine .acc s c v (by omega) (by omega) g1 e3 e4 e5 (by rw[e2]) ?_;exact .give s9 62 lv (by omega) (by omega) g2 (by rw[hs9];rfl) (.inr ⟨rfl,by rw[hs9];rfl⟩) (by rw[hs9];exact hl.symm) (by rw[hs9];simp[stepT];omega) (.nil _)
     ·rw[take_one hzc,e6,take_two hc hv];simp
theorem body_begin{q:Int}(hr:r.bodyBegin p q=(r',true)):p[r.pl+1]?=some 123∧r'=⟨r.pl+2,r.th,(q,-1,(r.st.length:Int)-1)::r.op,r.st⟩:=by
 unfold RT.bodyBegin at hr;cases hx:nxI p (r.pl+1) [123]with
 | none=>rw[hx]at hr;cases hr
 | some d=>
  rw[hx]at hr;simp only[Prod.mk.injEq,and_true]at hr;obtain⟨v,hv,hvi⟩:=nxI_char hx;rw[one_char hvi]at hv;exact⟨hv,hr.symm⟩
theorem Iv.test3(h:Iv p r m k ts cur)(hc:p[r.pl]?=some 63)(hr:r.test p 3=(r',true)):∃cur',Iv p r' m k ts cur':=by
 obtain⟨hb,rfl⟩:=body_begin hr;have e:((r.step 5 r.pl 0 false).st.length:Int)-1=(r.st.length:Int):=by simp[RT.step]
 rw[e];refine⟨_,h.opened (stepT r 5 r.pl 0 false) rfl (by show(5:Int)≠8;decide) (r.pl+2) [63,123] (3,-1,(r.st.length:Int)) (take_two hc hb) (fun hk=>?_)⟩;exact .first (stepT r 5 r.pl 0 false) hk hk.le (by omega) (snoc_at _ _) rfl rfl (.nil _)
theorem Iv.test5(h:Iv p r m k ts cur)(hc:p[r.pl]?=some 33)(hr:r.test p 5=(r',true)):∃cur',Iv p r' m k ts cur':=by
 obtain⟨hb,rfl⟩:=body_begin hr;have e:((r.step 5 r.pl 0 false).st.length:Int)-1=(r.st.length:Int):=by simp[RT.step]
 rw[e];refine⟨_,h.opened (stepT r 5 r.pl 0 false) rfl (by show(5:Int)≠8;decide) (r.pl+2) [33,123] (5,-1,(r.st.length:Int)) (take_two hc hb) (fun hk=>?_)⟩;exact .loop (stepT r 5 r.pl 0 false) hk hk.le (by omega) (snoc_at _ _) rfl rfl (.nil _)
end
section
variable {p : List UInt8} {r r' : RT} {m k : Nat} {ts : List (Nat × List UInt8)} {cur : List UInt8}
theorem Iv.end3(h:Iv p r m k ts cur)(hc:p[r.pl]?=some 125)(ht:r.top.1=3)(hr:r.bodyEnd p=(r',true)):∃cur',Iv p r' m k ts cur':=by
 unfold RT.bodyEnd at hr;rw[if_pos ht]at hr;obtain⟨hb,hr'⟩:=body_begin hr;obtain⟨pl,th,op,st⟩:=r;obtain⟨h1,h2,h3,h4,h5,h6⟩:=h;simp only at h1 h2 h3 h4 h5 h6 hc;generalize hn:st.length=n at h3;cases h3 with
 | base=>simp[RT.top]at ht
 | region=>simp[RT.top]at ht
 | second=>simp[RT.top]at ht
 | loop=>simp[RT.top]at ht
 | @first op _ m' _ v u s g0 g1 g2 g3 g4 g5 g6=>
  subst hn;obtain⟨jp,hjp⟩:∃jp,jp=stepT ⟨pl,th,op,st⟩ 8 pl 0 false:=⟨_,rfl⟩;have hl:(st++[jp]).length=st.length+1:=by simp
  obtain⟨G,hG⟩:∃G,G=elseL (st++[jp]) m' ((st.length+1:Nat):Int):=⟨_,rfl⟩;have hGl:G.length=st.length+1:=by rw[hG,else_len,hl]
  have e:r'=⟨pl+2,th,(4,-1,(st.length:Int))::op,G⟩:=by
   rw[hr',hG,hjp];simp[RT.els,RT.step,RT.pop,RT.top,else_len]
  subst e;have hfar:∀i,i<st.length→i≠m'→st[i]?=G[i]?:=fun i hi hne=>by rw[hG,←elseL_far hne];exact snoc_lt jp hi
  have hatm:G[m']?=some { s with el:=((st.length+1:Nat):Int) }:=by
   rw[hG,elseL_get,if_pos rfl,←snoc_lt jp g2,g3];rfl
  have hatn:G[st.length]?=some jp:=by rw[hG,←elseL_far (by omega)];exact snoc_at _ _
  refine⟨v++63::123::(u++125::123::[]),h1.congr (fun i hi=>hfar i (by omega) (by omega)),h2,?_,?_,?_,?_⟩
  ·show Stk G _ k G.length _;rw[hGl];exact .second _ jp (g0.congr (fun i _ hi=>hfar i (by omega) (by omega))) g1 g2 (Nat.lt_succ_self _) hatm g4 g5 rfl (g6.congr (Nat.le_refl _) (Nat.le_refl _) (fun i a b=>hfar i b (by omega))) hatn (by rw[hjp];rfl) (.nil _)
  ·intro i t hi hit;rw[hG]at hit;obtain⟨t0,y1,y2,_⟩:=elseL_old hit;rw[y2]
   by_cases hlt:i<st.length
   ·exact h4 i t0 hi (by rw[snoc_lt jp hlt];exact y1)
   ·rw[fld_one (x:=th) (by rw[hjp];rfl) i t0 (by omega) y1];exact h2
  ·show p.take (pl+2)=_;rw[take_two hc hb,h5];simp
  ·show JOk G;rw[hG];exact(h6.snoc jp (fun _=>by rw[hjp];show(st.length:Int)<(st.length:Int)+1;omega)).els _ _
theorem Iv.end4(h:Iv p r m k ts cur)(hc:p[r.pl]?=some 125)(ht:r.top.1=4)(hr:r.bodyEnd p=(r',true)):∃cur',Iv p r' m k ts cur':=by
 unfold RT.bodyEnd at hr;rw[if_neg (by omega),if_pos ht]at hr;simp only[Prod.mk.injEq,and_true]at hr;obtain⟨pl,th,op,st⟩:=r;obtain⟨h1,h2,h3,h4,h5,h6⟩:=h;simp only at h1 h2 h3 h4 h5 h6 hc;generalize hn:st.length=n at h3;cases h3 with
 | base=>simp[RT.top]at ht
 | region=>simp[RT.top]at ht
 | first=>simp[RT.top]at ht
 | loop=>simp[RT.top]at ht
 | @second op _ m' j _ v a b s t g0 g1 g2 g3 g4 g5 g6 g7 g8 g9 g10 g11=>
  subst hn;obtain⟨G,hG⟩:∃G,G=leadL st j ((st.length:Nat):Int):=⟨_,rfl⟩;have hGl:G.length=st.length:=by rw[hG,lead_len]
  have e:r'=⟨pl+1,th,op,G⟩:=by rw[←hr,hG];rfl
  subst e;have hfar:∀i,i≠j→st[i]?=G[i]?:=fun i hne=>by rw[hG];exact leadL_far hne
  have hatm:G[m']?=some s:=by rw[←hfar m' (by omega)];exact g4
  have hatj:G[j]?=some { t with nx:=((st.length:Nat):Int) }:=by rw[hG,leadL_get,if_pos rfl,g9];rfl
  have ha:Sg G m' st.length [] (m'+1) a st.length:=by
   have ha1:Sg G m' st.length [] (m'+1) a j:=g8.congr (by omega) (by omega) (fun i x y=>hfar i (by omega));have ha2:Sg G m' st.length [] j [] st.length:=.jump _ (by omega) g3 hatj g10 rfl (.nil _);simpa using ha1.cat0 ha2
  have hb:Sg G m' st.length [] (j+1) b st.length:=g11.congr (by omega) (by omega) (fun i x y=>hfar i (by omega));have hall:Sg G m' st.length [] m' (63::123::(a++125::123::(b++125::[]))) st.length:=.branch s (Nat.le_refl _) (by omega) hatm g5 g6 g7 ha hb (.nil _);refine⟨v++63::123::(a++125::123::(b++125::[])),h1.congr (fun i hi=>hfar i (by omega)),h2,?_,?_,?_,?_⟩
  ·show Stk G _ k G.length _;rw[hGl];exact(g0.congr (fun i _ hi=>hfar i (by omega))).more (by omega) hall
  ·intro i t hi hit;rw[hG]at hit;obtain⟨t0,y1,y2,_⟩:=leadL_old hit;rw[y2];exact h4 i t0 hi y1
  ·show p.take (pl+1)=_;rw[take_one hc,h5];simp
  ·show JOk G;rw[hG];exact h6.lead _ _ (.inl (by omega))
theorem Iv.end5(h:Iv p r m k ts cur)(hc:p[r.pl]?=some 125)(ht:r.top.1=5)(hr:r.bodyEnd p=(r',true)):∃cur',Iv p r' m k ts cur':=by
 unfold RT.bodyEnd at hr;rw[if_neg (by omega),if_neg (by omega),if_pos ht]at hr;simp only[Prod.mk.injEq,and_true]at hr;obtain⟨pl,th,op,st⟩:=r;obtain⟨h1,h2,h3,h4,h5,h6⟩:=h;simp only at h1 h2 h3 h4 h5 h6 hc;generalize hn:st.length=n at h3;cases h3 with
 | base=>simp[RT.top]at ht
 | region=>simp[RT.top]at ht
 | first=>simp[RT.top]at ht
 | second=>simp[RT.top]at ht
 | @loop op _ m' _ v u s g0 g1 g2 g3 g4 g5 g6=>
  subst hn;obtain⟨jp,hjp⟩:∃jp,jp=stepT ⟨pl,th,op,st⟩ 8 pl 0 false:=⟨_,rfl⟩;have hl:(st++[jp]).length=st.length+1:=by simp
  obtain⟨G,hG⟩:∃G,G=elseL (leadL (st++[jp]) st.length m') m' ((st.length+1:Nat):Int):=⟨_,rfl⟩;have hGl:G.length=st.length+1:=by rw[hG,else_len,lead_len,hl]
  have e:r'=⟨pl+1,th,op,G⟩:=by
   rw[←hr,hG,hjp];simp[RT.to,RT.els,RT.lead,RT.step,RT.pop,RT.top,lead_len]
  subst e;have hfar:∀i,i<st.length→i≠m'→st[i]?=G[i]?:=fun i hi hne=>by rw[hG,←elseL_far hne,←leadL_far (by omega)];exact snoc_lt jp hi
  have hatm:G[m']?=some { s with el:=((st.length+1:Nat):Int) }:=by
   rw[hG,elseL_get,if_pos rfl,←leadL_far (by omega),←snoc_lt jp g2,g3];rfl
  have hatn:G[st.length]?=some { jp with nx:=(m':Int) }:=by
   rw[hG,←elseL_far (by omega),leadL_get,if_pos rfl,snoc_at];rfl
  have hu:Sg G m' (st.length+1) [] (m'+1) u m':=by
   have h1':Sg G m' (st.length+1) [] (m'+1) u st.length:=g6.congr (by omega) (by omega) (fun i x y=>hfar i y (by omega));have h2':Sg G m' (st.length+1) [] st.length [] m':=.jump _ (by omega) (by omega) hatn (by rw[hjp];rfl) rfl (.nil _);simpa using h1'.cat0 h2'
  have hall:Sg G m' (st.length+1) [] m' (33::123::(u++125::[])) (st.length+1):=.loop _ (Nat.le_refl _) (by omega) hatm g4 g5 rfl hu (.nil _);refine⟨v++33::123::(u++125::[]),h1.congr (fun i hi=>hfar i (by omega) (by omega)),h2,?_,?_,?_,?_⟩
  ·show Stk G _ k G.length _;rw[hGl];exact(g0.congr (fun i _ hi=>hfar i (by omega) (by omega))).more (by omega) hall
  ·intro i t hi hit;rw[hG]at hit;obtain⟨t0,y1,y2,_⟩:=elseL_old hit;obtain⟨t1,z1,z2,_⟩:=leadL_old y1;rw[y2,z2]
   by_cases hlt:i<st.length
   ·exact h4 i t1 hi (by rw[snoc_lt jp hlt];exact z1)
   ·rw[fld_one (x:=th) (by rw[hjp];rfl) i t1 (by omega) z1];exact h2
  ·show p.take (pl+1)=_;rw[take_one hc,h5];simp
  ·show JOk G;rw[hG];refine JOk.els (JOk.lead (h6.snoc jp (fun _=>by rw[hjp];show(st.length:Int)<(st.length:Int)+1;omega)) _ _ (.inr ⟨m',s,rfl,?_,g4⟩)) _ _;rw[←snoc_lt jp g2];exact g3
theorem joinB_snoc(ts:List (Nat×List UInt8))(k:Nat)(u:List UInt8):joinB (ts++[(k,u)])=joinB ts++u++[124]:=by simp[joinB]
theorem Iv.closed(h:Iv p r m k ts cur)(ho:r.op=[]):Thr (r.step 9 r.pl 0 false).st (m+1) (r.st.length+1) (ts++[(k,cur)])∧JOk (r.step 9 r.pl 0 false).st:=by
 obtain⟨h1,h2,h3,h4,h5,h6⟩:=h;rw[ho]at h3;cases h3 with
 | base g1 g2=>
  obtain⟨e,he⟩:∃e,e=stepT r 9 r.pl 0 false:=⟨_,rfl⟩;have hst:(r.step 9 r.pl 0 false).st=r.st++[e]:=by rw[he];rfl
  rw[hst];refine⟨.snoc e (h1.congr (fun i hi=>snoc_lt e (by omega))) g1 (g2.congr (Nat.le_refl _) (Nat.le_refl _) (fun i _ hi=>snoc_lt e hi)) (snoc_at _ _) (by rw[he];rfl) ?_,h6.snoc e (fun x=>absurd x (by rw[he];show(9:Int)≠8;decide))⟩;intro i t a b hit
  by_cases hlt:i<r.st.length
  ·exact h4 i t a (by rw[snoc_lt e hlt];exact hit)
  ·rw[fld_one (x:=r.th) (by rw[he];rfl) i t (by omega) hit];exact h2
theorem Iv.nextThread(h:Iv p r m k ts cur)(hc:p[r.pl]?=some 124)(hr:r.nextThread=(r',true)):∃k' cur',Iv p r' (m+1) k' (ts++[(k,cur)]) cur':=by
 unfold RT.nextThread at hr
 split at hr
 ·cases hr
 ·rename_i hn;simp only[not_or,ne_eq,Decidable.not_not]at hn;simp only[Prod.mk.injEq,and_true]at hr;subst hr;obtain⟨c1,c2⟩:=h.closed hn.1;have hl:(r.step 9 r.pl 0 false).st.length=r.st.length+1:=by simp[RT.step]
  refine⟨r.st.length+1,[],c1,by show r.th+1=_;rw[h.th];simp,?_,?_,?_,c2⟩
  ·show Stk _ r.op _ _ _;rw[hn.1,hl];exact .base (Nat.le_refl _) (.nil _)
  ·intro i t hi hit;have:=(List.getElem?_eq_some_iff.1 hit).1;rw[hl]at this;omega
  ·show p.take (r.pl+1)=_;rw[take_one hc,h.txt,joinB_snoc];simp
theorem Iv.piece(h:Iv p r m k ts cur)(hlt:r.pl<p.length)(hr:r.piece p=(r',true)):∃m' k' ts' cur',Iv p r' m' k' ts' cur':=by
 have hc:=List.getElem?_eq_getElem hlt;obtain⟨c,hcc⟩:∃c,p[r.pl]=c:=⟨_,rfl⟩;rw[hcc]at hc;clear hcc;unfold RT.piece at hr;rw[hc]at hr;simp only at hr
 split at hr
 ·obtain⟨cur',h'⟩:=h.access hr;exact⟨_,_,_,_,h'⟩
 split at hr
 ·rename_i e;subst e;obtain⟨cur',h'⟩:=h.addition hc hr;exact⟨_,_,_,_,h'⟩
 split at hr
 ·rename_i e;subst e;simp only[Prod.mk.injEq,and_true]at hr;subst hr;obtain⟨cur',h'⟩:=h.print hc;exact⟨_,_,_,_,h'⟩
 split at hr
 ·rename_i e;subst e;obtain⟨cur',h'⟩:=h.regionBegin hc hr;exact⟨_,_,_,_,h'⟩
 split at hr
 ·rename_i e;subst e;obtain⟨cur',h'⟩:=h.regionEnd hc hr;exact⟨_,_,_,_,h'⟩
 split at hr
 ·rename_i e;subst e;obtain⟨cur',h'⟩:=h.mended hc hr;exact⟨_,_,_,_,h'⟩
 split at hr
 ·rename_i e;subst e;obtain⟨cur',h'⟩:=h.test3 hc hr;exact⟨_,_,_,_,h'⟩
 split at hr
 ·rename_i e;subst e;obtain⟨cur',h'⟩:=h.test5 hc hr;exact⟨_,_,_,_,h'⟩
 split at hr
 ·rename_i e;subst e
  by_cases h3:r.top.1=3
  ·obtain⟨cur',h'⟩:=h.end3 hc h3 hr;exact⟨_,_,_,_,h'⟩
  by_cases h4:r.top.1=4
  ·obtain⟨cur',h'⟩:=h.end4 hc h4 hr;exact⟨_,_,_,_,h'⟩
  by_cases h5:r.top.1=5
  ·obtain⟨cur',h'⟩:=h.end5 hc h5 hr;exact⟨_,_,_,_,h'⟩
  unfold RT.bodyEnd at hr;rw[if_neg h3,if_neg h4,if_neg h5]at hr;cases hr
 split at hr
 ·rename_i e;subst e;obtain⟨k',cur',h'⟩:=h.nextThread hc hr;exact⟨_,_,_,_,h'⟩
 ·cases hr
end
theorem ReachT.iv{p:List UInt8}{r:RT}(h:ReachT p r):∃m k ts cur,Iv p r m k ts cur:=by
 induction h with
 | start=>exact⟨0,0,[],[],.nil,by simp[RT.start],.base (Nat.le_refl _) (.nil _),by simp[RT.start],by simp[RT.start,joinB],by intro i s hs;simp[RT.start]at hs⟩
 | step h hl he ih=>
  obtain⟨m,k,ts,cur,hi⟩:=ih;exact hi.piece hl he
theorem Thr.split{F:List ST}{m k:Nat}{ts:List (Nat×List UInt8)}(h:Thr F m k ts)(s:List UInt8):splitBar (joinB ts++s)=ts.map (·.2)++splitBar s:=by
 induction h generalizing s with
 | nil=>simp[joinB]
 | snoc e h0 h1 h2 _ _ _ ih=>
  rw[joinB_snoc,List.append_assoc,List.append_assoc,ih];simp only[List.cons_append,List.nil_append];rw[split_bar h2.no];simp
theorem StepsOf.threads{p:List UInt8}{F:List ST}(h:StepsOf p F):∃ts:List (Nat×List UInt8),Thr F ts.length F.length ts∧splitBar p=ts.map (·.2)∧JOk F:=by
 obtain⟨r,hr,he,ho,rfl⟩:=h;obtain⟨m,k,ts,cur,hi⟩:=hr.iv;obtain⟨c1,c2⟩:=hi.closed ho;have hl:(r.step 9 r.pl 0 false).st.length=r.st.length+1:=by simp[RT.step]
 have hm:ts.length=m:=by
  have:∀{F:List ST} {m k:Nat} {ts:List (Nat×List UInt8)},Thr F m k ts→ts.length=m:=fun h=>by
   induction h with
   | nil=>rfl
   | snoc _ _ _ _ _ _ _ ih=>simp[ih]
  exact this hi.thr
 refine⟨ts++[(k,cur)],?_,?_,c2⟩
 ·rw[hl,List.length_append,List.length_singleton,hm];exact c1
 ·have ht:=hi.txt;rw[he,List.take_length]at ht;have hno:124∉cur:=by
   have:=hi.stk;rw[ho]at this;cases this with
   | base _ g=>exact g.no
  rw[ht,hi.thr.split,split_none hno];simp
end Go.Proofs.YtdgkpkdinfklaabGreat
