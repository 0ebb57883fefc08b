import Derived.Test.YtdgkpkdinfklaabGreatGS
import Derived.Test.YtdgkpkdinfklaabGreatGI
namespace Go.Proofs.YtdgkpkdinfklaabGreat
def HoldR(held:List (List UInt8))(x:Int)(l:UInt8):Prop:=(x=0∧∀h∈held,inU h l=false)∨(∃(i:Nat) (h:List UInt8),held[i]?=some h∧x=(i:Int)+1∧inU h l=true∧∀(i':Nat) (h':List UInt8),held[i']?=some h'→i'≠i→inU h' l=false)
theorem HoldR.holder{held:List (List UInt8)}{x:Int}{l:UInt8}(h:HoldR held x l):holderP held l=x-1:=by
 unfold holderP;rcases h with⟨rfl,h⟩|⟨i,a,hi,rfl,ha,ho⟩
 ·have:held.findIdx? (fun h=>inU h l)=none:=List.findIdx?_eq_none_iff.2 (fun x hx=>h x hx);rw[this];rfl
 ·obtain⟨hlt,rfl⟩:=List.getElem?_eq_some_iff.1 hi;have:held.findIdx? (fun h=>inU h l)=some i:=by
   rw[List.findIdx?_eq_some_iff_getElem];refine⟨hlt,ha,fun j hj=>?_⟩;have:=ho j held[j] (List.getElem?_eq_getElem (by omega)) (by omega);simp[this]
  rw[this];simp
theorem HoldR.other{held:List (List UInt8)}{x:Int}{l:UInt8}(h:HoldR held x l){t:Nat}{a b:List UInt8}(ht:held[t]?=some a)(he:inU b l=inU a l):HoldR (held.set t b) x l:=by
 obtain⟨hlt,rfl⟩:=List.getElem?_eq_some_iff.1 ht;rcases h with⟨rfl,h⟩|⟨i,c,hi,rfl,hc,ho⟩
 ·left;refine⟨rfl,fun y hy=>?_⟩;rcases List.mem_or_eq_of_mem_set hy with h1|rfl
  ·exact h y h1
  ·rw[he];exact h _ (List.getElem_mem hlt)
 ·right
  by_cases hit:t=i
  ·subst hit;rw[List.getElem?_eq_getElem hlt]at hi;have e:=Option.some.inj hi;refine⟨t,b,List.getElem?_set_self hlt,rfl,by rw[he,e];exact hc,fun i' h' hi' hne=>?_⟩;rw[List.getElem?_set_ne (fun e=>hne e.symm)]at hi';exact ho i' h' hi' hne
  ·refine⟨i,c,by rw[List.getElem?_set_ne hit];exact hi,rfl,hc,fun i' h' hi' hne=>?_⟩
   by_cases h2:t=i'
   ·subst h2;rw[List.getElem?_set_self hlt]at hi';rw[←Option.some.inj hi',he];exact ho t _ (List.getElem?_eq_getElem hlt) hne
   ·rw[List.getElem?_set_ne h2]at hi';exact ho i' h' hi' hne
theorem HoldR.took{held:List (List UInt8)}{l:UInt8}(h:HoldR held 0 l){t:Nat}{a b:List UInt8}(ht:held[t]?=some a)(hb:inU b l=true):HoldR (held.set t b) ((t:Int)+1) l:=by
 obtain⟨hlt,rfl⟩:=List.getElem?_eq_some_iff.1 ht;rcases h with⟨_,h⟩|⟨i,c,hi,e,_⟩
 ·right;refine⟨t,b,List.getElem?_set_self hlt,rfl,hb,fun i' h' hi' hne=>?_⟩;rw[List.getElem?_set_ne (fun e=>hne e.symm)]at hi';exact h h' (List.mem_of_getElem? hi')
 ·omega
theorem HoldR.gave{held:List (List UInt8)}{x:Int}{l:UInt8}(h:HoldR held x l){t:Nat}{a b:List UInt8}(ht:held[t]?=some a)(ha:inU a l=true)(hb:inU b l=false):HoldR (held.set t b) 0 l:=by
 obtain⟨hlt,rfl⟩:=List.getElem?_eq_some_iff.1 ht;rcases h with⟨_,h⟩|⟨i,c,hi,_,hc,ho⟩
 ·have:=h _ (List.getElem_mem hlt);rw[ha]at this;cases this
 ·left;have hit:t=i:=by
   apply Decidable.byContradiction;intro hne;have:=ho t _ (List.getElem?_eq_getElem hlt) hne;rw[ha]at this;cases this
  subst hit;refine⟨rfl,fun y hy=>?_⟩;obtain⟨j,hj⟩:=List.mem_iff_getElem?.1 hy
  by_cases hjt:t=j
  ·subst hjt;rw[List.getElem?_set_self hlt]at hj;rw[←Option.some.inj hj];exact hb
  ·rw[List.getElem?_set_ne hjt]at hj;exact ho j y hj (fun e=>hjt e.symm)
theorem Bal.blk0{a:List UInt8}(h:Bal a)(r:List UInt8):blkG 0 (a++125::r)=(a,r):=by rw[h,blk_end];simp
theorem testP_loopB{a:List UInt8}(h:Bal a)(r:List UInt8)(yes:Bool):testP (33::123::(a++125::r)) yes=if yes then a++33::123::(a++125::r)else r:=by
 unfold testP;simp only[List.drop_succ_cons,List.drop_zero,List.headD_cons];rw[h.blk0];simp
theorem testP_branchB{a b:List UInt8}(h:Bal a)(k:Bal b)(r:List UInt8)(yes:Bool):testP (63::123::(a++125::123::(b++125::r))) yes=(if yes then a else b)++r:=by
 unfold testP;simp only[List.drop_succ_cons,List.drop_zero,List.headD_cons];rw[h.blk0];simp only[List.drop_succ_cons,List.drop_zero];rw[k.blk0];simp
structure SimT(F:List ST)(P:PS)(i:Nat)(t:TH)(K s:List UInt8):Prop where
 nx:∃m:Nat,t.next=m∧Lf F K m s
 todo:P.todo[i]?=some s
 held:P.held[i]?=some K.reverse
 reg:P.regs[i]?=some t.reg
 td:TD [] K s
 nd:K.Nodup
 ks:∀l∈K,inU [65,66,67,68,69] l=true
 nm:t.name=(i:Int)+1
structure Alike(F:List ST)(P:PS)(ths:List TH)(c:CS):Prop where
 len:P.todo.length=ths.length
 lenh:P.held.length=ths.length
 lenr:P.regs.length=ths.length
 th:∀(i:Nat) (t:TH),ths[i]?=some t→∃K s,SimT F P i t K s
 gl:P.gl=c.gl.map (·.val)
 gl3:c.gl.length=3
 lk5:c.lk.length=5
 pr:P.pr=c.pr
 hold:∀j:Nat,j<5→HoldR P.held (c.lk.getD j lk0).holder (UInt8.ofNat (65+j))
theorem Alike.upd{F:List ST}{P Q:PS}{ths:List TH}{c c':CS}{i:Nat}{t t':TH}{s' K':List UInt8}(h:Alike F P ths c)(hi:ths[i]?=some t)(e1:Q.todo=P.todo.set i s')(e2:Q.held=P.held.set i K'.reverse)(e3:Q.regs=P.regs.set i t'.reg)(e4:t'.name=t.name)(e5:∃m:Nat,t'.next=m∧Lf F K' m s')(e6:TD [] K' s')(e7:K'.Nodup)(e8:∀l∈K',inU [65,66,67,68,69] l=true)
  (e9:Q.gl=c'.gl.map (·.val))(e10:c'.gl.length=3)(e11:c'.lk.length=5)(e12:Q.pr=c'.pr)(e13:∀j:Nat,j<5→HoldR Q.held (c'.lk.getD j lk0).holder (UInt8.ofNat (65+j))):Alike F Q (ths.set i t') c':=by
 have hlt:=(List.getElem?_eq_some_iff.1 hi).1;obtain⟨K,s,st⟩:=h.th i t hi;refine⟨by rw[e1];simpa using h.len,by rw[e2];simpa using h.lenh,by rw[e3];simpa using h.lenr,?_,e9,e10,e11,e12,e13⟩;intro j u hj
 by_cases hij:i=j
 ·subst hij;rw[List.getElem?_set_self hlt]at hj;have:=Option.some.inj hj;subst this;exact⟨K',s',e5,by rw[e1,List.getElem?_set_self (by rw[h.len];exact hlt)],by rw[e2,List.getElem?_set_self (by rw[h.lenh];exact hlt)],by rw[e3,List.getElem?_set_self (by rw[h.lenr];exact hlt)],e6,e7,e8,by rw[e4];exact st.nm⟩
 ·rw[List.getElem?_set_ne hij]at hj;obtain⟨K2,s2,g⟩:=h.th j u hj;exact⟨K2,s2,g.nx,by rw[e1,List.getElem?_set_ne hij];exact g.todo,by rw[e2,List.getElem?_set_ne hij];exact g.held,by rw[e3,List.getElem?_set_ne hij];exact g.reg,g.td,g.nd,g.ks,g.nm⟩
theorem inU_reverse(K:List UInt8)(l:UInt8):inU K.reverse l=inU K l:=by simp[inU]
theorem gl_at{P:PS}{c:CS}(h:P.gl=c.gl.map (·.val)){n:Nat}(hn:n<c.gl.length):P.gl.getD n 0=(c.g n).val:=by
 rw[h];show(c.gl.map (·.val)).getD n 0=(c.gl.getD n gb0).val;rw[List.getD_eq_getElem?_getD,List.getD_eq_getElem?_getD,List.getElem?_map,List.getElem?_eq_getElem hn];rfl
theorem map_set_val(gl:List GB)(n:Nat)(g:GB):(gl.set n g).map (·.val)=(gl.map (·.val)).set n g.val:=by rw[List.map_set]
theorem set_same_val{gl:List GB}{n:Nat}{g:GB}(hn:n<gl.length)(hg:g.val=(gl.getD n gb0).val):(gl.set n g).map (·.val)=gl.map (·.val):=by
 rw[map_set_val,hg,List.getD_eq_getElem?_getD,List.getElem?_eq_getElem hn];exact set_same (by rw[List.getElem?_map,List.getElem?_eq_getElem hn];rfl)
def Both(F:List ST)(P:PS)(ths:List TH)(c:CS)(n:Int)(x:UInt8):Prop:=(P.pick n x).2=(pickM F ths c x).2.2∧Alike F (P.pick n x).1 (pickM F ths c x).1 (pickM F ths c x).2.1
theorem Alike.st{F:List ST}{P:PS}{ths:List TH}{c:CS}(h:Alike F P ths c)(l:List Did):Alike F { P with st:=l } ths c:=
 ⟨h.len,h.lenh,h.lenr,fun i t hi=>by obtain⟨K,s,g⟩:=h.th i t hi;exact⟨K,s,g.nx,g.todo,g.held,g.reg,g.td,g.nd,g.ks,g.nm⟩,h.gl,h.gl3,h.lk5,h.pr,h.hold⟩
theorem Alike.pick{F:List ST}{P:PS}{ths:List TH}{c:CS}(hj:JOk F)(hl:LastEnd F)(h:Alike F P ths c)(n:Int)(x:UInt8):Both F P ths c n x:=by
 unfold Both
 by_cases hneg:(x.toNat:Int)-49<0
 ·have e1:P.pick n x=(P,46):=by unfold PS.pick;simp only;rw[if_pos (.inl hneg)]
  have e2:pickM F ths c x=(ths,c,46):=by unfold pickM;rw[if_pos hneg]
  rw[e1,e2];exact⟨rfl,h⟩
 ·obtain⟨i,hi⟩:∃i:Nat,(x.toNat:Int)-49=i:=Int.eq_ofNat_of_zero_le (by omega);have hxi:x.toNat-49=i:=by omega
  cases ht:ths[i]? with
  | none=>
   have hle:=List.getElem?_eq_none_iff.1 ht;have e1:P.pick n x=(P,46):=by unfold PS.pick;simp only;rw[if_pos (.inr (.inl (by rw[hi,h.len];omega)))]
   have e2:pickM F ths c x=(ths,c,46):=by unfold pickM;rw[if_neg hneg,hxi,ht]
   rw[e1,e2];exact⟨rfl,h⟩
  | some t=>
   have hlt:=(List.getElem?_eq_some_iff.1 ht).1;obtain⟨K,s,g⟩:=h.th i t ht;obtain⟨m,g1,g2⟩:=g.nx;have hx:=g2.next hj hl;rw[←g1]at hx;obtain⟨u,hu⟩:∃u,u=upc F t.next:=⟨_,rfl⟩;rw[←hu]at hx;obtain⟨kn,hkn⟩:∃kn,kn=t.kn.set t.ix (t.kn.get t.ix+1):=⟨_,rfl⟩;have hpm:pickM F ths c x=if u.kind=9∨awaitedM c.lk u≠0 then(ths,c,46)else(ths.set i (c.does { t with next:=u.nx,kn:=kn } u).2.1,(c.does { t with next:=u.nx,kn:=kn } u).1,(c.does { t with next:=u.nx,kn:=kn } u).2.2):=by
    unfold pickM;rw[if_neg hneg,hxi,ht];simp only;rw[←hu,←hkn]
   have htd:P.todo.getD i []=s:=by rw[List.getD_eq_getElem?_getD,g.todo];rfl
   have hpp:P.pick n x=if s=[]then(P,46)else if 0≤waitsL P.held s then(P,46)else({ (P.does i).1 with st:=(P.does i).1.st++[⟨n,(i:Int),(P.does i).2.1,(P.does i).2.2⟩] },(P.does i).2.1):=by
    unfold PS.pick PS.waits;simp only;rw[hi,Int.toNat_natCast,htd]
    by_cases h0:s=[]
    ·rw[if_pos (.inr (.inr h0)),if_pos h0]
    ·rw[if_neg (by rw[h.len];rintro(h1|h1|h1);omega;omega;exact h0 h1),if_neg h0]
   have at':At P i s K.reverse t.reg:=⟨g.todo,g.held,g.reg⟩;have aw:u.kind≠6→awaitedM c.lk u=0:=fun h6=>if_neg (fun e=>h6 e.1)
   have sameH:P.held.set i K.reverse=P.held:=set_same g.held;have sameR:P.regs.set i t.reg=P.regs:=set_same g.reg;have noW:∀{c0:UInt8} {r:List UInt8},s=c0::r→c0≠91→c0≠60→¬(0≤waitsL P.held s):=fun e h1 h2=>by
    rw[e];unfold waitsL
    split
    ·rename_i c1 l1 r1 e1;injection e1 with e1 _;subst e1;rw[if_neg (by rintro(h3|h3);exact h1 h3;exact h2 h3)]
     decide
    ·decide
   cases hx with
   | fin h9=>
    rw[hpm,if_pos (.inl h9),hpp,if_pos rfl];exact⟨rfl,h⟩
   | get v k' hk hv hn' hq hr=>
    have hv':=glob_range hv;have hnn:u.num.toNat<c.gl.length:=by rw[h.gl3];omega
    have hd:c.does { t with next:=u.nx,kn:=kn } u=({ c with gl:=c.gl.set u.num.toNat (noteG (c.g u.num.toNat) { t with next:=u.nx,kn:=kn }),raced:=c.raced||kn.misses (c.g u.num.toNat).puts },{ t with next:=u.nx,kn:=kn,reg:=(c.g u.num.toNat).val },103):=by unfold CS.does;rw[if_pos hk]
    rw[hpm,if_neg (by rw[not_or];exact⟨by omega,by simp[aw (by omega)]⟩),hd,hpp,if_neg (by simp),if_neg (noW rfl (by decide) (by decide)),doesP_get at'];refine⟨rfl,(h.upd (Q:={ P with todo:=P.todo.set i _,regs:=P.regs.set i (P.gl.getD (v.toNat-120) 0) }) (t':={ t with next:=u.nx,kn:=kn,reg:=(c.g u.num.toNat).val }) (c':={ c with gl:=c.gl.set u.num.toNat (noteG (c.g u.num.toNat) { t with next:=u.nx,kn:=kn }),raced:=c.raced||kn.misses (c.g u.num.toNat).puts }) ht rfl sameH.symm ?_ rfl ⟨k',hq,hr⟩ (g.td.get_inv (.inl rfl)) g.nd g.ks ?_ (by simpa using h.gl3) h.lk5 h.pr h.hold).st _⟩
    ·show P.regs.set i (P.gl.getD (v.toNat-120) 0)=P.regs.set i (c.g u.num.toNat).val;rw[show v.toNat-120=u.num.toNat by omega,gl_at h.gl hnn]
    ·show P.gl=(c.gl.set u.num.toNat (noteG (c.g u.num.toNat) { t with next:=u.nx,kn:=kn })).map (·.val);exact h.gl.trans (set_same_val (g:=noteG (c.g u.num.toNat) { t with next:=u.nx,kn:=kn }) hnn rfl).symm
   | put v k' hk hv hn' hq hr=>
    have hv':=glob_range hv;have hnn:u.num.toNat<c.gl.length:=by rw[h.gl3];omega
    have hd:c.does { t with next:=u.nx,kn:=kn } u=({ c with gl:=c.gl.set u.num.toNat (noteP (c.g u.num.toNat) { t with next:=u.nx,kn:=kn }),raced:=(c.raced||kn.misses (c.g u.num.toNat).puts)||kn.misses (c.g u.num.toNat).gets },{ t with next:=u.nx,kn:=kn },112):=by unfold CS.does;rw[if_neg (by omega),if_pos hk]
    rw[hpm,if_neg (by rw[not_or];exact⟨by omega,by simp[aw (by omega)]⟩),hd,hpp,if_neg (by simp),if_neg (noW rfl (by decide) (by decide)),doesP_put at'];refine⟨rfl,(h.upd (Q:={ P with todo:=P.todo.set i _,gl:=P.gl.set (v.toNat-120) t.reg }) (t':={ t with next:=u.nx,kn:=kn }) (c':={ c with gl:=c.gl.set u.num.toNat (noteP (c.g u.num.toNat) { t with next:=u.nx,kn:=kn }),raced:=(c.raced||kn.misses (c.g u.num.toNat).puts)||kn.misses (c.g u.num.toNat).gets }) ht rfl sameH.symm sameR.symm rfl ⟨k',hq,hr⟩ (g.td.get_inv (.inr (.inl rfl))) g.nd g.ks ?_ (by simpa using h.gl3) h.lk5 h.pr h.hold).st _⟩;show P.gl.set (v.toNat-120) t.reg=(c.gl.set u.num.toNat (noteP (c.g u.num.toNat) { t with next:=u.nx,kn:=kn })).map (·.val);rw[map_set_val,h.gl,show v.toNat-120=u.num.toNat by omega];rfl
   | add d k' hk hv hn' hq hr=>
    have hv':=digit_range hv;have hd:c.does { t with next:=u.nx,kn:=kn } u=(c,TH.add { t with next:=u.nx,kn:=kn } u.num,105):=by unfold CS.does;rw[if_neg (by omega),if_neg (by omega),if_pos hk]
    rw[hpm,if_neg (by rw[not_or];exact⟨by omega,by simp[aw (by omega)]⟩),hd,hpp,if_neg (by simp),if_neg (noW rfl (by decide) (by decide)),doesP_add at'];refine⟨rfl,(h.upd (Q:={ P with todo:=P.todo.set i _,regs:=P.regs.set i (addP t.reg (d.toNat-48)) }) (t':=TH.add { t with next:=u.nx,kn:=kn } u.num) ht rfl sameH.symm ?_ rfl ⟨k',hq,hr⟩ (g.td.get_inv (.inr (.inr rfl))) g.nd g.ks h.gl h.gl3 h.lk5 h.pr h.hold).st _⟩;show P.regs.set i (addP t.reg (d.toNat-48))=P.regs.set i (addP t.reg u.num);rw[hn']
   | out k' hk hq hr=>
    have hd:c.does { t with next:=u.nx,kn:=kn } u=({ c with pr:=c.pr++[UInt8.ofNat (48+t.reg.toNat)] },{ t with next:=u.nx,kn:=kn },111):=by unfold CS.does;rw[if_neg (by omega),if_neg (by omega),if_neg (by omega),if_pos hk]
    rw[hpm,if_neg (by rw[not_or];exact⟨by omega,by simp[aw (by omega)]⟩),hd,hpp,if_neg (by simp),if_neg (noW rfl (by decide) (by decide)),doesP_out at'];refine⟨rfl,(h.upd (Q:={ P with todo:=P.todo.set i _,pr:=P.pr++[UInt8.ofNat (48+t.reg.toNat)] }) (t':={ t with next:=u.nx,kn:=kn }) (c':={ c with pr:=c.pr++[UInt8.ofNat (48+t.reg.toNat)] }) ht rfl sameH.symm sameR.symm rfl ⟨k',hq,hr⟩ g.td.out_inv g.nd g.ks h.gl h.gl3 h.lk5 ?_ h.hold).st _⟩;show P.pr++_=c.pr++_;rw[h.pr]
   | @take _ r cc l k' hk hc hv hn' hq hr=>
    obtain⟨n0,n5,en,en2,el⟩:=lock_no hv hn';have hti:=g.td.take_inv (by rcases hc with⟨rfl,_⟩|⟨rfl,_⟩<;>simp);have hho:=h.hold n0 n5;rw[←el]at hho;have hnn:n0<c.lk.length:=by rw[h.lk5];exact n5
    have haw:awaitedM c.lk u=(c.lk.getD n0 lk0).holder:=by
     unfold awaitedM;rw[if_pos ⟨hk,by omega,by omega⟩,en2]
    have hwl:waitsL P.held (cc::l::r)=(c.lk.getD n0 lk0).holder-1:=by
     show(if cc=91∨cc=60 then holderP P.held l else -1)=_;rw[if_pos (by rcases hc with⟨rfl,_⟩|⟨rfl,_⟩<;>simp),hho.holder]
    have hge:0≤(c.lk.getD n0 lk0).holder:=by
     rcases hho with⟨e,_⟩|⟨_,_,_,e,_⟩<;>omega
    by_cases h0:(c.lk.getD n0 lk0).holder=0
    ·rw[hpm,if_neg (by rw[not_or,haw];exact⟨by omega,fun e=>e h0⟩),hpp,if_neg (by simp),if_neg (by rw[hwl,h0];decide)];have hd:c.does { t with next:=u.nx,kn:=kn } u=({ c with lk:=c.lk.set n0 { c.l n0 with holder:=t.name } },{ t with next:=u.nx,kn:=kn.learn (c.l n0).kn },if u.mend then 60 else 91):=by
      unfold CS.does;rw[if_neg (by omega),if_neg (by omega),if_neg (by omega),if_neg (by omega),if_neg (by omega),if_pos hk,en2]
     have hdP:P.does i=({ P with todo:=P.todo.set i r,held:=P.held.set i (K.reverse++[l]) },if u.mend then 60 else 91,l):=by
      rcases hc with⟨rfl,hm⟩|⟨rfl,hm⟩
      ·rw[doesP_opens at',hm];rfl
      ·rw[doesP_mended at',hm];rfl
     rw[hd,hdP];refine⟨rfl,(h.upd (Q:={ P with todo:=P.todo.set i r,held:=P.held.set i (K.reverse++[l]) }) (t':={ t with next:=u.nx,kn:=kn.learn (c.l n0).kn }) (c':={ c with lk:=c.lk.set n0 { c.l n0 with holder:=t.name } }) (K':=l::K) ht rfl (by rw[List.reverse_cons]) sameR.symm rfl ⟨k',hq,hr⟩ hti.2 ?_ ?_ h.gl h.gl3 (by simpa using h.lk5) h.pr ?_).st _⟩
     ·refine List.nodup_cons.2 ⟨fun e=>?_,g.nd⟩;have:=inU_mem.2 e;rw[hti.1]at this;cases this
     ·intro z hz;rcases List.mem_cons.1 hz with rfl|hz
      ·exact hv
      ·exact g.ks z hz
     ·intro j hj5;show HoldR (P.held.set i (K.reverse++[l])) ((c.lk.set n0 { c.l n0 with holder:=t.name }).getD j lk0).holder _
      by_cases hjn:n0=j
      ·subst hjn;rw[h0]at hho;rw[List.getD_eq_getElem?_getD,List.getElem?_set_self hnn,←el];show HoldR _ t.name l;rw[g.nm];exact hho.took g.held (by rw[inU_append];simp[inU])
      ·rw[List.getD_eq_getElem?_getD,List.getElem?_set_ne hjn,←List.getD_eq_getElem?_getD];refine(h.hold j hj5).other g.held ?_;have hne:(l==UInt8.ofNat (65+j))=false:=by
        rw[beq_eq_false_iff_ne,el];exact fun e=>hjn (ofNat_inj5 n5 hj5 e)
       have h1:inU [l] (UInt8.ofNat (65+j))=false:=by rw[inU_cons,hne];rfl
       rw[inU_append,h1,Bool.or_false]
    ·rw[hpm,if_pos (.inr (by rw[haw];exact h0)),hpp,if_neg (by simp),if_pos (by rw[hwl];omega)];exact⟨rfl,h⟩
   | @give K' r cc l k' hk hc hn' hq hr=>
    have hv:=g.ks l (by simp);obtain⟨n0,n5,en,en2,el⟩:=lock_no hv hn';have hnn:n0<c.lk.length:=by rw[h.lk5];exact n5
    have hnd:=List.nodup_cons.1 g.nd;have hd:c.does { t with next:=u.nx,kn:=kn } u=({ c with lk:=c.lk.set n0 ⟨0,kn⟩ },{ t with next:=u.nx,kn:=kn },if u.mend then 62 else 93):=by unfold CS.does;rw[if_neg (by omega),if_neg (by omega),if_neg (by omega),if_neg (by omega),if_neg (by omega),if_neg (by omega),if_pos hk,en2]
    have at2:At P i (cc::r) (K'.reverse++[l]) t.reg:=by rw[←List.reverse_cons];exact at'
    have hdP:P.does i=({ P with todo:=P.todo.set i r,held:=P.held.set i K'.reverse },if u.mend then 62 else 93,l):=by
     rcases hc with⟨rfl,hm⟩|⟨rfl,hm⟩
     ·rw[doesP_shut at2,hm];rfl
     ·rw[doesP_mend at2,hm];rfl
    rw[hpm,if_neg (by rw[not_or];exact⟨by omega,by simp[aw (by omega)]⟩),hd,hpp,if_neg (by simp),if_neg (noW rfl (by rcases hc with⟨rfl,_⟩|⟨rfl,_⟩<;>decide) (by rcases hc with⟨rfl,_⟩|⟨rfl,_⟩<;>decide)),hdP];refine⟨rfl,(h.upd (Q:={ P with todo:=P.todo.set i r,held:=P.held.set i K'.reverse }) (t':={ t with next:=u.nx,kn:=kn }) (c':={ c with lk:=c.lk.set n0 ⟨0,kn⟩ }) (K':=K') ht rfl rfl sameR.symm rfl ⟨k',hq,hr⟩ (g.td.give_inv (by rcases hc with⟨rfl,_⟩|⟨rfl,_⟩<;>simp)) hnd.2 (fun z hz=>g.ks z (List.mem_cons_of_mem _ hz)) h.gl h.gl3 (by simpa using h.lk5) h.pr ?_).st _⟩;intro j hj5;show HoldR (P.held.set i K'.reverse) ((c.lk.set n0 ⟨0,kn⟩).getD j lk0).holder _
    by_cases hjn:n0=j
    ·subst hjn;rw[List.getD_eq_getElem?_getD,List.getElem?_set_self hnn];refine(h.hold n0 hj5).gave g.held ?_ ?_
     ·rw[inU_reverse,←el,inU_cons];simp
     ·rw[inU_reverse,←el];cases hi2:inU K' l with
      | false=>rfl
      | true=>exact absurd (inU_mem.1 hi2) hnd.1
    ·rw[List.getD_eq_getElem?_getD,List.getElem?_set_ne hjn,←List.getD_eq_getElem?_getD];refine(h.hold j hj5).other g.held ?_;have hne:(l==UInt8.ofNat (65+j))=false:=by
      rw[beq_eq_false_iff_ne,el];exact fun e=>hjn (ofNat_inj5 n5 hj5 e)
     rw[inU_reverse,inU_reverse,inU_cons,hne,Bool.false_or]
   | @branch _ a b r k' e hk hq he ha hb hr hr2=>
    have hti:=g.td.branch_inv ha hb;have hd:c.does { t with next:=u.nx,kn:=kn } u=(c,TH.test { t with next:=u.nx,kn:=kn } u.el,TH.tested { t with next:=u.nx,kn:=kn }):=by unfold CS.does;rw[if_neg (by omega),if_neg (by omega),if_neg (by omega),if_neg (by omega),if_pos hk]
    rw[hpm,if_neg (by rw[not_or];exact⟨by omega,by simp[aw (by omega)]⟩),hd,hpp,if_neg (by simp),if_neg (noW rfl (by decide) (by decide)),doesP_test (.inl rfl) at',testP_branchB ha hb];unfold TH.test TH.tested;simp only
    by_cases hz:t.reg=0
    ·rw[if_pos hz,if_pos hz];have hb0:(t.reg != 0)=false:=by simp[hz]
     rw[hb0];exact⟨rfl,(h.upd (Q:={ P with todo:=P.todo.set i (b++r) }) (t':={ t with next:=u.el,kn:=kn }) ht rfl sameH.symm sameR.symm rfl ⟨e,he,hr2⟩ hti.2 g.nd g.ks h.gl h.gl3 h.lk5 h.pr h.hold).st _⟩
    ·rw[if_neg hz,if_neg hz];have hb0:(t.reg != 0)=true:=by simpa using hz
     rw[hb0];exact⟨rfl,(h.upd (Q:={ P with todo:=P.todo.set i (a++r) }) (t':={ t with next:=u.nx,kn:=kn }) ht rfl sameH.symm sameR.symm rfl ⟨k',hq,hr⟩ hti.1 g.nd g.ks h.gl h.gl3 h.lk5 h.pr h.hold).st _⟩
   | @loop _ a r k' e hk hq he ha hr hr2=>
    have hti:=g.td.loop_inv ha;have hd:c.does { t with next:=u.nx,kn:=kn } u=(c,TH.test { t with next:=u.nx,kn:=kn } u.el,TH.tested { t with next:=u.nx,kn:=kn }):=by unfold CS.does;rw[if_neg (by omega),if_neg (by omega),if_neg (by omega),if_neg (by omega),if_pos hk]
    rw[hpm,if_neg (by rw[not_or];exact⟨by omega,by simp[aw (by omega)]⟩),hd,hpp,if_neg (by simp),if_neg (noW rfl (by decide) (by decide)),doesP_test (.inr rfl) at',testP_loopB ha];unfold TH.test TH.tested;simp only
    by_cases hz:t.reg=0
    ·rw[if_pos hz,if_pos hz];have hb0:(t.reg != 0)=false:=by simp[hz]
     rw[hb0];exact⟨rfl,(h.upd (Q:={ P with todo:=P.todo.set i r }) (t':={ t with next:=u.el,kn:=kn }) ht rfl sameH.symm sameR.symm rfl ⟨e,he,hr2⟩ hti.2 g.nd g.ks h.gl h.gl3 h.lk5 h.pr h.hold).st _⟩
    ·rw[if_neg hz,if_neg hz];have hb0:(t.reg != 0)=true:=by simpa using hz
     rw[hb0];exact⟨rfl,(h.upd (Q:={ P with todo:=P.todo.set i (a++33::123::(a++125::r)) }) (t':={ t with next:=u.nx,kn:=kn }) ht rfl sameH.symm sameR.symm rfl ⟨k',hq,hr⟩ hti.1 g.nd g.ks h.gl h.gl3 h.lk5 h.pr h.hold).st _⟩
def PS.upK(P:PS)(picks:List UInt8):Nat→PS
 | 0=>P
 | k+1=>match picks[k]? with
  | some c=>((P.upK picks k).pick (k+1) c).1
  | none=>P.upK picks k
def PS.doneK(P:PS)(picks:List UInt8):Nat→List UInt8
 | 0=>[]
 | k+1=>match picks[k]? with
  | some c=>P.doneK picks k++[((P.upK picks k).pick (k+1) c).2]
  | none=>P.doneK picks k
theorem Alike.start{p:List UInt8}{F:List ST}{ts:List (Nat×List UInt8)}(h:Prog p F ts)(htd:∀a∈splitBar p,TD [] [] a)(q:List UInt8):Alike F (PS.start p) (runU F q 0).ths (runU F q 0).c:=by
 have e:(runU F q 0).ths=ts.mapIdx fun i x=>th0 i x.1:=h.thr.start
 have hl:(splitBar p).length=ts.length:=by rw[h.spl];simp
 refine⟨by rw[e];simpa[PS.start]using hl,by rw[e];simpa[PS.start]using hl,by rw[e];simpa[PS.start]using hl,?_,rfl,rfl,rfl,rfl,?_⟩
 ·intro i t hi;rw[e,List.getElem?_mapIdx]at hi;cases hx:ts[i]? with
  | none=>rw[hx]at hi;cases hi
  | some x=>
   rw[hx]at hi;have ht:=Option.some.inj hi;subst ht;have hs:(splitBar p)[i]?=some x.2:=by rw[h.spl,List.getElem?_map,hx];rfl
   refine⟨[],x.2,⟨x.1,rfl,h.thr.lf (Nat.le_refl _) x (List.mem_of_getElem? hx)⟩,hs,?_,?_,htd _ (List.mem_of_getElem? hs),List.nodup_nil,by simp,rfl⟩
   ·show((splitBar p).map fun _=>([]:List UInt8))[i]?=_;rw[List.getElem?_map,hs];rfl
   ·show((splitBar p).map fun _=>(0:Int))[i]?=_;rw[List.getElem?_map,hs];rfl
 ·intro j hj;have h0:((runU F q 0).c.lk.getD j lk0).holder=0:=by
   rcases less5 hj with rfl|rfl|rfl|rfl|rfl<;>rfl
  rw[h0];left;refine⟨rfl,fun x hx=>?_⟩;simp only[PS.start,List.mem_map]at hx;obtain⟨_,_,rfl⟩:=hx;rfl
theorem Alike.run{p:List UInt8}{F:List ST}{ts:List (Nat×List UInt8)}(h:Prog p F ts)(htd:∀a∈splitBar p,TD [] [] a)(q:List UInt8):∀k,Alike F ((PS.start p).upK q k) (runU F q k).ths (runU F q k).c∧(PS.start p).doneK q k=(runU F q k).done:=by
 intro k
 induction k with
 | zero=>exact⟨Alike.start h htd q,rfl⟩
 | succ k ih=>
  rw[PS.upK,PS.doneK,runU];cases hx:q[k]? with
  | none=>exact ih
  | some x=>
   obtain⟨h1,h2⟩:=ih.1.pick h.jok h.thr.lastEnd ((k:Int)+1) x;refine⟨h2,?_⟩;show(PS.start p).doneK q k++_=(runU F q k).done++[_];rw[ih.2,h1]
def awaitsM(F:List ST)(lk:List LK)(t:TH):Int:=awaitedM lk (upc F t.next)
theorem iterM_great{F:List ST}{lk:List LK}{s:List TH}(S:TH→Prop)(hS:∀u∈s,S u→∃v∈s,S v∧v.name=awaitsM F lk u):∀(k:Nat) (u:TH),u∈s→S u→u∈iterM F lk s k:=by
 intro k
 induction k with
 | zero=>exact fun u hu _=>hu
 | succ k ih=>
  intro u hu su;obtain⟨v,hv,sv,e⟩:=hS u hu su;refine List.mem_filter.2 ⟨ih u hu su,List.any_eq_true.2 ⟨v,ih v hv sv,?_⟩⟩;rw[e];exact beq_self_eq_true _
theorem iterM_steps(F:List ST)(lk:List LK)(s:List TH):∀k,iterM F lk s (k+1)=iterM F lk s k∨(iterM F lk s (k+1)).length+(k+1)≤s.length:=by
 intro k;have one:∀a:List TH,waitM F lk a=a∨(waitM F lk a).length<a.length:=by
  intro a
  by_cases h:(waitM F lk a).length=a.length
  ·left;exact List.filter_eq_self.2 (List.length_filter_eq_length_iff.1 h)
  ·right;have:=waitM_len F lk a;omega
 induction k with
 | zero=>
  rcases one s with h|h
  ·exact .inl h
  ·right;show(waitM F lk s).length+1≤_;omega
 | succ k ih=>
  rcases ih with h|h
  ·left;show waitM F lk (iterM F lk s (k+1))=_;rw[h];exact h
  ·rcases one (iterM F lk s (k+1))with g|g
   ·exact .inl g
   ·right;show(waitM F lk (iterM F lk s (k+1))).length+(k+1+1)≤_;omega
theorem iterM_fixed(F:List ST)(lk:List LK)(s:List TH):waitM F lk (iterM F lk s s.length)=iterM F lk s s.length:=by
 rcases iterM_steps F lk s s.length with h|h
 ·exact h
 ·omega
theorem iterM_closed{F:List ST}{lk:List LK}{s:List TH}{u:TH}(h:u∈iterM F lk s s.length):u∈s∧∃v∈iterM F lk s s.length,v.name=awaitsM F lk u:=by
 refine⟨iterM_mem F lk s _ u h,?_⟩;rw[←iterM_fixed]at h;obtain⟨_,h2⟩:=List.mem_filter.1 h;obtain⟨v,hv,e⟩:=List.any_eq_true.1 h2;exact⟨v,hv,eq_of_beq e⟩
theorem iterM_iff{F:List ST}{lk:List LK}{s:List TH}{u:TH}:u∈iterM F lk s s.length↔u∈s∧∃S:TH→Prop,S u∧∀a∈s,S a→∃v∈s,S v∧v.name=awaitsM F lk a:=by
 constructor
 ·intro h;refine⟨iterM_mem F lk s _ u h,fun a=>a∈iterM F lk s s.length,h,fun a _ ha=>?_⟩;obtain⟨_,v,hv,e⟩:=iterM_closed ha;exact⟨v,iterM_mem F lk s _ v hv,hv,e⟩
 ·rintro⟨h,S,su,hS⟩;exact iterM_great S hS _ u h su
theorem iterM_sub(F:List ST)(lk:List LK)(s:List TH)(k:Nat):∃f:TH→Bool,iterM F lk s k=s.filter f:=by
 induction k with
 | zero=>exact⟨fun _=>true,(List.filter_eq_self.2 fun _ _=>rfl).symm⟩
 | succ k ih=>
  obtain⟨f,hf⟩:=ih;refine⟨fun t=>f t&&(iterM F lk s k).any fun u=>u.name==awaitedM lk (upc F t.next),?_⟩;show waitM F lk (iterM F lk s k)=_;unfold waitM
  conv=>lhs;arg 2;rw[hf]
  rw[List.filter_filter]
  congr 1
  funext t
  exact Bool.and_comm _ _
theorem waits_not{held:List (List UInt8)}{c0:UInt8}{r:List UInt8}(h1:c0≠91)(h2:c0≠60):waitsL held (c0::r)=-1:=by
 unfold waitsL
 split
 ·rename_i c1 l1 r1 e1;injection e1 with e1 _;subst e1;exact if_neg (by rintro(h3|h3);exact h1 h3;exact h2 h3)
 ·rfl
theorem Alike.awaits{F:List ST}{P:PS}{ths:List TH}{c:CS}(hj:JOk F)(hl:LastEnd F)(h:Alike F P ths c){i:Nat}{t:TH}(ht:ths[i]?=some t):awaitsM F c.lk t=P.waits i+1∧-1≤P.waits i∧P.waits i<ths.length:=by
 have hlt:=(List.getElem?_eq_some_iff.1 ht).1;obtain⟨K,s,g⟩:=h.th i t ht;obtain⟨m,g1,g2⟩:=g.nx;have hx:=g2.next hj hl;rw[←g1]at hx;have htd:P.todo.getD i []=s:=by rw[List.getD_eq_getElem?_getD,g.todo];rfl
 have hw:P.waits i=waitsL P.held s:=by unfold PS.waits;rw[htd]
 have aw:(upc F t.next).kind≠6→awaitsM F c.lk t=0:=fun h6=>if_neg (fun e=>h6 e.1)
 have no:(upc F t.next).kind≠6→waitsL P.held s=-1→awaitsM F c.lk t=P.waits i+1∧-1≤P.waits i∧P.waits i<ths.length:=fun h6 e=>by
  rw[aw h6,hw,e];exact⟨rfl,by decide,by omega⟩
 generalize hu:upc F t.next=u at hx aw no;cases hx with
 | fin h9=>exact no (by omega) rfl
 | get v k' hk hv hn' hq hr=>exact no (by omega) (waits_not (by decide) (by decide))
 | put v k' hk hv hn' hq hr=>exact no (by omega) (waits_not (by decide) (by decide))
 | add v k' hk hv hn' hq hr=>exact no (by omega) (waits_not (by decide) (by decide))
 | out k' hk hq hr=>exact no (by omega) (waits_not (by decide) (by decide))
 | @take _ r cc l k' hk hc hv hn' hq hr=>
  obtain⟨n0,n5,en,en2,el⟩:=lock_no hv hn';have hho:=h.hold n0 n5;rw[←el]at hho;have haw:awaitsM F c.lk t=(c.lk.getD n0 lk0).holder:=by
   unfold awaitsM awaitedM;rw[hu,if_pos ⟨hk,by omega,by omega⟩,en2]
  have hwl:waitsL P.held (cc::l::r)=(c.lk.getD n0 lk0).holder-1:=by
   show(if cc=91∨cc=60 then holderP P.held l else -1)=_;rw[if_pos (by rcases hc with⟨rfl,_⟩|⟨rfl,_⟩<;>simp),hho.holder]
  rw[haw,hw,hwl];have hb:0≤(c.lk.getD n0 lk0).holder∧(c.lk.getD n0 lk0).holder≤ths.length:=by
   rcases hho with⟨e,_⟩|⟨a,y,e0,e,_⟩
   ·omega
   ·have:=(List.getElem?_eq_some_iff.1 e0).1;rw[h.lenh]at this;omega
  exact⟨by omega,by omega,by omega⟩
 | @give K' r cc l k' hk hc hn' hq hr=>exact no (by omega) (waits_not (by rcases hc with⟨rfl,_⟩|⟨rfl,_⟩<;>decide) (by rcases hc with⟨rfl,_⟩|⟨rfl,_⟩<;>decide))
 | branch k' e hk _ _ _ _ _ _=>exact no (by omega) (waits_not (by decide) (by decide))
 | loop k' e hk _ _ _ _ _=>exact no (by omega) (waits_not (by decide) (by decide))
def StuckP(P:PS)(i:Nat):Prop:=i<P.todo.length∧∃S:Nat→Prop,S i∧∀a,S a→a<P.todo.length∧0≤P.waits a∧S (P.waits a).toNat
theorem Alike.stuckP{F:List ST}{P:PS}{ths:List TH}{c:CS}(hj:JOk F)(hl:LastEnd F)(h:Alike F P ths c){i:Nat}{t:TH}(ht:ths[i]?=some t):t∈iterM F c.lk ths ths.length↔StuckP P i:=by
 have named:∀{j:Nat} {u:TH},ths[j]?=some u→u.name=(j:Int)+1:=fun hj'=>by
  obtain⟨_,_,g⟩:=h.th _ _ hj';exact g.nm
 have hlt:=(List.getElem?_eq_some_iff.1 ht).1;rw[iterM_iff];constructor
 ·rintro⟨_,S,st,hS⟩;refine⟨by rw[h.len];exact hlt,fun a=>∃u,ths[a]?=some u∧S u,⟨t,ht,st⟩,?_⟩;rintro a ⟨u,hu,su⟩;obtain⟨v,hv,sv,e⟩:=hS u (List.mem_of_getElem? hu) su;obtain⟨b,hb⟩:=List.mem_iff_getElem?.1 hv;obtain⟨w1,w2,w3⟩:=h.awaits hj hl hu;have hn:=named hb;have hwb:P.waits a=(b:Int):=by omega
  refine⟨by rw[h.len];exact(List.getElem?_eq_some_iff.1 hu).1,by omega,?_⟩;rw[hwb,Int.toNat_natCast];exact⟨v,hb,sv⟩
 ·rintro⟨_,S,si,hS⟩;refine⟨List.mem_of_getElem? ht,fun u=>∃a,ths[a]?=some u∧S a,⟨i,ht,si⟩,?_⟩;rintro u _ ⟨a,hu,sa⟩;obtain⟨ha,h0,hs⟩:=hS a sa;obtain⟨w1,w2,w3⟩:=h.awaits hj hl hu;have hbl:(P.waits a).toNat<ths.length:=by omega
  refine⟨ths[(P.waits a).toNat],List.getElem_mem hbl,⟨_,List.getElem?_eq_getElem hbl,hs⟩,?_⟩;rw[named (List.getElem?_eq_getElem hbl),w1];omega
end Go.Proofs.YtdgkpkdinfklaabGreat
