namespace Go.Proofs.YtdgkpkdinfklaabGreat
structure MK where
 kind:Int
 place:Int
 thread:Int
 num:Int
 h0:Bool
 h1:Bool
 h2:Bool
 h3:Bool
 h4:Bool
structure RS where
 pl:Nat
 th:Int
 op:List (Int×Int)
 mks:List MK
def nxI(p:List UInt8)(pl:Nat)(al:List UInt8):Option Nat:=(p[pl]?).bind fun c=>al.findIdx? (·==c)
def hld(op:List (Int×Int))(i:Int):Bool:=op.any fun x=>x.2==i
def RS.to(r:RS)(n:Nat):RS:=⟨r.pl+n,r.th,r.op,r.mks⟩
def RS.mark(r:RS)(kind start num:Int):RS:=⟨r.pl,r.th,r.op,r.mks++[⟨kind,start,r.th,num,hld r.op 0,hld r.op 1,hld r.op 2,hld r.op 3,hld r.op 4⟩]⟩
def RS.push(r:RS)(k l:Int):RS:=⟨r.pl,r.th,(k,l)::r.op,r.mks⟩
def RS.pop(r:RS):RS:=⟨r.pl,r.th,r.op.tail,r.mks⟩
def RS.top(r:RS):Int:=match r.op with|[]=>0|x::_=>x.1
def RS.access(p:List UInt8)(r:RS):RS×Bool:=
 match nxI p r.pl [103,112]with
 | none=>(r,false)
 | some i=>match nxI p (r.pl+1) [120,121,122]with
  | none=>(r.to 1,false)
  | some g=>((r.to 2).mark (if i=1 then 2 else 1) r.pl g,true)
def RS.addition(p:List UInt8)(r:RS):RS×Bool:=
 match nxI p (r.pl+1) [48,49,50,51,52,53,54,55,56,57]with
 | none=>(r.to 1,false)
 | some _=>(r.to 2,true)
def RS.regionBegin(p:List UInt8)(r:RS):RS×Bool:=
 match nxI p (r.pl+1) [65,66,67,68]with
 | none=>(r.to 1,false)
 | some l=>(((r.to 2).mark 3 r.pl l).push 1 l,true)
def RS.regionEnd(r:RS):RS×Bool:=if r.top=1 then((r.to 1).pop,true)else(r,false)
def RS.mended(p:List UInt8)(r:RS):RS×Bool:=
 match nxI p (r.pl+1) [65,66,67,68,69]with
 | none=>(r.to 1,false)
 | some l=>match (((r.to 2).mark 3 r.pl l).push 2 l).access p with
  | (r3,false)=>(r3,false)
  | (r3,true)=>match nxI p r3.pl [62]with
   | none=>(r3,false)
   | some _=>((r3.to 1).pop,true)
def RS.bodyBegin(p:List UInt8)(r:RS)(k:Int):RS×Bool:=
 match nxI p (r.pl+1) [123]with
 | none=>(r.to 1,false)
 | some _=>((r.to 2).push k (-1),true)
def RS.bodyEnd(p:List UInt8)(r:RS):RS×Bool:=
 if r.top=3 then r.pop.bodyBegin p 4 else if r.top=4 then(r.pop.to 1,true)else(r,false)
def RS.nextThread(r:RS):RS×Bool:=if r.op≠[]∨4≤r.th then(r,false)else(⟨r.pl+1,r.th+1,r.op,r.mks⟩,true)
def RS.piece(p:List UInt8)(r:RS):RS×Bool:=
 match p[r.pl]? with
 | none=>(r,false)
 | some c=>
  if c=103∨c=112 then r.access p
  else if c=105 then r.addition p
  else if c=111 then(r.to 1,true)
  else if c=91 then r.regionBegin p
  else if c=93 then r.regionEnd
  else if c=60 then r.mended p
  else if c=63 then r.bodyBegin p 3
  else if c=33 then r.bodyBegin p 4
  else if c=125 then r.bodyEnd p
  else if c=124 then r.nextThread
  else(r,false)
def RS.start:RS:=⟨0,1,[],[]⟩
inductive Reach(p:List UInt8):RS→Prop
 | start:Reach p RS.start
 | step {r r':RS}:Reach p r→r.pl<p.length→r.piece p=(r',true)→Reach p r'
def inU(l:List UInt8)(c:UInt8):Bool:=l.any (·==c)
def opnL(c:UInt8):Option (List UInt8):=
 if c=103∨c=112 then some [118]else if c=105 then some [110]else if c=111 then some []else if c=91 then some [108,66,93]
 else if c=60 then some [107,97,118,62]else if c=63 then some [123,66,125,123,66,125]else if c=33 then some [123,66,125]else none
def stB(e c:UInt8):Bool:=
 if e=118 then inU [120,121,122] c else if e=110 then inU [48,49,50,51,52,53,54,55,56,57] c else if e=108 then inU [65,66,67,68] c
 else if e=107 then inU [65,66,67,68,69] c else if e=97 then inU [103,112] c else c==e
def nxt:List UInt8→UInt8→List UInt8×Bool
 | [],_=>([],false)
 | e::r,c=>
  if e=66 then match opnL c with
   | some more=>(more++e::r,true)
   | none=>nxt r c
  else if e=109 then(66::r,c==124)
  else(r,stB e c)
def wholeF(f:List UInt8):Bool:=match f with|[]=>false|e::r=>e==66&&r.all (·==109)
def fw(p:List UInt8):Nat→Option (List UInt8)
 | 0=>some [66,109,109,109]
 | k+1=>match fw p k,p[k]? with
  | some f,some c=>if (nxt f c).2 then some (nxt f c).1 else none
  | _,_=>none
def sizeU(c:UInt8):Nat:=if inU [103,112,105,91,60] c then 2 else 1
structure TS where
 i:Nat
 now:List UInt8
 th:Int
 mks:List MK
def heldU(now:List UInt8)(p:List UInt8)(i:Nat):List UInt8:=
 match p[i]? with
 | none=>now
 | some c=>if c=91∨c=60 then now++[(p[i+1]?).getD 0]else if c=93∨c=62 then now.dropLast else now
def mkN(kind place th num:Int)(now:List UInt8):MK:=⟨kind,place,th,num,inU now 65,inU now 66,inU now 67,inU now 68,inU now 69⟩
def tstep(p:List UInt8)(t:TS):TS:=
 match p[t.i]? with
 | none=>t
 | some c=>
  ⟨t.i+sizeU c,heldU t.now p t.i,if c=124 then t.th+1 else t.th,
   if c=91∨c=60 then t.mks++[mkN 3 t.i t.th (((p[t.i+1]?).getD 0).toNat-65) t.now]
   else if c=103∨c=112 then t.mks++[mkN (if c=112 then 2 else 1) t.i t.th (((p[t.i+1]?).getD 0).toNat-120) t.now]
   else t.mks⟩
def tw(p:List UInt8):Nat→TS
 | 0=>⟨0,[],1,[]⟩
 | k+1=>if (tw p k).i<p.length then tstep p (tw p k)else tw p k
theorem nxI_lt{p:List UInt8}{pl i:Nat}{al:List UInt8}(h:nxI p pl al=some i):pl<p.length:=by
 by_cases hlt:pl<p.length
 ·exact hlt
 ·rw[nxI,List.getElem?_eq_none (by omega)]at h;cases h
structure B(p:List UInt8)(r:RS):Prop where
 pl:r.pl≤p.length
 op:r.op.length≤r.pl
 ms:r.mks.length≤r.pl
 th:1≤r.th
theorem access_bd{p:List UInt8}{r:RS}(h:B p r):B p (r.access p).1∧((r.access p).2=true→r.pl<(r.access p).1.pl∧(r.access p).1.op=r.op):=by
 obtain⟨h1,h2,h3,h4⟩:=h;unfold RS.access
 split
 ·exact⟨⟨h1,h2,h3,h4⟩,by simp⟩
 ·have:=nxI_lt (by assumption)
  split
  ·exact⟨⟨by simp[RS.to];omega,by simp[RS.to];omega,by simp[RS.to];omega,h4⟩,by simp⟩
  ·have:=nxI_lt (by assumption);exact⟨⟨by simp[RS.to,RS.mark];omega,by simp[RS.to,RS.mark];omega,by simp[RS.to,RS.mark];omega,h4⟩,fun _=>by simp[RS.to,RS.mark]⟩
theorem bodyBegin_bd{p:List UInt8}{r:RS}(k:Int)(h:B p r)(hl:r.pl<p.length):B p (r.bodyBegin p k).1∧((r.bodyBegin p k).2=true→r.pl<(r.bodyBegin p k).1.pl):=by
 obtain⟨h1,h2,h3,h4⟩:=h;unfold RS.bodyBegin
 split
 ·exact⟨⟨by simp[RS.to];omega,by simp[RS.to];omega,by simp[RS.to];omega,h4⟩,by simp⟩
 ·have:=nxI_lt (by assumption);exact⟨⟨by simp[RS.to,RS.push];omega,by simp[RS.to,RS.push];omega,by simp[RS.to,RS.push];omega,h4⟩,fun _=>by simp[RS.to,RS.push]⟩
theorem mended_bd{p:List UInt8}{r:RS}(h:B p r)(hl:r.pl<p.length):B p (r.mended p).1∧((r.mended p).2=true→r.pl<(r.mended p).1.pl):=by
 obtain⟨h1,h2,h3,h4⟩:=h;unfold RS.mended
 split
 ·exact⟨⟨by simp[RS.to];omega,by simp[RS.to];omega,by simp[RS.to];omega,h4⟩,by simp⟩
 ·have:=nxI_lt (by assumption);rename_i l hx;have hb:B p (((r.to 2).mark 3 r.pl l).push 2 l):=⟨by simp[RS.to,RS.mark,RS.push];omega,by simp[RS.to,RS.mark,RS.push];omega,by simp[RS.to,RS.mark,RS.push];omega,h4⟩;obtain⟨ab,ac⟩:=access_bd hb;cases hq:(((r.to 2).mark 3 r.pl l).push 2 l).access p with
  | mk r3 ok=>
   rw[hq]at ab ac;cases ok with
   | false=>exact⟨ab,by simp⟩
   | true=>
    obtain⟨a1,a2⟩:=ac rfl;obtain⟨b1,b2,b3,b4⟩:=ab;simp only at a1 a2 b1 b2 b3 b4 ⊢
    split
    ·exact⟨⟨b1,b2,b3,b4⟩,by simp⟩
    ·have:=nxI_lt (by assumption);simp[RS.to,RS.mark,RS.push]at a1;exact⟨⟨by simp[RS.to,RS.pop];omega,by simp[RS.to,RS.pop];omega,by simp[RS.to,RS.pop];omega,b4⟩,fun _=>by simp[RS.to,RS.pop];omega⟩
theorem piece_bd{p:List UInt8}{r:RS}(h:B p r)(hl:r.pl<p.length):B p (r.piece p).1∧((r.piece p).2=true→r.pl<(r.piece p).1.pl):=by
 unfold RS.piece;rw[List.getElem?_eq_getElem hl];simp only;have hk:=h;obtain⟨h1,h2,h3,h4⟩:=h
 split
 ·exact⟨(access_bd hk).1,fun e=>((access_bd hk).2 e).1⟩
 split
 ·unfold RS.addition
  split
  ·exact⟨⟨by simp[RS.to];omega,by simp[RS.to];omega,by simp[RS.to];omega,h4⟩,by simp⟩
  ·have:=nxI_lt (by assumption);exact⟨⟨by simp[RS.to];omega,by simp[RS.to];omega,by simp[RS.to];omega,h4⟩,fun _=>by simp[RS.to]⟩
 split
 ·exact⟨⟨by simp[RS.to];omega,by simp[RS.to];omega,by simp[RS.to];omega,h4⟩,fun _=>by simp[RS.to]⟩
 split
 ·unfold RS.regionBegin
  split
  ·exact⟨⟨by simp[RS.to];omega,by simp[RS.to];omega,by simp[RS.to];omega,h4⟩,by simp⟩
  ·have:=nxI_lt (by assumption);exact⟨⟨by simp[RS.to,RS.mark,RS.push];omega,by simp[RS.to,RS.mark,RS.push];omega,by simp[RS.to,RS.mark,RS.push];omega,h4⟩,fun _=>by simp[RS.to,RS.mark,RS.push]⟩
 split
 ·unfold RS.regionEnd
  split
  ·exact⟨⟨by simp[RS.to,RS.pop];omega,by simp[RS.to,RS.pop];omega,by simp[RS.to,RS.pop];omega,h4⟩,fun _=>by simp[RS.to,RS.pop]⟩
  ·exact⟨hk,by simp⟩
 split
 ·exact mended_bd hk hl
 split
 ·exact bodyBegin_bd 3 hk hl
 split
 ·exact bodyBegin_bd 4 hk hl
 split
 ·unfold RS.bodyEnd
  split
  ·have hb:B p r.pop:=⟨h1,by simp[RS.pop];omega,h3,h4⟩;exact bodyBegin_bd 4 hb hl
  ·split
   ·exact⟨⟨by simp[RS.to,RS.pop];omega,by simp[RS.to,RS.pop];omega,by simp[RS.to,RS.pop];omega,h4⟩,fun _=>by simp[RS.to,RS.pop]⟩
   ·exact⟨hk,by simp⟩
 split
 ·unfold RS.nextThread
  split
  ·exact⟨hk,by simp⟩
  ·exact⟨⟨by simp;omega,by simp;omega,by simp;omega,by simp;omega⟩,fun _=>by simp⟩
 ·exact⟨hk,by simp⟩
theorem Reach.bd{p:List UInt8}{r:RS}(h:Reach p r):B p r:=by
 induction h with
 | start=>exact⟨by simp[RS.start],by simp[RS.start],by simp[RS.start],by simp[RS.start]⟩
 | step _ hl he ih=>
  have:=(piece_bd ih hl).1;rw[he]at this;exact this
def encS:List (Int×Int)→List UInt8
 | []=>[]
 | x::o=>(if x.1=1 then [93,66]else if x.1=3 then [125,123,66,125,66]else [125,66])++encS o
def encT(op:List (Int×Int))(th:Int):List UInt8:=encS op++List.replicate (4-th).toNat 109
def encR(r:RS):List UInt8:=66::encT r.op r.th
def nowOf:List (Int×Int)→List UInt8
 | []=>[]
 | x::o=>nowOf o++(if 0≤x.2 then [UInt8.ofNat (65+x.2.toNat)]else [])
def KindsOk(op:List (Int×Int)):Prop:=∀x∈op,(x.1=1∧0≤x.2∧x.2<4)∨((x.1=3∨x.1=4)∧x.2=-1)
def LocksOk(op:List (Int×Int)):Prop:=∀x∈op,-1≤x.2∧x.2<5
theorem KindsOk.locks{op:List (Int×Int)}(h:KindsOk op):LocksOk op:=fun x hx=>by
 rcases h x hx with⟨_,h1,h2⟩|⟨_,h1⟩<;>omega
theorem inU_append(a b:List UInt8)(c:UInt8):inU (a++b) c=(inU a c||inU b c):=by simp[inU]
theorem hld_now{op:List (Int×Int)}(h:LocksOk op)(i:Nat)(hi:i<5):hld op i=inU (nowOf op) (UInt8.ofNat (65+i)):=by
 induction op with
 | nil=>rfl
 | cons x o ih=>
  have ih':=ih (fun y hy=>h y (List.mem_cons_of_mem _ hy));have hx:=h x (List.mem_cons_self ..);obtain⟨k,l⟩:=x;simp only at hx;rw[nowOf,inU_append,←ih'];simp only[hld,List.any_cons]at *;rw[Bool.or_comm]
  congr 1
  by_cases hl:0≤l
  ·rw[if_pos hl];have h5:l=0∨l=1∨l=2∨l=3∨l=4:=by omega
   have h6:i=0∨i=1∨i=2∨i=3∨i=4:=by omega
   rcases h5 with rfl|rfl|rfl|rfl|rfl<;>rcases h6 with rfl|rfl|rfl|rfl|rfl<;>decide
  ·rw[if_neg hl];simp[inU];omega
theorem mark_eq{op:List (Int×Int)}(h:LocksOk op)(kind place th num:Int) :
  (⟨kind,place,th,num,hld op 0,hld op 1,hld op 2,hld op 3,hld op 4⟩:MK)=mkN kind place th num (nowOf op):=by
 have h0:=hld_now h 0 (by decide);have h1:=hld_now h 1 (by decide);have h2:=hld_now h 2 (by decide);have h3:=hld_now h 3 (by decide);have h4:=hld_now h 4 (by decide);simp only[mkN,MK.mk.injEq,true_and];exact⟨h0,h1,h2,h3,h4⟩
theorem nxt_B{c:UInt8}{more X:List UInt8}(h:opnL c=some more):nxt (66::X) c=(more++66::X,true):=by simp[nxt,h]
theorem nxt_skip{c:UInt8}{X:List UInt8}(h:opnL c=none):nxt (66::X) c=nxt X c:=by rw[nxt];simp[h]
theorem nxt_e{e c:UInt8}{X:List UInt8}(h1:e≠66)(h2:e≠109):nxt (e::X) c=(X,stB e c):=by simp[nxt,h1,h2]
theorem nxt_m{c:UInt8}{X:List UInt8}:nxt (109::X) c=(66::X,c==124):=by simp[nxt]
theorem fw_step{p:List UInt8}{k:Nat}{f f':List UInt8}{c:UInt8}(h:fw p k=some f)(hc:p[k]?=some c)(hn:nxt f c=(f',true)):fw p (k+1)=some f':=by
 simp[fw,h,hc,hn]
def Fail(p:List UInt8)(q:Nat):Prop:=
 (∃f c,q<p.length∧fw p q=some f∧p[q]?=some c∧(nxt f c).2=false)∨(q=p.length∧∃f,fw p q=some f∧wholeF f=false)
theorem nxI_char{p:List UInt8}{q i:Nat}{al:List UInt8}(h:nxI p q al=some i):∃c,p[q]?=some c∧al[i]?=some c:=by
 unfold nxI at h;cases hc:p[q]? with
 | none=>rw[hc]at h;cases h
 | some c=>
  rw[hc]at h;simp only[Option.bind_some]at h;obtain⟨hl,hp,_⟩:=List.findIdx?_eq_some_iff_getElem.1 h;exact⟨c,rfl,by rw[List.getElem?_eq_getElem hl];simpa using hp⟩
theorem nxI_in{p:List UInt8}{q:Nat}{c:UInt8}{al:List UInt8}(hc:p[q]?=some c):(nxI p q al).isSome=inU al c:=by
 simp[nxI,hc,inU,List.findIdx?_isSome]
theorem fail_at{p:List UInt8}{q:Nat}{e:UInt8}{X al:List UInt8}(hf:fw p q=some (e::X))(h1:e≠66)(h2:e≠109)(hs:∀c,stB e c=inU al c)(hx:nxI p q al=none)(hq:q≤p.length):Fail p q:=by
 by_cases hlt:q<p.length
 ·left;refine⟨_,p[q],hlt,hf,List.getElem?_eq_getElem hlt,?_⟩;rw[nxt_e h1 h2,hs,←nxI_in (List.getElem?_eq_getElem hlt),hx];rfl
 ·right;refine⟨by omega,_,hf,?_⟩;simp[wholeF,h1]
theorem ok_at{p:List UInt8}{q i:Nat}{e:UInt8}{X al:List UInt8}(hf:fw p q=some (e::X))(h1:e≠66)(h2:e≠109)(hs:∀c,stB e c=inU al c)(hx:nxI p q al=some i):fw p (q+1)=some X:=by
 obtain⟨c,hc,_⟩:=nxI_char hx;refine fw_step hf hc ?_;rw[nxt_e h1 h2,hs,←nxI_in hc,hx];rfl
theorem st_v(c:UInt8):stB 118 c=inU [120,121,122] c:=rfl
theorem st_n(c:UInt8):stB 110 c=inU [48,49,50,51,52,53,54,55,56,57] c:=rfl
theorem st_l(c:UInt8):stB 108 c=inU [65,66,67,68] c:=rfl
theorem st_k(c:UInt8):stB 107 c=inU [65,66,67,68,69] c:=rfl
theorem st_a(c:UInt8):stB 97 c=inU [103,112] c:=rfl
theorem st_lc(c:UInt8):stB 123 c=inU [123] c:=by show(c==123)=((123==c)||false);rw[Bool.or_false,BEq.comm]
theorem st_gt(c:UInt8):stB 62 c=inU [62] c:=by show(c==62)=((62==c)||false);rw[Bool.or_false,BEq.comm]
theorem tw_step{p:List UInt8}{k i:Nat}{now:List UInt8}{th:Int}{mk:List MK}{c:UInt8}(h:tw p k=⟨i,now,th,mk⟩)(hc:p[i]?=some c):tw p (k+1)=tstep p ⟨i,now,th,mk⟩:=by
 have hlt:i<p.length:=(List.getElem?_eq_some_iff.1 hc).1;simp[tw,h,hlt]
theorem step_access{p:List UInt8}{k i:Nat}{now:List UInt8}{th:Int}{mk:List MK}{c d:UInt8}(h:tw p k=⟨i,now,th,mk⟩)(hc:p[i]?=some c)(hd:p[i+1]?=some d)(hg:c=103∨c=112) :
  tw p (k+1)=⟨i+2,now,th,mk++[mkN (if c=112 then 2 else 1) i th (d.toNat-120) now]⟩:=by
 rw[tw_step h hc];rcases hg with rfl|rfl<;>simp[tstep,hc,hd,heldU,sizeU,inU]
theorem step_take{p:List UInt8}{k i:Nat}{now:List UInt8}{th:Int}{mk:List MK}{c d:UInt8}(h:tw p k=⟨i,now,th,mk⟩)(hc:p[i]?=some c)(hd:p[i+1]?=some d)(hg:c=91∨c=60) :
  tw p (k+1)=⟨i+2,now++[d],th,mk++[mkN 3 i th (d.toNat-65) now]⟩:=by
 rw[tw_step h hc];rcases hg with rfl|rfl<;>simp[tstep,hc,hd,heldU,sizeU,inU]
theorem step_give{p:List UInt8}{k i:Nat}{now:List UInt8}{th:Int}{mk:List MK}{c:UInt8}(h:tw p k=⟨i,now,th,mk⟩)(hc:p[i]?=some c)(hg:c=93∨c=62) :
  tw p (k+1)=⟨i+1,now.dropLast,th,mk⟩:=by
 rw[tw_step h hc];rcases hg with rfl|rfl<;>simp[tstep,hc,heldU,sizeU,inU]
theorem step_two{p:List UInt8}{k i:Nat}{now:List UInt8}{th:Int}{mk:List MK}(h:tw p k=⟨i,now,th,mk⟩)(hc:p[i]?=some 105):tw p (k+1)=⟨i+2,now,th,mk⟩:=by
 rw[tw_step h hc];simp[tstep,hc,heldU,sizeU,inU]
theorem step_one{p:List UInt8}{k i:Nat}{now:List UInt8}{th:Int}{mk:List MK}{c:UInt8}(h:tw p k=⟨i,now,th,mk⟩)(hc:p[i]?=some c)(hg:c=111∨c=63∨c=33∨c=123∨c=125):tw p (k+1)=⟨i+1,now,th,mk⟩:=by
 rw[tw_step h hc];rcases hg with rfl|rfl|rfl|rfl|rfl<;>simp[tstep,hc,heldU,sizeU,inU]
theorem step_bar{p:List UInt8}{k i:Nat}{now:List UInt8}{th:Int}{mk:List MK}(h:tw p k=⟨i,now,th,mk⟩)(hc:p[i]?=some 124):tw p (k+1)=⟨i+1,now,th+1,mk⟩:=by
 rw[tw_step h hc];simp[tstep,hc,heldU,sizeU,inU]
structure Sim(p:List UInt8)(r:RS):Prop where
 kinds:KindsOk r.op
 th1:1≤r.th
 th4:r.th≤4
 form:fw p r.pl=some (encR r)
 toks:∃k,tw p k=⟨r.pl,nowOf r.op,r.th,r.mks⟩
theorem lock_char{i:Nat}{d:UInt8}(h:([65,66,67,68,69]:List UInt8)[i]?=some d):d=UInt8.ofNat (65+i)∧(d.toNat:Int)-65=i∧i<5:=by
 have h5:i<5:=(List.getElem?_eq_some_iff.1 h).1;have h6:i=0∨i=1∨i=2∨i=3∨i=4:=by omega
 rcases h6 with rfl|rfl|rfl|rfl|rfl<;>(simp at h;subst h;decide)
theorem lock_char4{i:Nat}{d:UInt8}(h:([65,66,67,68]:List UInt8)[i]?=some d):d=UInt8.ofNat (65+i)∧(d.toNat:Int)-65=i∧i<4:=by
 have h5:i<4:=(List.getElem?_eq_some_iff.1 h).1;have h6:i=0∨i=1∨i=2∨i=3:=by omega
 rcases h6 with rfl|rfl|rfl|rfl<;>(simp at h;subst h;decide)
theorem glob_char{i:Nat}{d:UInt8}(h:([120,121,122]:List UInt8)[i]?=some d):(d.toNat:Int)-120=i:=by
 have h5:i<3:=(List.getElem?_eq_some_iff.1 h).1;have h6:i=0∨i=1∨i=2:=by omega
 rcases h6 with rfl|rfl|rfl<;>(simp at h;subst h;decide)
theorem gp_char{i:Nat}{c:UInt8}(h:([103,112]:List UInt8)[i]?=some c):(c=103∨c=112)∧((if i=1 then(2:Int)else 1)=if c=112 then 2 else 1):=by
 have h5:i<2:=(List.getElem?_eq_some_iff.1 h).1;have h6:i=0∨i=1:=by omega
 rcases h6 with rfl|rfl<;>(simp at h;subst h;decide)
theorem access_sim{p:List UInt8}{r:RS}{k:Nat}{f X:List UInt8}(hl:LocksOk r.op)(hq:r.pl≤p.length)(hf:fw p r.pl=some f)(hfw:wholeF f=false∨r.pl<p.length)
  (hg:∀c,c=103∨c=112→nxt f c=(118::X,true))(hb:∀c,p[r.pl]?=some c→inU [103,112] c=false→(nxt f c).2=false)(ht:tw p k=⟨r.pl,nowOf r.op,r.th,r.mks⟩) :
  ((r.access p).2=false→Fail p (r.access p).1.pl) ∧
  ((r.access p).2=true→(r.access p).1.pl=r.pl+2∧(r.access p).1.op=r.op∧(r.access p).1.th=r.th∧fw p (r.pl+2)=some X∧tw p (k+1)=⟨r.pl+2,nowOf r.op,r.th,(r.access p).1.mks⟩):=by
 unfold RS.access;cases hx:nxI p r.pl [103,112]with
 | none=>
  refine⟨fun _=>?_,by simp⟩
  by_cases hlt:r.pl<p.length
  ·left;have hc:=List.getElem?_eq_getElem hlt;exact⟨f,p[r.pl],hlt,hf,hc,hb _ hc (by rw[←nxI_in hc,hx];rfl)⟩
  ·right;exact⟨by simp;omega,f,hf,by rcases hfw with h|h;exact h;exact absurd h hlt⟩
 | some i=>
  obtain⟨c,hc,hci⟩:=nxI_char hx;obtain⟨hcg,hck⟩:=gp_char hci;have hf1:=fw_step hf hc (hg c hcg);have hlt:=nxI_lt hx;cases hy:nxI p (r.pl+1) [120,121,122]with
  | none=>
   refine⟨fun _=>?_,by simp⟩;exact fail_at (q:=r.pl+1) hf1 (by decide) (by decide) st_v hy (by omega)
  | some g=>
   refine⟨by simp,fun _=>?_⟩;obtain⟨d,hd,hdi⟩:=nxI_char hy;have hf2:=ok_at hf1 (by decide) (by decide) st_v hy;have hs:=step_access ht hc hd hcg;refine⟨rfl,rfl,rfl,hf2,?_⟩;rw[hs];simp only[RS.to,RS.mark,TS.mk.injEq,true_and];rw[mark_eq hl,hck,glob_char hdi]
def Good(p:List UInt8)(x:RS×Bool):Prop:=(x.2=false→Fail p x.1.pl)∧(x.2=true→Sim p x.1)
theorem now_push(op:List (Int×Int))(k:Int)(i:Nat):nowOf ((k,(i:Int))::op)=nowOf op++[UInt8.ofNat (65+i)]:=by
 simp[nowOf]
theorem bodyBegin_sim{p:List UInt8}{r:RS}{k:Nat}(kd:Int)(hk:kd=3∨kd=4)(X:List UInt8)(hkinds:KindsOk r.op)(h1:1≤r.th)(h4:r.th≤4)(hlt:r.pl<p.length)
  (hf:fw p (r.pl+1)=some (123::X))(hX:X=66::encT ((kd,-1)::r.op) r.th)(ht:tw p k=⟨r.pl+1,nowOf r.op,r.th,r.mks⟩):Good p (r.bodyBegin p kd):=by
 unfold RS.bodyBegin;cases hx:nxI p (r.pl+1) [123]with
 | none=>
  refine⟨fun _=>?_,by simp⟩;exact fail_at (q:=r.pl+1) hf (by decide) (by decide) st_lc hx (by omega)
 | some i=>
  refine⟨by simp,fun _=>?_⟩;obtain⟨d,hd,hdi⟩:=nxI_char hx;have hd':d=123:=by
   have hi:i<1:=(List.getElem?_eq_some_iff.1 hdi).1;have hi0:i=0:=by omega
   subst hi0;simpa using hdi.symm
  have hf2:=ok_at hf (by decide) (by decide) st_lc hx;have hs:=step_one ht hd (by rw[hd'];simp);refine⟨?_,h1,h4,?_,k+1,?_⟩
  ·intro x hx;rcases List.mem_cons.1 hx with rfl|hx
   ·right;exact⟨hk,rfl⟩
   ·exact hkinds x hx
  ·show fw p (r.pl+2)=_;rw[hf2,hX];rfl
  ·rw[hs];simp[RS.to,RS.push,nowOf]
theorem opnL_none{c:UInt8}(h:¬(c=103∨c=112∨c=105∨c=111∨c=91∨c=60∨c=63∨c=33)):opnL c=none:=by
 simp only[not_or]at h;obtain⟨n1,n2,n3,n4,n5,n6,n7,n8⟩:=h;simp[opnL,n1,n2,n3,n4,n5,n6,n7,n8]
theorem nxt_tail(op:List (Int×Int))(th:Int)(c:UInt8):nxt (encT op th) c =
  (match op with
  | []=>if th<4 then(66::List.replicate (4-(th+1)).toNat 109,c==124)else([],false)
  | x::o=>if x.1=1 then(66::encT o th,c==93)else if x.1=3 then(123::66::encT ((4,x.2)::o) th,c==125)else(66::encT o th,c==125)):=by
 cases op with
 | nil=>
  simp only[encT,encS,List.nil_append]
  by_cases h:th<4
  ·rw[if_pos h];obtain⟨n,hn⟩:∃n,(4-th).toNat=n+1:=⟨(4-th).toNat-1,by omega⟩;rw[hn,List.replicate_succ,nxt_m,show(4-(th+1)).toNat=n by omega]
  ·rw[if_neg h,show(4-th).toNat=0 by omega];rfl
 | cons x o=>
  simp only[encT,encS]
  by_cases h1:x.1=1
  ·rw[if_pos h1,if_pos h1];show nxt (93::66::(encS o++_)) c=_;rw[nxt_e (by decide) (by decide)];rfl
  ·rw[if_neg h1,if_neg h1]
   by_cases h3:x.1=3
   ·rw[if_pos h3,if_pos h3];show nxt (125::123::66::125::66::(encS o++_)) c=_;rw[nxt_e (by decide) (by decide)];rfl
   ·rw[if_neg h3,if_neg h3];show nxt (125::66::(encS o++_)) c=_;rw[nxt_e (by decide) (by decide)];rfl
theorem nxR(r:RS)(c:UInt8)(more:List UInt8)(h:opnL c=some more):nxt (encR r) c=(more++encR r,true):=nxt_B h
theorem fail_tail{p:List UInt8}{r:RS}{c:UInt8}(hlt:r.pl<p.length)(hf:fw p r.pl=some (encR r))(hc:p[r.pl]?=some c)(ho:opnL c=none)(hn:(nxt (encT r.op r.th) c).2=false):Fail p r.pl:=by
 left;exact⟨_,c,hlt,hf,hc,by rw[encR,nxt_skip ho];exact hn⟩
theorem mended_sim{p:List UInt8}{r:RS}{k:Nat}(hkinds:KindsOk r.op)(h1:1≤r.th)(h4:r.th≤4)(hlt:r.pl<p.length)(hf:fw p r.pl=some (encR r))(hc:p[r.pl]?=some 60)(ht:tw p k=⟨r.pl,nowOf r.op,r.th,r.mks⟩):Good p (r.mended p):=by
 have hf1:fw p (r.pl+1)=some (107::97::118::62::encR r):=fw_step hf hc (nxR r 60 [107,97,118,62] rfl);cases hx:nxI p (r.pl+1) [65,66,67,68,69]with
 | none=>
  have hr:r.mended p=(r.to 1,false):=by simp[RS.mended,hx]
  rw[hr];refine⟨fun _=>?_,by simp⟩;exact fail_at (q:=r.pl+1) hf1 (by decide) (by decide) st_k hx (by omega)
 | some i=>
  obtain⟨d,hd,hdi⟩:=nxI_char hx;obtain⟨d1,d2,d3⟩:=lock_char hdi;have hlt1:=nxI_lt hx;have hf2:=ok_at hf1 (by decide) (by decide) st_k hx;have hs:=step_take ht hc hd (.inr rfl);have hlk:LocksOk (((r.to 2).mark 3 r.pl i).push 2 i).op:=by
   intro x hx;rcases List.mem_cons.1 hx with rfl|hx
   ·exact⟨by simp only;omega,by simp only;omega⟩
   ·exact hkinds.locks x hx
  have hs':tw p (k+1)=⟨(((r.to 2).mark 3 r.pl i).push 2 i).pl,nowOf (((r.to 2).mark 3 r.pl i).push 2 i).op,(((r.to 2).mark 3 r.pl i).push 2 i).th,(((r.to 2).mark 3 r.pl i).push 2 i).mks⟩:=by
   rw[hs];simp only[RS.push,RS.mark,RS.to];rw[now_push,mark_eq hkinds.locks,d2,d1]
  have ha:=access_sim (r:=((r.to 2).mark 3 r.pl i).push 2 i) (X:=62::encR r) hlk (by simp only[RS.push,RS.mark,RS.to];omega) hf2 (.inl rfl)
   (fun c hc=>by rw[nxt_e (by decide) (by decide)];rcases hc with rfl|rfl<;>rfl)
   (fun c _ hi=>by rw[nxt_e (by decide) (by decide)];exact hi) hs'
  cases hq:(((r.to 2).mark 3 r.pl i).push 2 i).access p with
  | mk r3 ok=>
   rw[hq]at ha;cases ok with
   | false=>
    have hr:r.mended p=(r3,false):=by simp[RS.mended,hx,hq]
    rw[hr];exact⟨fun _=>ha.1 rfl,by simp⟩
   | true=>
    obtain⟨e1,e2,e3,e4,e5⟩:=ha.2 rfl;simp only[RS.push,RS.mark,RS.to]at e1 e2 e3 e4 e5;have hf4:fw p r3.pl=some (62::encR r):=by rw[e1];exact e4
    cases hz:nxI p r3.pl [62]with
    | none=>
     have hr:r.mended p=(r3,false):=by simp[RS.mended,hx,hq,hz]
     rw[hr];refine⟨fun _=>?_,by simp⟩;have hq2:r3.pl≤p.length:=by
      rw[e1]
      by_cases hle:r.pl+2+2≤p.length
      ·exact hle
      ·exfalso
       have:fw p (r.pl+2+2)=none:=by
        have:p[r.pl+2+1]?=none:=List.getElem?_eq_none (by omega);simp[fw,this]
       rw[this]at e4;cases e4
     exact fail_at (q:=r3.pl) hf4 (by decide) (by decide) st_gt hz hq2
    | some j=>
     have hr:r.mended p=((r3.to 1).pop,true):=by simp[RS.mended,hx,hq,hz]
     rw[hr];refine⟨by simp,fun _=>?_⟩;obtain⟨g,hg,hgi⟩:=nxI_char hz;have hg':g=62:=by
      have hi:j<1:=(List.getElem?_eq_some_iff.1 hgi).1;have hi0:j=0:=by omega
      subst hi0;simpa using hgi.symm
     have hf5:=ok_at hf4 (by decide) (by decide) st_gt hz;have e5':tw p (k+1+1)=⟨r3.pl,nowOf ((2,(i:Int))::r.op),r.th,r3.mks⟩:=by rw[e5,e1]
     have hs2:=step_give e5' hg (.inr hg');refine⟨?_,?_,?_,?_,k+1+1+1,?_⟩
     ·simp only[RS.pop,RS.to,e2,List.tail_cons];exact hkinds
     ·simp only[RS.pop,RS.to,e3];exact h1
     ·simp only[RS.pop,RS.to,e3];exact h4
     ·show fw p (r3.pl+1)=_;rw[hf5];simp only[encR,RS.pop,RS.to,e2,e3,List.tail_cons]
     ·rw[hs2,now_push];simp only[RS.pop,RS.to,e2,e3,List.tail_cons,List.dropLast_concat]
theorem piece_sim{p:List UInt8}{r:RS}(h:Sim p r)(hlt:r.pl<p.length):Good p (r.piece p):=by
 obtain⟨hkinds,h1,h4,hf,k,ht⟩:=h;have hc:=List.getElem?_eq_getElem hlt;obtain⟨c,hcc⟩:∃c,p[r.pl]=c:=⟨_,rfl⟩;rw[hcc]at hc;clear hcc;unfold RS.piece;rw[hc];simp only
 by_cases hg:c=103∨c=112
 ·rw[if_pos hg]
  have ha:=access_sim (X:=encR r) hkinds.locks (by omega) hf (.inr hlt) (fun c hc=>by
   rcases hc with rfl|rfl
   ·exact nxR r 103 [118] rfl
   ·exact nxR r 112 [118] rfl) (fun d hd hi=>by
    rw[hc]at hd;cases hd
    rcases hg with rfl|rfl<;>cases hi) ht
  refine⟨ha.1,fun e=>?_⟩;obtain⟨e1,e2,e3,e4,e5⟩:=ha.2 e;exact⟨by rw[e2];exact hkinds,by rw[e3];exact h1,by rw[e3];exact h4,by rw[e1,e4];simp[encR,e2,e3],k+1,by rw[e5,e1,e2,e3]⟩
 rw[if_neg hg]
 by_cases hi:c=105
 ·rw[if_pos hi];subst hi;have hf1:fw p (r.pl+1)=some (110::encR r):=fw_step hf hc (nxR r 105 [110] rfl);unfold RS.addition;cases hx:nxI p (r.pl+1) [48,49,50,51,52,53,54,55,56,57]with
  | none=>
   refine⟨fun _=>?_,by simp⟩;exact fail_at (q:=r.pl+1) hf1 (by decide) (by decide) st_n hx (by omega)
  | some i=>
   refine⟨by simp,fun _=>?_⟩;exact⟨hkinds,h1,h4,ok_at hf1 (by decide) (by decide) st_n hx,k+1,step_two ht hc⟩
 rw[if_neg hi]
 by_cases ho:c=111
 ·rw[if_pos ho];subst ho;refine⟨by simp,fun _=>?_⟩;exact⟨hkinds,h1,h4,fw_step hf hc (nxR r 111 [] rfl),k+1,step_one ht hc (.inl rfl)⟩
 rw[if_neg ho]
 by_cases hb:c=91
 ·rw[if_pos hb];subst hb;have hf1:fw p (r.pl+1)=some (108::66::93::encR r):=fw_step hf hc (nxR r 91 [108,66,93] rfl);unfold RS.regionBegin;cases hx:nxI p (r.pl+1) [65,66,67,68]with
  | none=>
   refine⟨fun _=>?_,by simp⟩;exact fail_at (q:=r.pl+1) hf1 (by decide) (by decide) st_l hx (by omega)
  | some i=>
   refine⟨by simp,fun _=>?_⟩;obtain⟨d,hd,hdi⟩:=nxI_char hx;obtain⟨d1,d2,d3⟩:=lock_char4 hdi;refine⟨?_,h1,h4,ok_at hf1 (by decide) (by decide) st_l hx,k+1,?_⟩
   ·intro x hx;rcases List.mem_cons.1 hx with rfl|hx
    ·left;exact⟨rfl,by simp,by simp;omega⟩
    ·exact hkinds x hx
   ·rw[step_take ht hc hd (.inl rfl)];simp only[RS.push,RS.mark,RS.to];rw[now_push,mark_eq hkinds.locks,d2,d1]
 rw[if_neg hb]
 by_cases he:c=93
 ·rw[if_pos he];subst he;unfold RS.regionEnd
  by_cases htop:r.top=1
  ·rw[if_pos htop];refine⟨by simp,fun _=>?_⟩;obtain⟨pl,th,op,mks⟩:=r;cases op with
   | nil=>simp[RS.top]at htop
   | cons x o=>
    simp only[RS.top]at htop;simp only at hf ht hc h1 h4 hkinds hlt;have hx:=hkinds x (List.mem_cons_self ..);refine⟨fun y hy=>hkinds y (List.mem_cons_of_mem _ hy),h1,h4,?_,k+1,?_⟩
    ·refine fw_step hf hc ?_;simp only[encR];rw[nxt_skip (by rfl),nxt_tail];simp only[htop,if_true,RS.pop,RS.to];rfl
    ·rw[step_give ht hc (.inl rfl)];simp only[RS.pop,RS.to,List.tail_cons];rcases hx with⟨_,hx0,_⟩|⟨hx0,_⟩
     ·simp[nowOf,hx0]
     ·omega
  ·rw[if_neg htop];refine⟨fun _=>fail_tail hlt hf hc rfl ?_,by simp⟩;rw[nxt_tail];cases hop:r.op with
   | nil=>simp only;split<;>rfl
   | cons x o=>
    simp only[RS.top,hop]at htop;simp only[if_neg htop]
    split<;>rfl
 rw[if_neg he]
 by_cases hm:c=60
 ·rw[if_pos hm];subst hm;exact mended_sim hkinds h1 h4 hlt hf hc ht
 rw[if_neg hm]
 by_cases hq:c=63
 ·rw[if_pos hq];subst hq;exact bodyBegin_sim 3 (.inl rfl) ([66,125,123,66,125]++encR r) hkinds h1 h4 hlt (fw_step hf hc (by rw[nxR r 63 [123,66,125,123,66,125] rfl];rfl)) rfl (step_one ht hc (by simp))
 rw[if_neg hq]
 by_cases hw:c=33
 ·rw[if_pos hw];subst hw;exact bodyBegin_sim 4 (.inr rfl) ([66,125]++encR r) hkinds h1 h4 hlt (fw_step hf hc (by rw[nxR r 33 [123,66,125] rfl];rfl)) rfl (step_one ht hc (by simp))
 rw[if_neg hw]
 by_cases hr:c=125
 ·rw[if_pos hr];subst hr;unfold RS.bodyEnd
  by_cases h3:r.top=3
  ·rw[if_pos h3];obtain⟨pl,th,op,mks⟩:=r;cases op with
   | nil=>simp[RS.top]at h3
   | cons x o=>
    simp only[RS.top]at h3;simp only at hf ht hc h1 h4 hkinds hlt;have hx:=hkinds x (List.mem_cons_self ..);have hx2:x.2=-1:=by
     rcases hx with⟨e,_⟩|⟨_,e⟩
     ·omega
     ·exact e
    have hnow:nowOf (x::o)=nowOf o:=by simp[nowOf,hx2]
    refine bodyBegin_sim (r:=RS.pop ⟨pl,th,x::o,mks⟩) 4 (.inr rfl) (66::encT ((4,x.2)::o) th) (fun y hy=>hkinds y (List.mem_cons_of_mem _ hy)) h1 h4 hlt ?_ rfl (k:=k+1) ?_
    ·refine fw_step hf hc ?_;simp only[encR];rw[nxt_skip (by rfl),nxt_tail];simp only[h3];rfl
    ·rw[step_one ht hc (by simp)];simp only[RS.pop,List.tail_cons,hnow]
  ·rw[if_neg h3]
   by_cases h44:r.top=4
   ·rw[if_pos h44];refine⟨by simp,fun _=>?_⟩;obtain⟨pl,th,op,mks⟩:=r;cases op with
    | nil=>simp[RS.top]at h44
    | cons x o=>
     simp only[RS.top]at h44;simp only at hf ht hc h1 h4 hkinds hlt;have hx:=hkinds x (List.mem_cons_self ..);have hx2:x.2=-1:=by
      rcases hx with⟨e,_⟩|⟨_,e⟩
      ·omega
      ·exact e
     have hnow:nowOf (x::o)=nowOf o:=by simp[nowOf,hx2]
     refine⟨fun y hy=>hkinds y (List.mem_cons_of_mem _ hy),h1,h4,?_,k+1,?_⟩
     ·refine fw_step hf hc ?_;simp only[encR];rw[nxt_skip (by rfl),nxt_tail];simp only[h44];rfl
     ·rw[step_one ht hc (by simp)];simp only[RS.pop,RS.to,List.tail_cons,hnow]
   ·rw[if_neg h44];refine⟨fun _=>fail_tail hlt hf hc rfl ?_,by simp⟩;rw[nxt_tail];cases hop:r.op with
    | nil=>simp only;split<;>rfl
    | cons x o=>
     have hx:=hkinds x (by rw[hop];exact List.mem_cons_self ..);simp only[RS.top,hop]at h3 h44;rcases hx with⟨e,_⟩|⟨e,_⟩
     ·simp only[e,if_true];rfl
     ·omega
 rw[if_neg hr]
 by_cases hbar:c=124
 ·rw[if_pos hbar];subst hbar;unfold RS.nextThread
  by_cases hn:r.op≠[]∨4≤r.th
  ·rw[if_pos hn];refine⟨fun _=>fail_tail hlt hf hc rfl ?_,by simp⟩;rw[nxt_tail];cases hop:r.op with
   | nil=>
    have:¬r.th<4:=by
     rcases hn with hn|hn
     ·exact absurd hop hn
     ·omega
    simp only[if_neg this]
   | cons x o=>
    simp only
    split
    ·rfl
    ·split<;>rfl
  ·rw[if_neg hn];refine⟨by simp,fun _=>?_⟩;simp only[not_or,ne_eq,Decidable.not_not]at hn;obtain⟨hop,hth⟩:=hn;refine⟨hkinds,by simp;omega,by simp;omega,?_,k+1,?_⟩
   ·refine fw_step hf hc ?_;simp only[encR];rw[nxt_skip (by rfl),nxt_tail,hop];simp only[if_pos (show r.th<4 by omega)];rfl
   ·rw[step_bar ht hc]
 rw[if_neg hbar];refine⟨fun _=>fail_tail hlt hf hc (opnL_none ?_) ?_,by simp⟩
 ·simp only[not_or]at hg ⊢;exact⟨hg.1,hg.2,hi,ho,hb,hm,hq,hw⟩
 ·rw[nxt_tail];cases hop:r.op with
  | nil=>simp only;split<;>simp[hbar]
  | cons x o=>
   simp only
   split
   ·simp[he]
   ·split<;>simp[hr]
theorem Reach.sim{p:List UInt8}{r:RS}(h:Reach p r):Sim p r:=by
 induction h with
 | start=>exact⟨fun x hx=>by simp[RS.start]at hx,by decide,by decide,rfl,0,rfl⟩
 | step _ hl he ih=>
  have:=(piece_sim ih hl).2;rw[he]at this;exact this rfl
def nestB(m:MK):Bool:=m.kind==3&&((m.num==0&&m.h0)||(m.num==1&&m.h1)||(m.num==2&&m.h2)||(m.num==3&&m.h3)||(m.num==4&&m.h4))
def MkOk(m:MK):Prop:=(m.kind=3∧0≤m.num∧m.num<5)∨((m.kind=1∨m.kind=2)∧0≤m.num∧m.num<3)
def MksOk(l:List MK):Prop:=∀m∈l,MkOk m
theorem MksOk.mark{r:RS}{kind start num:Int}(h:MksOk r.mks)(h3:(kind=3∧0≤num∧num<5)∨((kind=1∨kind=2)∧0≤num∧num<3)):MksOk (r.mark kind start num).mks:=by
 intro m hm;rcases List.mem_append.1 hm with hm|hm
 ·exact h m hm
 ·rw[List.mem_singleton]at hm;subst hm;exact h3
theorem nxI_bound{p:List UInt8}{q i:Nat}{al:List UInt8}(h:nxI p q al=some i):i<al.length:=by
 obtain⟨c,_,hi⟩:=nxI_char h;exact(List.getElem?_eq_some_iff.1 hi).1
theorem access_mks{p:List UInt8}{r:RS}(h:MksOk r.mks):MksOk (r.access p).1.mks:=by
 unfold RS.access
 split
 ·exact h
 ·split
  ·exact h
  ·have:=nxI_bound (by assumption);refine MksOk.mark h (.inr ⟨?_,by omega,by simp at this;omega⟩)
   split<;>simp
theorem bodyBegin_mks{p:List UInt8}{r:RS}(k:Int)(h:MksOk r.mks):MksOk (r.bodyBegin p k).1.mks:=by
 unfold RS.bodyBegin
 split<;>exact h
theorem piece_mks{p:List UInt8}{r:RS}(h:MksOk r.mks):MksOk (r.piece p).1.mks:=by
 unfold RS.piece
 split
 ·exact h
 split
 ·exact access_mks h
 split
 ·unfold RS.addition;split<;>exact h
 split
 ·exact h
 split
 ·unfold RS.regionBegin
  split
  ·exact h
  ·have:=nxI_bound (by assumption);exact MksOk.mark h (.inl ⟨rfl,by omega,by simp at this;omega⟩)
 split
 ·unfold RS.regionEnd;split<;>exact h
 split
 ·unfold RS.mended
  split
  ·exact h
  ·have:=nxI_bound (by assumption);rename_i l hx;have hm:MksOk (((r.to 2).mark 3 r.pl l).push 2 l).mks:=MksOk.mark h (.inl ⟨rfl,by omega,by simp at this;omega⟩);have ha:=access_mks (p:=p) hm
   split
   ·rename_i r3 hq;rw[hq]at ha;exact ha
   ·rename_i r3 hq;rw[hq]at ha
    split<;>exact ha
 split
 ·exact bodyBegin_mks 3 h
 split
 ·exact bodyBegin_mks 4 h
 split
 ·unfold RS.bodyEnd
  split
  ·exact bodyBegin_mks 4 h
  ·split<;>exact h
 split
 ·unfold RS.nextThread;split<;>exact h
 ·exact h
theorem Reach.mks{p:List UInt8}{r:RS}(h:Reach p r):MksOk r.mks:=by
 induction h with
 | start=>intro m hm;simp[RS.start]at hm
 | step _ _ he ih=>
  have:=piece_mks (p:=p) ih;rw[he]at this;exact this
structure Acc(p:List UInt8)(mks:List MK):Prop where
 form:∃f,fw p p.length=some f∧wholeF f=true
 toks:∃k now th,tw p k=⟨p.length,now,th,mks⟩
 marks:MksOk mks
theorem whole_enc(r:RS)(_h:KindsOk r.op):wholeF (encR r)=decide (r.op=[]):=by
 cases hop:r.op with
 | nil=>simp[encR,encT,wholeF,hop,encS]
 | cons x o=>
  simp only[encR,encT,wholeF,hop,encS];rw[show decide (x::o=[])=false by simp]
  split
  ·rfl
  ·split<;>rfl
theorem acc_of{p:List UInt8}{r:RS}(h:Reach p r)(he:r.pl=p.length)(ho:r.op=[]):Acc p r.mks:=by
 obtain⟨hk,_,_,hf,k,ht⟩:=h.sim;refine⟨⟨encR r,by rw[←he];exact hf,by rw[whole_enc r hk,ho];rfl⟩,⟨k,_,_,by rw[ht,he]⟩,h.mks⟩
theorem fail_end{p:List UInt8}{r:RS}(h:Reach p r)(he:r.pl=p.length)(ho:r.op≠[]):Fail p r.pl:=by
 obtain⟨hk,_,_,hf,k,ht⟩:=h.sim;right;exact⟨he,encR r,hf,by rw[whole_enc r hk];simpa using ho⟩
theorem fail_piece{p:List UInt8}{r:RS}(h:Reach p r)(hlt:r.pl<p.length)(hf:(r.piece p).2=false):Fail p (r.piece p).1.pl:=(piece_sim h.sim hlt).1 hf
theorem fw_prefix{p:List UInt8}{a b:Nat}{f:List UInt8}(h:fw p b=some f)(hab:a≤b):∃g,fw p a=some g:=by
 induction b generalizing f with
 | zero=>exact⟨f,by rw[show a=0 by omega];exact h⟩
 | succ b ih=>
  by_cases e:a=b+1
  ·exact⟨f,by rw[e];exact h⟩
  ·have h':=h;rw[fw]at h';cases hb:fw p b with
   | none=>rw[hb]at h';cases h'
   | some g=>exact ih hb (by omega)
theorem fail_none{p:List UInt8}{q:Nat}{f:List UInt8}{c:UInt8}(hf:fw p q=some f)(hc:p[q]?=some c)(hn:(nxt f c).2=false):fw p (q+1)=none:=by
 simp[fw,hf,hc,hn]
theorem fail_le{p:List UInt8}{q:Nat}(h:Fail p q):q≤p.length:=by
 rcases h with⟨_,_,h,_⟩|⟨h,_⟩<;>omega
theorem fail_unique{p:List UInt8}{a b:Nat}(ha:Fail p a)(hb:Fail p b):a=b:=by
 have key:∀a b,Fail p a→Fail p b→¬a<b:=by
  intro a b ha hb hlt;have hbl:=fail_le hb;rcases ha with⟨f,c,hl,hf,hc,hn⟩|⟨hl,_⟩
  ·have h0:=fail_none hf hc hn;have hbf:∃g,fw p b=some g:=by
    rcases hb with⟨g,_,_,hg,_⟩|⟨_,g,hg,_⟩<;>exact⟨g,hg⟩
   obtain⟨g,hg⟩:=hbf;obtain⟨g',hg'⟩:=fw_prefix hg (show a+1≤b by omega);rw[h0]at hg';cases hg'
  ·omega
 have h1:=key a b ha hb;have h2:=key b a hb ha;omega
theorem fail_not_acc{p:List UInt8}{q:Nat}{mks:List MK}(hf:Fail p q)(ha:Acc p mks):False:=by
 obtain⟨⟨f,hff,hw⟩,_,_⟩:=ha;rcases hf with⟨g,c,hl,hg,hc,hn⟩|⟨hl,g,hg,hn⟩
 ·obtain⟨g',hg'⟩:=fw_prefix hff (show q+1≤p.length by omega);rw[fail_none hg hc hn]at hg';cases hg'
 ·rw[hl,hff]at hg;cases hg;rw[hw]at hn;cases hn
theorem tw_stay{p:List UInt8}{k:Nat}(h:p.length≤(tw p k).i)(j:Nat):tw p (k+j)=tw p k:=by
 induction j with
 | zero=>rfl
 | succ j ih=>
  rw[←Nat.add_assoc,tw,ih,if_neg (by omega)]
theorem tw_final{p:List UInt8}{k j:Nat}(hk:p.length≤(tw p k).i)(hj:p.length≤(tw p j).i):tw p k=tw p j:=by
 rcases Nat.le_total k j with h|h
 ·obtain⟨d,rfl⟩:=Nat.exists_eq_add_of_le h;exact(tw_stay hk d).symm
 ·obtain⟨d,rfl⟩:=Nat.exists_eq_add_of_le h;exact tw_stay hj d
theorem acc_unique{p:List UInt8}{a b:List MK}(ha:Acc p a)(hb:Acc p b):a=b:=by
 obtain⟨_,⟨k,n,t,hk⟩,_⟩:=ha;obtain⟨_,⟨j,n',t',hj⟩,_⟩:=hb;have:=tw_final (p:=p) (k:=k) (j:=j) (by rw[hk];exact Nat.le_refl _) (by rw[hj];exact Nat.le_refl _);rw[hk,hj]at this;exact(TS.mk.injEq .. ▸ this).2.2.2
theorem sizeU_pos(c:UInt8):1≤sizeU c:=by unfold sizeU;split<;>omega
theorem tw_grow(p:List UInt8)(k j:Nat):(tw p k).i≤(tw p (k+j)).i∧∃l,(tw p (k+j)).mks=(tw p k).mks++l:=by
 induction j with
 | zero=>exact⟨Nat.le_refl _,[],by simp⟩
 | succ j ih=>
  obtain⟨h1,l,hl⟩:=ih;rw[←Nat.add_assoc,tw]
  split
  ·rename_i hlt;unfold tstep;rw[List.getElem?_eq_getElem hlt];simp only;have:=sizeU_pos p[(tw p (k+j)).i];refine⟨by omega,?_⟩
   split
   ·exact⟨l++_,by rw[hl,List.append_assoc]⟩
   ·split
    ·exact⟨l++_,by rw[hl,List.append_assoc]⟩
    ·exact⟨l,hl⟩
  ·exact⟨h1,l,hl⟩
theorem acc_room{p:List UInt8}{mks:List MK}(h:Acc p mks){k:Nat}{c:UInt8}(hlt:(tw p k).i<p.length)(hc:p[(tw p k).i]?=some c):(tw p k).i+sizeU c≤p.length∧∃l,mks=(tw p (k+1)).mks++l:=by
 obtain⟨_,⟨j,n,t,hj⟩,_⟩:=h;have hkj:k<j:=by
  rcases Nat.lt_or_ge k j with h|h
  ·exact h
  ·exfalso
   obtain⟨d,rfl⟩:=Nat.exists_eq_add_of_le h;rw[tw_stay (by rw[hj];exact Nat.le_refl _)]at hlt;rw[hj]at hlt;exact absurd hlt (Nat.lt_irrefl _)
 obtain⟨d,rfl⟩:=Nat.exists_eq_add_of_le (show k+1≤j by omega);obtain⟨h1,l,hl⟩:=tw_grow p (k+1) d;rw[hj]at h1 hl;refine⟨?_,l,hl⟩;have e:(tw p (k+1)).i=(tw p k).i+sizeU c:=by
  rw[tw,if_pos hlt,tstep,hc]
 rw[←e];exact h1
theorem acc_end{p:List UInt8}{mks:List MK}(h:Acc p mks){k:Nat}(hge:p.length≤(tw p k).i):(tw p k).mks=mks∧(tw p k).i=p.length:=by
 obtain⟨_,⟨j,n,t,hj⟩,_⟩:=h;have:=tw_final (p:=p) (k:=k) (j:=j) hge (by rw[hj];exact Nat.le_refl _);rw[this,hj];exact⟨rfl,rfl⟩
structure ST where
 kind:Int
 place:Int
 thread:Int
 num:Int
 mend:Bool
 nx:Int
 el:Int
 h0:Bool
 h1:Bool
 h2:Bool
 h3:Bool
 h4:Bool
abbrev OP:=Int×Int×Int
structure RT where
 pl:Nat
 th:Int
 op:List OP
 st:List ST
def hldT(op:List OP)(i:Int):Bool:=op.any fun x=>x.2.1==i
def RT.to(r:RT)(n:Nat):RT:=⟨r.pl+n,r.th,r.op,r.st⟩
def stepT(r:RT)(kind place num:Int)(mend:Bool):ST:=⟨kind,place,r.th,num,mend,(r.st.length:Int)+1,0,hldT r.op 0,hldT r.op 1,hldT r.op 2,hldT r.op 3,hldT r.op 4⟩
def RT.step(r:RT)(kind place num:Int)(mend:Bool):RT:=⟨r.pl,r.th,r.op,r.st++[stepT r kind place num mend]⟩
def RT.push(r:RT)(k l f:Int):RT:=⟨r.pl,r.th,(k,l,f)::r.op,r.st⟩
def RT.pop(r:RT):RT:=⟨r.pl,r.th,r.op.tail,r.st⟩
def RT.top(r:RT):OP:=match r.op with|[]=>(0,-1,0)|x::_=>x
def leadL(st:List ST)(f t:Int):List ST:=if 0≤f then match st[f.toNat]? with|some s=>st.set f.toNat { s with nx:=t }|none=>st else st
def elseL(st:List ST)(f t:Int):List ST:=if 0≤f then match st[f.toNat]? with|some s=>st.set f.toNat { s with el:=t }|none=>st else st
def RT.lead(r:RT)(f t:Int):RT:=⟨r.pl,r.th,r.op,leadL r.st f t⟩
def RT.els(r:RT)(f:Int):RT:=⟨r.pl,r.th,r.op,elseL r.st f r.st.length⟩
def RT.access(p:List UInt8)(r:RT):RT×Bool:=
 match nxI p r.pl [103,112]with
 | none=>(r,false)
 | some i=>match nxI p (r.pl+1) [120,121,122]with
  | none=>(r.to 1,false)
  | some g=>((r.to 2).step (if i=1 then 2 else 1) r.pl g false,true)
def RT.addition(p:List UInt8)(r:RT):RT×Bool:=
 match nxI p (r.pl+1) [48,49,50,51,52,53,54,55,56,57]with
 | none=>(r.to 1,false)
 | some d=>((r.to 2).step 3 r.pl d false,true)
def RT.print(r:RT):RT:=(r.step 4 r.pl 0 false).to 1
def RT.regionBegin(p:List UInt8)(r:RT):RT×Bool:=
 match nxI p (r.pl+1) [65,66,67,68]with
 | none=>(r.to 1,false)
 | some l=>(((r.to 2).step 6 r.pl l false).push 1 l 0,true)
def RT.regionEnd(r:RT):RT×Bool:=if r.top.1=1 then((r.pop.step 7 r.pl r.top.2.1 false).to 1,true)else(r,false)
def RT.mended(p:List UInt8)(r:RT):RT×Bool:=
 match nxI p (r.pl+1) [65,66,67,68,69]with
 | none=>(r.to 1,false)
 | some l=>match (((r.to 2).step 6 r.pl l true).push 2 l 0).access p with
  | (r3,false)=>(r3,false)
  | (r3,true)=>match nxI p r3.pl [62]with
   | none=>(r3.pop,false)
   | some _=>((r3.pop.to 1).step 7 r3.pl l true,true)
def RT.bodyBegin(p:List UInt8)(r:RT)(k:Int):RT×Bool:=
 match nxI p (r.pl+1) [123]with
 | none=>(r.to 1,false)
 | some _=>((r.to 2).push k (-1) ((r.st.length:Int)-1),true)
def RT.test(p:List UInt8)(r:RT)(k:Int):RT×Bool:=(r.step 5 r.pl 0 false).bodyBegin p k
def RT.bodyEnd(p:List UInt8)(r:RT):RT×Bool:=
 if r.top.1=3 then((r.pop.step 8 r.pl 0 false).els r.top.2.2).bodyBegin p 4
 else if r.top.1=4 then((r.pop.lead r.top.2.2 r.st.length).to 1,true)
 else if r.top.1=5 then((((r.pop.step 8 r.pl 0 false).lead r.st.length r.top.2.2).els r.top.2.2).to 1,true)
 else(r,false)
def RT.nextThread(r:RT):RT×Bool:=if r.op≠[]∨4≤r.th then(r,false)else(⟨r.pl+1,r.th+1,r.op,(r.step 9 r.pl 0 false).st⟩,true)
def RT.piece(p:List UInt8)(r:RT):RT×Bool:=
 match p[r.pl]? with
 | none=>(r,false)
 | some c=>
  if c=103∨c=112 then r.access p
  else if c=105 then r.addition p
  else if c=111 then(r.print,true)
  else if c=91 then r.regionBegin p
  else if c=93 then r.regionEnd
  else if c=60 then r.mended p
  else if c=63 then r.test p 3
  else if c=33 then r.test p 5
  else if c=125 then r.bodyEnd p
  else if c=124 then r.nextThread
  else(r,false)
def RT.start:RT:=⟨0,1,[],[]⟩
inductive ReachT(p:List UInt8):RT→Prop
 | start:ReachT p RT.start
 | step {r r':RT}:ReachT p r→r.pl<p.length→r.piece p=(r',true)→ReachT p r'
def opP(x:OP):Int×Int:=(if x.1=5 then 4 else x.1,x.2.1)
def mkS(s:ST):Option MK:=
 if s.kind=6 then some ⟨3,s.place,s.thread,s.num,s.h0,s.h1,s.h2,s.h3,s.h4⟩
 else if s.kind=1∨s.kind=2 then some ⟨s.kind,s.place,s.thread,s.num,s.h0,s.h1,s.h2,s.h3,s.h4⟩else none
def mksS(l:List ST):List MK:=l.filterMap mkS
def RT.proj(r:RT):RS:=⟨r.pl,r.th,r.op.map opP,mksS r.st⟩
theorem hld_proj(op:List OP)(i:Int):hld (op.map opP) i=hldT op i:=by
 simp only[hld,hldT,List.any_map];rfl
theorem mksS_append(a b:List ST):mksS (a++b)=mksS a++mksS b:=by simp[mksS]
theorem mksS_set(l:List ST)(i:Nat)(s t:ST)(h:l[i]?=some s)(hk:mkS t=mkS s):mksS (l.set i t)=mksS l:=by
 induction l generalizing i with
 | nil=>rfl
 | cons x r ih=>
  cases i with
  | zero=>simp at h;subst h;simp[mksS,List.filterMap_cons,hk]
  | succ i=>
   have:=ih i (by simpa using h);simp only[mksS,List.set_cons_succ,List.filterMap_cons]at this ⊢;rw[this]
theorem mksS_lead(l:List ST)(f t:Int):mksS (leadL l f t)=mksS l:=by
 unfold leadL;split
 ·split
  ·rename_i s hs;exact mksS_set _ _ s _ hs rfl
  ·rfl
 ·rfl
theorem mksS_else(l:List ST)(f t:Int):mksS (elseL l f t)=mksS l:=by
 unfold elseL;split
 ·split
  ·rename_i s hs;exact mksS_set _ _ s _ hs rfl
  ·rfl
 ·rfl
theorem proj_step_no(r:RT)(kind place num:Int)(m:Bool)(h:kind≠6)(h1:kind≠1)(h2:kind≠2):(r.step kind place num m).proj=r.proj:=by
 simp[RT.proj,RT.step,mksS,stepT,mkS,h,h1,h2]
theorem proj_step_acc(r:RT)(kind place num:Int)(m:Bool)(h:kind=1∨kind=2):(r.step kind place num m).proj=r.proj.mark kind place num:=by
 have h6:kind≠6:=by omega
 simp[RT.proj,RT.step,mksS,stepT,mkS,h,h6,RS.mark,hld_proj]
theorem proj_step_take(r:RT)(place num:Int)(m:Bool):(r.step 6 place num m).proj=r.proj.mark 3 place num:=by
 simp[RT.proj,RT.step,mksS,stepT,mkS,RS.mark,hld_proj]
theorem proj_to(r:RT)(n:Nat):(r.to n).proj=r.proj.to n:=rfl
theorem proj_push(r:RT)(k l f:Int)(h:k≠5):(r.push k l f).proj=r.proj.push k l:=by
 simp[RT.proj,RT.push,RS.push,opP,h]
theorem proj_push5(r:RT)(l f:Int):(r.push 5 l f).proj=r.proj.push 4 l:=by
 simp[RT.proj,RT.push,RS.push,opP]
theorem proj_pop(r:RT):r.pop.proj=r.proj.pop:=by simp[RT.proj,RT.pop,RS.pop,List.map_tail]
theorem proj_lead(r:RT)(f t:Int):(r.lead f t).proj=r.proj:=by simp[RT.proj,RT.lead,mksS_lead]
theorem proj_els(r:RT)(f:Int):(r.els f).proj=r.proj:=by simp[RT.proj,RT.els,mksS_else]
theorem proj_top(r:RT):r.proj.top=if r.top.1=5 then 4 else r.top.1:=by
 obtain⟨pl,th,op,st⟩:=r;cases op with
 | nil=>rfl
 | cons x o=>rfl
def Same(x:RT×Bool)(y:RS×Bool):Prop:=x.2=y.2∧x.1.pl=y.1.pl∧(x.2=true→x.1.proj=y.1)
theorem Same.mk'{r:RT}{q:RS}{b:Bool}(h:r.proj=q):Same (r,b) (q,b):=⟨rfl,by rw[←h];rfl,fun _=>h⟩
theorem access_same(p:List UInt8)(r:RT):Same (r.access p) (r.proj.access p):=by
 unfold RT.access RS.access;show Same _ (match nxI p r.pl [103,112]with|none=>_|some i=>match nxI p (r.pl+1) [120,121,122]with|none=>_|some g=>_);cases nxI p r.pl [103,112]with
 | none=>exact .mk' rfl
 | some i=>
  cases nxI p (r.pl+1) [120,121,122]with
  | none=>exact .mk' rfl
  | some g=>exact .mk' (proj_step_acc _ _ _ _ _ (by split<;>simp))
theorem bodyBegin_same(p:List UInt8)(r:RT)(k k':Int)(h:(k≠5∧k'=k)∨(k=5∧k'=4)):Same (r.bodyBegin p k) (r.proj.bodyBegin p k'):=by
 unfold RT.bodyBegin RS.bodyBegin;show Same _ (match nxI p (r.pl+1) [123]with|none=>_|some _=>_);cases nxI p (r.pl+1) [123]with
 | none=>exact .mk' rfl
 | some i=>
  rcases h with⟨h,rfl⟩|⟨rfl,rfl⟩
  ·exact .mk' (by rw[proj_push _ _ _ _ h];rfl)
  ·exact .mk' (by rw[proj_push5];rfl)
theorem mended_same(p:List UInt8)(r:RT):Same (r.mended p) (r.proj.mended p):=by
 unfold RT.mended RS.mended;show Same _ (match nxI p (r.pl+1) [65,66,67,68,69]with|none=>_|some l=>_);cases nxI p (r.pl+1) [65,66,67,68,69]with
 | none=>exact .mk' rfl
 | some l=>
  simp only;have h:=access_same p (((r.to 2).step 6 r.pl l true).push 2 l 0);rw[proj_push _ _ _ _ (by decide),proj_step_take,proj_to]at h;show Same _ (match (((r.proj.to 2).mark 3 r.pl l).push 2 l).access p with|(r3,false)=>(r3,false)|(r3,true)=>_);revert h;cases (((r.to 2).step 6 r.pl l true).push 2 l 0).access p with
  | mk r3 ok=>
   cases (((r.proj.to 2).mark 3 r.pl l).push 2 l).access p with
   | mk q3 ok'=>
    rintro⟨e1,e2,e3⟩;simp only at e1 e2 e3;subst e1;cases ok with
    | false=>exact⟨rfl,e2,by simp⟩
    | true=>
     have:=e3 rfl;subst this;show Same (match nxI p r3.pl [62]with|none=>(r3.pop,false)|some _=>((r3.pop.to 1).step 7 r3.pl l true,true)) (match nxI p r3.pl [62]with|none=>(r3.proj,false)|some _=>((r3.proj.to 1).pop,true));cases nxI p r3.pl [62]with
     | none=>exact⟨rfl,rfl,by simp⟩
     | some j=>exact .mk' (by rw[proj_step_no _ _ _ _ _ (by decide) (by decide) (by decide),proj_to,proj_pop];rfl)
theorem piece_same(p:List UInt8)(r:RT):Same (r.piece p) (r.proj.piece p):=by
 unfold RT.piece RS.piece;show Same _ (match p[r.pl]? with|none=>_|some c=>_);cases p[r.pl]? with
 | none=>exact .mk' rfl
 | some c=>
  simp only
  split
  ·exact access_same p r
  split
  ·unfold RT.addition RS.addition;show Same _ (match nxI p (r.pl+1) [48,49,50,51,52,53,54,55,56,57]with|none=>_|some _=>_);cases nxI p (r.pl+1) [48,49,50,51,52,53,54,55,56,57]with
   | none=>exact .mk' rfl
   | some d=>exact .mk' (by rw[proj_step_no _ _ _ _ _ (by decide) (by decide) (by decide),proj_to])
  split
  ·exact .mk' (by rw[RT.print,proj_to,proj_step_no _ _ _ _ _ (by decide) (by decide) (by decide)])
  split
  ·unfold RT.regionBegin RS.regionBegin;show Same _ (match nxI p (r.pl+1) [65,66,67,68]with|none=>_|some _=>_);cases nxI p (r.pl+1) [65,66,67,68]with
   | none=>exact .mk' rfl
   | some l=>exact .mk' (by rw[proj_push _ _ _ _ (by decide),proj_step_take,proj_to];rfl)
  split
  ·unfold RT.regionEnd RS.regionEnd;rw[proj_top]
   by_cases ht:r.top.1=1
   ·have e:(if r.top.1=5 then(4:Int)else r.top.1)=1:=by rw[ht];rfl
    rw[if_pos ht,if_pos e];exact .mk' (by rw[proj_to,proj_step_no _ _ _ _ _ (by decide) (by decide) (by decide),proj_pop];rfl)
   ·rw[if_neg ht];have:(if r.top.1=5 then(4:Int)else r.top.1)≠1:=by split<;>omega
    rw[if_neg this];exact .mk' rfl
  split
  ·exact mended_same p r
  split
  ·have:=bodyBegin_same p (r.step 5 r.pl 0 false) 3 3 (.inl ⟨by decide,rfl⟩);rw[proj_step_no _ _ _ _ _ (by decide) (by decide) (by decide)]at this;exact this
  split
  ·have:=bodyBegin_same p (r.step 5 r.pl 0 false) 5 4 (.inr ⟨rfl,rfl⟩);rw[proj_step_no _ _ _ _ _ (by decide) (by decide) (by decide)]at this;exact this
  split
  ·unfold RT.bodyEnd RS.bodyEnd;rw[proj_top]
   by_cases h3:r.top.1=3
   ·have e:(if r.top.1=5 then(4:Int)else r.top.1)=3:=by rw[h3];rfl
    rw[if_pos h3,if_pos e];have:=bodyBegin_same p ((r.pop.step 8 r.pl 0 false).els r.top.2.2) 4 4 (.inl ⟨by decide,rfl⟩);rw[proj_els,proj_step_no _ _ _ _ _ (by decide) (by decide) (by decide),proj_pop]at this;exact this
   ·rw[if_neg h3]
    by_cases h4:r.top.1=4
    ·have e:(if r.top.1=5 then(4:Int)else r.top.1)=4:=by rw[h4];rfl
     rw[if_pos h4,e,if_neg (by decide),if_pos rfl];exact .mk' (by rw[proj_to,proj_lead,proj_pop])
    ·rw[if_neg h4]
     by_cases h5:r.top.1=5
     ·have e:(if r.top.1=5 then(4:Int)else r.top.1)=4:=by rw[h5];rfl
      rw[if_pos h5,e,if_neg (by decide),if_pos rfl];exact .mk' (by rw[proj_to,proj_els,proj_lead,proj_step_no _ _ _ _ _ (by decide) (by decide) (by decide),proj_pop])
     ·rw[if_neg h5,if_neg h5,if_neg h3,if_neg h4];exact .mk' rfl
  split
  ·unfold RT.nextThread RS.nextThread;show Same _ (if r.op.map opP≠[]∨4≤r.th then _ else _)
   by_cases hn:r.op≠[]∨4≤r.th
   ·rw[if_pos hn,if_pos (by simpa using hn)];exact .mk' rfl
   ·rw[if_neg hn,if_neg (by simpa using hn)];refine .mk' ?_;have:=proj_step_no r 9 r.pl 0 false (by decide) (by decide) (by decide);simp only[RT.proj,RT.step,RS.mk.injEq]at this ⊢;exact⟨trivial,trivial,trivial,this.2.2.2⟩
  ·exact .mk' rfl
theorem ReachT.proj{p:List UInt8}{r:RT}(h:ReachT p r):Reach p r.proj:=by
 induction h with
 | start=>exact .start
 | @step r r' h hl he ih=>
  have hs:=piece_same p r;rw[he]at hs;refine .step ih hl ?_;have e1:=hs.1;have e2:=hs.2.2 rfl;simp only at e1 e2;rw[e2,e1]
theorem lead_len(l:List ST)(f t:Int):(leadL l f t).length=l.length:=by unfold leadL;split<;>(try split)<;>simp
theorem else_len(l:List ST)(f t:Int):(elseL l f t).length=l.length:=by unfold elseL;split<;>(try split)<;>simp
theorem access_len{p:List UInt8}{r:RT}(h:r.st.length≤r.pl):(r.access p).1.st.length≤(r.access p).1.pl∧(r.access p).1.pl≤r.pl+2∧((r.access p).2=true→(r.access p).1.st.length+1≤(r.access p).1.pl):=by
 unfold RT.access
 split
 ·exact⟨h,by simp,by simp⟩
 ·split
  ·simp[RT.to];omega
  ·simp[RT.to,RT.step];omega
theorem bodyBegin_len{p:List UInt8}{r:RT}(k:Int)(h:r.st.length≤r.pl+1):(r.bodyBegin p k).1.st.length≤(r.bodyBegin p k).1.pl:=by
 unfold RT.bodyBegin
 split
 ·simp[RT.to];omega
 ·simp[RT.to,RT.push];omega
theorem piece_len{p:List UInt8}{r:RT}(h:r.st.length≤r.pl)(hk:(r.piece p).2=true):(r.piece p).1.st.length≤(r.piece p).1.pl:=by
 revert hk;unfold RT.piece
 split
 ·simp
 split
 ·exact fun _=>(access_len h).1
 split
 ·unfold RT.addition;split
  ·simp
  ·intro _;simp[RT.to,RT.step];omega
 split
 ·intro _;simp[RT.print,RT.to,RT.step];omega
 split
 ·unfold RT.regionBegin;split
  ·simp
  ·intro _;simp[RT.to,RT.step,RT.push];omega
 split
 ·unfold RT.regionEnd;split
  ·intro _;simp[RT.to,RT.step,RT.pop];omega
  ·simp
 split
 ·unfold RT.mended;split
  ·simp
  ·rename_i l _;have ha:=access_len (p:=p) (r:=((r.to 2).step 6 r.pl l true).push 2 l 0) (by simp[RT.to,RT.step,RT.push];omega)
   split
   ·simp
   ·rename_i r3 he;rw[he]at ha
    split
    ·simp
    ·intro _;have:=ha.2.2 rfl;simp[RT.to,RT.step,RT.pop]at this ⊢;omega
 split
 ·exact fun _=>bodyBegin_len _ (by simp[RT.step];omega)
 split
 ·exact fun _=>bodyBegin_len _ (by simp[RT.step];omega)
 split
 ·unfold RT.bodyEnd;split
  ·exact fun _=>bodyBegin_len _ (by simp[RT.step,RT.pop,RT.els,else_len];omega)
  ·split
   ·intro _;simp[RT.to,RT.lead,RT.pop,lead_len];omega
   ·split
    ·intro _;simp[RT.to,RT.lead,RT.els,RT.pop,RT.step,lead_len,else_len];omega
    ·simp
 split
 ·unfold RT.nextThread;split
  ·simp
  ·intro _;simp[RT.step];omega
 ·simp
structure BT(p:List UInt8)(r:RT):Prop where
 pl:r.pl≤p.length
 op:r.op.length≤r.pl
 st:r.st.length≤r.pl
 th:1≤r.th
theorem ReachT.bd{p:List UInt8}{r:RT}(h:ReachT p r):BT p r:=by
 have hb:=h.proj.bd;have h1:r.st.length≤r.pl:=by
  induction h with
  | start=>simp[RT.start]
  | step h hl he ih=>
   have:=piece_len (p:=p) (ih h.proj.bd) (by rw[he]);rw[he]at this;exact this
 exact⟨hb.pl,by have:=hb.op;simpa[RT.proj]using this,h1,hb.th⟩
theorem pieceT_gt{p:List UInt8}{r:RT}(h:ReachT p r)(hl:r.pl<p.length)(hk:(r.piece p).2=true):r.pl<(r.piece p).1.pl:=by
 have hs:=piece_same p r;have:=(piece_bd h.proj.bd hl).2 (by rw[←hs.1];exact hk);rw[hs.2.1];exact this
end Go.Proofs.YtdgkpkdinfklaabGreat
