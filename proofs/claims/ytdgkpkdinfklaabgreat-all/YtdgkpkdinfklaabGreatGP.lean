import Derived.Test.YtdgkpkdinfklaabGreatGO
namespace Go.Proofs.YtdgkpkdinfklaabGreat
open Go.RowKit
structure Fit(F:List ST)(ths:List TH)(c:CS):Prop where
 n4:ths.length≤4
 th:∀t∈ths,ThOk t∧StOk (upc F t.next)∧((upc F t.next).kind=9∨(1≤(upc F t.next).kind∧(upc F t.next).kind≤7))
 pr:c.pr.length≤1000
theorem does_gl(c:CS)(t:TH)(s:ST):(c.does t s).1.gl.length=c.gl.length:=by
 unfold CS.does
 repeat' split
 all_goals simp
theorem does_lk(c:CS)(t:TH)(s:ST):(c.does t s).1.lk.length=c.lk.length:=by
 unfold CS.does
 repeat' split
 all_goals simp
theorem pickM_any(b Bt Bp:Nat)(vs vt vp:Value)(F:List ST)(ths:List TH)(c:CS)(name:UInt8)(w:World)(h:MC w b Bt Bp vs vt vp F ths c)(hF:F.length≤1000)(hg:Fit F ths c) :
  Calls Tryz.prog 68 #[.pointer (some ⟨b,0,none⟩),.int .u8 name.toNat] w fun e w'=>PickOut w b Bt Bp vs vt vp F (pickM F ths c name) e w':=by
 have same:∀{e:Ending} {w':World},e=.returned (.int .u8 46)→Chg [] w w'→PickOut w b Bt Bp vs vt vp F (ths,c,46) e w':=fun he hc=>⟨vp,he,h.later hc,hc.mono (by simp),.inl rfl⟩
 by_cases hneg:(name.toNat:Int)-49<0
 ·have e:pickM F ths c name=(ths,c,46):=by unfold pickM;rw[if_pos hneg]
  rw[e];refine(pick_none b Bt Bp vs vt vp F ths c name w h hg.n4 (.inl hneg)).mono ?_;rintro e w' ⟨he,rfl⟩;exact same he (Chg.refl _ _)
 ·cases ht:ths[name.toNat-49]? with
  | none=>
   have e:pickM F ths c name=(ths,c,46):=by unfold pickM;rw[if_neg hneg,ht]
   rw[e];have hle:=List.getElem?_eq_none_iff.1 ht;refine(pick_none b Bt Bp vs vt vp F ths c name w h hg.n4 (.inr (by omega))).mono ?_;rintro e w' ⟨he,rfl⟩;exact same he (Chg.refl _ _)
  | some t=>
   obtain⟨n,hn⟩:∃n,n=name.toNat-49:=⟨_,rfl⟩;rw[←hn]at ht;have hnm:name.toNat=n+49:=by omega
   obtain⟨g1,g2,g3⟩:=hg.th t (List.mem_of_getElem? ht)
   by_cases hw:(upc F t.next).kind=9∨awaitedM c.lk (upc F t.next)≠0
   ·have e:pickM F ths c name=(ths,c,46):=by unfold pickM;rw[if_neg hneg,←hn,ht];simp only;rw[if_pos hw]
    rw[e,hnm];refine(pick_wait b Bt Bp n vs vt vp F ths c t w h hF hg.n4 ht hw).mono ?_;rintro e w' ⟨he,hc⟩;exact same he hc
   ·obtain⟨o,ho⟩:∃o,o=c.does { t with next:=(upc F t.next).nx,kn:=t.kn.set t.ix (t.kn.get t.ix+1) } (upc F t.next):=⟨_,rfl⟩;have e:pickM F ths c name=(ths.set n o.2.1,o.1,o.2.2):=by unfold pickM;rw[if_neg hneg,←hn,ht];simp only;rw[if_neg hw,←ho]
    rw[e,hnm];simp only[not_or,Decidable.not_not]at hw;exact pick_go b Bt Bp n vs vt vp F ths c t w h hF hg.n4 ht g1 hg.pr g2 (by rcases g3 with g3|g3;exact absurd g3 hw.1;exact g3) hw.2 o ho (by rw[ho,does_gl];exact h.gl3) (by rw[ho,does_lk];exact h.lk5)
structure RU where
 ths:List TH
 c:CS
 done:List UInt8
 race:Int
def cs0:CS:=⟨[gb0,gb0,gb0],[lk0,lk0,lk0,lk0,lk0],[],false⟩
def RU.step(F:List ST)(u:RU)(k:Nat)(x:UInt8):RU:=
 let o:=pickM F u.ths u.c x
 ⟨o.1,o.2.1,u.done++[o.2.2],if o.2.1.raced&&u.race==0 then(k:Int)+1 else u.race⟩
def runU(F:List ST)(p:List UInt8):Nat→RU
 | 0=>⟨startM F F.length,cs0,[],0⟩
 | k+1=>match p[k]? with
  | some x=>(runU F p k).step F k x
  | none=>runU F p k
theorem runU_done(F:List ST)(p:List UInt8)(k:Nat):(runU F p k).done.length≤k:=by
 induction k with
 | zero=>exact Nat.le_refl _
 | succ k ih=>
  rw[runU]
  split
  ·simp[RU.step];exact ih
  ·omega
theorem mV_raced{vs vt vp:Value}{gl:List GB}{lk:List LK}{r:Bool}(h3:gl.length=3)(h5:lk.length=5):(mV vs vt vp gl lk r)[55]?=some (.bool r):=by
 obtain⟨g0,g1,g2,rfl⟩:=three h3;obtain⟨l0,l1,l2,l3,l4,rfl⟩:=fives h5;rfl
theorem mV_pr{vs vt vp:Value}{gl:List GB}{lk:List LK}{r:Bool}(h3:gl.length=3)(h5:lk.length=5):(mV vs vt vp gl lk r)[54]?=some vp:=by
 obtain⟨g0,g1,g2,rfl⟩:=three h3;obtain⟨l0,l1,l2,l3,l4,rfl⟩:=fives h5;rfl
structure RM(w:World)(b Bt:Nat)(vs vt vp v:Value)(F:List ST)(u:RU):Prop where
 mm:MC w b Bt (b+1) vs vt vp F u.ths u.c
 row:w.ownsRow (b+1) 5 1 v u.done.length (bysV u.done)
 ap:∀g,v.ownBlock=some g→vp.ownBlock≠some g
theorem bysV_append(a b:List UInt8):bysV (a++b)=bysV a++bysV b:=by simp[bysV]
theorem RM.picked{w w1:World}{b Bt:Nat}{vs vt vp v:Value}{F:List ST}{u:RU}(h:RM w b Bt vs vt vp v F u){o:List TH×CS×UInt8}{e:Ending}(ho:PickOut w b Bt (b+1) vs vt vp F o e w1) :
  ∃vp',e=.returned (.int .u8 o.2.2.toNat)∧MC w1 b Bt (b+1) vs vt vp' F o.1 o.2.1∧w1.ownsRow (b+1) 5 1 v u.done.length (bysV u.done)∧(∀g,v.ownBlock=some g→vp'.ownBlock≠some g)∧Chg (b::(vt.ownBlock.toList++vp.ownBlock.toList)) w w1:=by
 obtain⟨vp',he,hm,hc,hv⟩:=ho;refine⟨vp',he,hm,row_chg h.row hc (fun g hg=>?_),fun g hg e=>?_,hc⟩
 ·simp;refine⟨fun e=>row_ne h.row h.mm.blk (by decide) (by rw[hg,e]),fun e=>?_,h.ap g hg⟩;exact two_rows h.row h.mm.trow (by decide) g hg e
 ·rcases hv with h1|⟨x,h1,h2⟩
  ·exact h.ap g hg (h1.symm.trans e)
  ·rw[e]at h1;have:=Option.some.inj h1;have:=(h.row.lt g hg).2;omega
theorem RM.laid{w1 w2:World}{b Bt:Nat}{vs vt vp v:Value}{F:List ST}{ths:List TH}{c:CS}{done:List UInt8}{race:Int}{x:UInt8}{o:Obj}{g cap:Nat}(hm:MC w1 b Bt (b+1) vs vt vp F ths c)(hr:w1.ownsRow (b+1) 5 1 v done.length (bysV done))(ap:∀g,v.ownBlock=some g→vp.ownBlock≠some g)
  (hown:w2.ownsRow (b+1) 5 1 (.slice (some ⟨g,0,none⟩) (done.length+1) cap) (done.length+1) (bysV done++[.int .u8 (x.toNat:Int)]))(hgrow:(w1.alloc o).grownBy w2 v.ownBlock)(hat:v.ownBlock=some g∨g=w1.heap.size+1) :
  RM w2 b Bt vs vt vp (.slice (some ⟨g,0,none⟩) (done.length+1) cap) F ⟨ths,c,done++[x],race⟩:=by
 have mA:=hm.later ((Chg.refl [] w1).alloc o);have rA:=hr.alloc o;have hC:Chg v.ownBlock.toList (w1.alloc o) w2:=⟨hgrow.os,hgrow.tape,hgrow.output,hgrow.size,fun i hi hn=>hgrow.block i hi (fun e=>hn (by simp[←e]))⟩;refine⟨⟨mA.blk.chg hC (by simp;exact row_ne rA mA.blk (by decide)),mA.srow.chg hC (fun x hx=>?_),row_chg mA.trow hC (fun x hx=>?_),row_chg mA.prow hC (fun x hx=>?_),hm.gl3,hm.lk5,Nat.le_trans mA.bp hgrow.size⟩,?_,?_⟩
 ·simp;intro e;obtain⟨B,am,cm,rfl,hs⟩:=mA.srow;exact two_rows hs rA (by decide) x hx e
 ·simp;exact two_rows mA.trow rA (by decide) x hx
 ·simp;exact fun e=>ap x e hx
 ·rw[bysV_append,List.length_append];exact hown
 ·intro y hy;have hy':g=y:=by simpa[Value.ownBlock]using hy
  subst hy';rcases hat with h|h
  ·exact ap g h
  ·intro e;have:=(hm.prow.lt g e).2;omega
theorem conv_row{w:World}{B:Nat}{v:Value}{l:List UInt8}(h:w.ownsRow B 5 1 v l.length (bysV l)):Sem.run Tryz.prog (convert 91 9 v) w=.ok (.string ⟨l.toArray⟩) w:=by
 rcases h.2 with⟨hv,hn0⟩|⟨gb,cap,cur,hv,_⟩
 ·have ho:l=[]:=List.eq_nil_of_length_eq_zero hn0;subst hv;subst ho;exact run_convert_bytes_nil (P:=Tryz.prog) w 91 5 Tryz.underlying91 Tryz.underlying5 0 0 9 Tryz.underlying9
 ·subst hv
  exact run_convert_bytes_back (P:=Tryz.prog) w 91 9 5 ⟨gb,0,none⟩ cap l Tryz.underlying91 Tryz.underlying5 Tryz.underlying9 (fun j hj=>by
   rw[addrM];have:=h.cellAt j (by omega);rw[this]
   simp[bysV,List.getElem?_eq_getElem hj])
def RunOut(w:World)(F:List ST)(p:List UInt8)(v:Value)(w':World):Prop:=
 ∃a3 c3 a4 c4,v=.agg #[.string ⟨(runU F p p.length).done.toArray⟩,.string ⟨(runU F p p.length).c.pr.toArray⟩,.slice a3 3 c3,.slice a4 (runU F p p.length).ths.length c4,.int .i64 (runU F p p.length).race,.string ⟨(stuckM F (runU F p p.length).c.lk (runU F p p.length).ths).toArray⟩] ∧
  w'.ownsRow w.heap.size 3 1 (.slice a3 3 c3) 3 (intsV ((runU F p p.length).c.gl.map (·.val)))∧w'.ownsRow w.heap.size 3 1 (.slice a4 (runU F p p.length).ths.length c4) (runU F p p.length).ths.length (intsV ((runU F p p.length).ths.map (·.reg))) ∧
  (∀g,(Value.slice a3 3 c3).ownBlock=some g→(Value.slice a4 (runU F p p.length).ths.length c4).ownBlock≠some g)
set_option maxHeartbeats 12800000 in
set_option maxRecDepth 100000 in
theorem mrun_any(vs:Value)(F:List ST)(q:ByteArray)(w:World)(hs:SRow w vs F)(hF:F.length≤1000)(hq:q.size≤400)(hfit:∀k,k≤q.size→Fit F (runU F q.data.toList k).ths (runU F q.data.toList k).c) :
  Calls Tryz.prog 47 #[vs,.string q] w fun e w'=>∃v,e=.returned v∧RunOut w F q.data.toList v w'∧Chg [] w w':=by
 obtain⟨i0,hi0,hz0,hz1,hz2⟩:=info_parts Tryz.infoByteM;have FIT:Hid (∀k,k≤q.size→Fit F (runU F q.data.toList k).ths (runU F q.data.toList k).c):=hfit;have HS:Hid (∀o,SRow (w.alloc o) vs F):=fun o=>hs.chg ((Chg.refl [] w).alloc o) (by simp)
 have S1:vs.oneCell'=true:=by obtain⟨B,am,cm,rfl,_⟩:=hs;rfl
 clear hs hfit
 go_enter Tryz.func47,Tryz.ntmps47
 go_wp2_with fail
 refine(started_any vs F _ (HS.out _) hF).mono ?_;rintro e w1 ⟨vt,rfl,hrow,hc⟩;obtain⟨at',ct,rfl⟩:=row_form hrow;obtain⟨X,hX⟩:∃X,X=mv0 vs (.slice at' (startM F F.length).length ct):=⟨_,rfl⟩;have HX:Hid (X=mv0 vs (.slice at' (startM F F.length).length ct)):=hX;have hXl:X.length=56:=by rw[hX];rfl
 have hX1:X.toArray.all (·.oneCell')=true:=by rw[hX];exact mV_one S1 rfl rfl
 rw[←hX];clear hX
 go_wp2_with (refine wpList_store_mid (by rfl) 128 (.tmp 5) (.tmp 14) (by rfl) w1.heap.size 0 X.toArray (by rfl) (by rfl) ?hth (by rw[List.size_toArray,hXl];exact Tryz.infoMachine) hX1 ?_)
 case hth=>
  have:=(Blk.new (w:=w1) (l:=mv0 nilV nilV) (ty:=128)).there;rw[show(mv0 nilV nilV).length=X.toArray.size by rw[List.size_toArray,hXl];rfl]at this;exact this
 obtain⟨W,hW⟩:∃W,W=((w1.alloc (.cells (mv0 nilV nilV).toArray 128)).setCells w1.heap.size 0 X):=⟨_,rfl⟩;have hch:Chg [w1.heap.size] (w1.alloc (.cells (mv0 nilV nilV).toArray 128)) W:=by rw[hW];exact setCells_chg _ _ _ _ _ (Chg.refl _ _)
 have MB:Blk W w1.heap.size X 128:=by
  have:=setCells_blk X (mv0 nilV nilV) 0 (Blk.new (w:=w1) (l:=mv0 nilV nilV) (ty:=128)) (by rw[hXl];rfl);rw[hW];simpa using this
 have hw1:w.heap.size+1≤w1.heap.size:=by have:=hc.size;simp at this;exact this
 have RB:Hid (Blk W w.heap.size [.string ⟨#[]⟩,.string ⟨#[]⟩,nilV,nilV,.int .i64 0,.string ⟨#[]⟩] 71):=
  (((Blk.new (w:=w) (l:=[.string ⟨#[]⟩,.string ⟨#[]⟩,nilV,nilV,.int .i64 0,.string ⟨#[]⟩]) (ty:=71)).chg hc (by simp)).alloc _).chg hch (by simp;omega)
 have CW:Hid (Chg [] w W):=((((Chg.refl [] w).alloc _).trans hc).alloc _).trans' hch (by simp;omega);have M0:Hid (RM W w1.heap.size (w.heap.size+1) vs (.slice at' (startM F F.length).length ct) nilV nilV F (runU F q.data.toList 0)):=by
  refine⟨⟨?_,?_,?_,World.ownsRow_nil _ _ _ _,rfl,rfl,?_⟩,World.ownsRow_nil _ _ _ _,fun g hg=>by cases hg⟩
  ·rw[HX.out]at MB;exact MB
  ·have hsr:=((HS.out (.cells #[.string ⟨#[]⟩,.string ⟨#[]⟩,nilV,nilV,.int .i64 0,.string ⟨#[]⟩] 71)).chg hc (by simp)).chg ((Chg.refl [] w1).alloc (.cells (mv0 nilV nilV).toArray 128)) (by simp);refine hsr.chg hch (fun x hx=>?_);simp;intro e;exact hsr.ne (Blk.new (w:=w1) (l:=mv0 nilV nilV) (ty:=128)) (by decide) (by rw[hx,e])
  ·have hr2:=hrow.alloc (.cells (mv0 nilV nilV).toArray 128)
   have:=row_chg hr2 hch (fun x hx=>by
    simp;intro e
    exact row_ne hr2 (Blk.new (w:=w1) (l:=mv0 nilV nilV) (ty:=128)) (by decide) (by rw[hx,e]))
   exact row_lower this (by simp)
  ·have:=MB.lt;omega
 obtain⟨vt,hvt⟩:∃vt,vt=Value.slice at' (startM F F.length).length ct:=⟨_,rfl⟩;rw[←hvt]at M0;obtain⟨b,hb⟩:∃b,b=w1.heap.size:=⟨_,rfl⟩
 erw [←hW]
 rw[←hb]at M0 hw1 ⊢;clear hW hch MB hc hrow HX hvt hb HS hX1 hXl S1;go_wp2
 go_loopw [6,7,8] (fun rc v i wr=>∃(k:Nat) (vp:Value),k≤q.size∧i=.int .i64 k∧rc=.int .i64 (runU F q.data.toList k).race∧RM wr b (w.heap.size+1) vs vt vp v F (runU F q.data.toList k)∧Blk wr w.heap.size [.string ⟨#[]⟩,.string ⟨#[]⟩,nilV,nilV,.int .i64 0,.string ⟨#[]⟩] 71∧Chg [] w wr) (fun _ _ i _=>q.size-(intOf i).toNat)
 case atStart=>exact⟨0,nilV,Nat.zero_le _,rfl,rfl,M0.out,RB.out,CW.out⟩
 case round=>
  obtain⟨k,vp,hk,rfl,rfl,hrm,hrb,hcw⟩:=hrel;have HRM:Hid (RM wr b (w.heap.size+1) vs vt vp u7 F (runU F q.data.toList k)):=hrm;have HRB:Hid (Blk wr w.heap.size [.string ⟨#[]⟩,.string ⟨#[]⟩,nilV,nilV,.int .i64 0,.string ⟨#[]⟩] 71):=hrb;have HCW:Hid (Chg [] w wr):=hcw
  by_cases hlt:k<q.size
  ·obtain⟨U,hU⟩:∃U,U=runU F q.data.toList k:=⟨_,rfl⟩;obtain⟨x,hx⟩:∃x,x=q[k]:=⟨_,rfl⟩;have hpx:q.data.toList[k]?=some x:=by rw[hx,List.getElem?_eq_getElem (by simpa using hlt)];rfl
   obtain⟨o,ho⟩:∃o,o=pickM F U.ths U.c x:=⟨_,rfl⟩;have EU:Hid (runU F q.data.toList (k+1)=⟨o.1,o.2.1,U.done++[o.2.2],if o.2.1.raced&&U.race==0 then(k:Int)+1 else U.race⟩):=by
    show _=_;rw[runU,hpx];simp only;rw[←hU,RU.step,←ho]
   have fit:=FIT.out k hk;rw[←hU]at HRM fit ⊢;have PK:Hid (∀w':World,MC w' b (w.heap.size+1) (b+1) vs vt vp F U.ths U.c→Calls Tryz.prog 68 #[.pointer (some ⟨b,0,none⟩),.int .u8 x.toNat] w' fun e w''=>PickOut w' b (w.heap.size+1) (b+1) vs vt vp F o e w''):=fun w' h1=>by rw[ho];exact pickM_any b _ _ vs vt vp F U.ths U.c x w' h1 hF fit
   have hqx:(q[k].toNat:Int)=(x.toNat:Int):=by rw[hx]
   have hdl:U.done.length≤400:=by have:=runU_done F q.data.toList k;rw[←hU]at this;omega
   clear hrm hrb hcw hU hx hpx ho fit
   go_wp2_with fail
   refine(PK.out wr HRM.out.mm).mono ?_;intro e w2 hpo;obtain⟨vp',rfl,m2,r2,ap2,c2⟩:=HRM.out.picked hpo;have M2:Hid (MC w2 b (w.heap.size+1) (b+1) vs vt vp' F o.1 o.2.1):=m2;have R2:Hid (w2.ownsRow (b+1) 5 1 u7 U.done.length (bysV U.done)):=r2;have A2:Hid (∀g,u7.ownBlock=some g→vp'.ownBlock≠some g):=ap2;have hbs:b+1≤w2.heap.size:=m2.blk.lt;have tl:∀g,vt.ownBlock=some g→w.heap.size+1≤g:=fun g hg=>(HRM.out.mm.trow.lt g hg).1
   have pl:∀g,vp.ownBlock=some g→b+1≤g:=fun g hg=>(HRM.out.mm.prow.lt g hg).1
   have B2:Hid (Blk w2 w.heap.size [.string ⟨#[]⟩,.string ⟨#[]⟩,nilV,nilV,.int .i64 0,.string ⟨#[]⟩] 71):=HRB.out.chg c2 (by
    simp
    exact⟨by omega,fun e=>by have:=tl _ e;omega,fun e=>by have:=pl _ e;omega⟩)
   have C2:Hid (Chg [] w w2):=HCW.out.trans' c2 (by
    intro i hi;simp at hi;right;rcases hi with h|h|h
    ·omega
    ·have:=tl _ h;omega
    ·have:=pl _ h;omega)
   clear hpo m2 r2 ap2 c2 tl pl PK hqx
   go_wp2_with (at_builtin;refine wpList_append_lies _ (by rfl) (.tmp 25) (.tmp 27) 91 (by rfl) (b+1) 5 i0 _ 1 1 Tryz.underlying91 hi0 hz0 hz1 hz2 rfl (by decide) u7 U.done.length (bysV U.done) (by rfl) (R2.out.alloc _) ⟨w2.heap.size,0,none⟩ 1 1 [.int .u8 o.2.2.toNat] (by rfl) rfl ?hnews ?h1 (by decide) ?h63 ?hby ?hbase (w2.heap.size+1) ?hH ?next)
   case hnews=>exact World.news_of_block (cs:=#[.int .u8 o.2.2.toNat]) (t:=5) (fr:=(0,0)) (heap_alloc_new _ _)
   case h1=>intro u hu;simp at hu;subst hu;rfl
   case h63=>unfold maxLen;omega
   case hby=>omega
   case hbase=>simp;omega
   case hH=>simp
   case next=>
    intro g cap w3 hown hgrow hat hlt3;have RM3:Hid (∀race,RM w3 b (w.heap.size+1) vs vt vp' (.slice (some ⟨g,0,none⟩) (U.done.length+1) cap) F ⟨o.1,o.2.1,U.done++[o.2.2],race⟩):=fun race=>RM.laid M2.out R2.out A2.out hown hgrow hat
    have hch:Chg u7.ownBlock.toList (w2.alloc (.cells #[.int .u8 o.2.2.toNat] 5)) w3:=⟨hgrow.os,hgrow.tape,hgrow.output,hgrow.size,fun i hi hn=>hgrow.block i hi (fun e=>hn (by simp[←e]))⟩;have B3:Hid (Blk w3 w.heap.size [.string ⟨#[]⟩,.string ⟨#[]⟩,nilV,nilV,.int .i64 0,.string ⟨#[]⟩] 71):=(B2.out.alloc _).chg hch (by simp;intro e;have:=(R2.out.lt _ e).1;omega);have C3:Hid (Chg [] w w3):=(C2.out.alloc _).trans' hch (by intro i hi;simp at hi;right;have:=(R2.out.lt _ hi).1;omega);have rb:=(RM3.out 0).mm.blk.cell 55 _ (mV_raced (RM3.out 0).mm.gl3 (RM3.out 0).mm.lk5);simp only at rb;obtain⟨y,hy⟩:∃y,y=o.2.1.raced:=⟨_,rfl⟩;rw[←hy]at rb EU;clear hown hgrow hat hch M2 R2 A2 B2 C2 hy;cases y with
    | false=>
     have EU':Hid (runU F q.data.toList (k+1)=⟨o.1,o.2.1,U.done++[o.2.2],U.race⟩):=by
      have:=EU.out;show _=_;simpa using this
     go_wp2
     go_roundw
     case rel=>exact⟨k+1,vp',by omega,by go_num,by rw[EU'.out],by rw[EU'.out];exact RM3.out _,B3.out,C3.out⟩
     case measure=>simp[intOf];omega
    | true=>
     by_cases hr0:U.race=0
     ·have EU':Hid (runU F q.data.toList (k+1)=⟨o.1,o.2.1,U.done++[o.2.2],(k:Int)+1⟩):=by
       have:=EU.out;show _=_;simpa[hr0]using this
      have e0:(U.race==0)=true:=by simpa using hr0
      clear hr0;go_wp2
      go_roundw
      case rel=>exact⟨k+1,vp',by omega,by go_num,by rw[EU'.out],by rw[EU'.out];exact RM3.out _,B3.out,C3.out⟩
      case measure=>simp[intOf];omega
     ·have EU':Hid (runU F q.data.toList (k+1)=⟨o.1,o.2.1,U.done++[o.2.2],U.race⟩):=by
       have:=EU.out;show _=_;simpa[hr0]using this
      have e0:(U.race==0)=false:=by simpa using hr0
      clear hr0;go_wp2
      go_roundw
      case rel=>exact⟨k+1,vp',by omega,by go_num,by rw[EU'.out],by rw[EU'.out];exact RM3.out _,B3.out,C3.out⟩
      case measure=>simp[intOf];omega
  ·have hkq:k=q.size:=by omega
   have hpl:q.data.toList.length=q.size:=by simp
   obtain⟨U,hU⟩:∃U,U=runU F q.data.toList k:=⟨_,rfl⟩;have EU:Hid (runU F q.data.toList q.data.toList.length=U):=by show _=_;rw[hU,hpl,hkq]
   have fit:=FIT.out k hk;rw[←hU]at HRM fit ⊢;have OKN:∀t∈U.ths,1≤t.name∧t.name≤4:=fun t ht=>⟨(fit.th t ht).1.1,(fit.th t ht).1.2.1⟩
   have n4:=fit.n4;clear hrm hrb hcw hU fit hpl
   go_wp2_with fail
   refine(mvalues_any b vs vt vp U.c wr HRM.out.mm.blk HRM.out.mm.gl3 HRM.out.mm.lk5).mono ?_;rintro e w2 ⟨a3,c3,rfl,v2,d2⟩;have M2:=HRM.out.mm.later d2
   go_wp2_with fail
   refine(mregs_any b _ _ vs vt vp F U.ths U.c w2 M2 n4).mono ?_;rintro e w3 ⟨a4,c4,rfl,v3,d3⟩;have M3:=M2.later d3
   go_wp2_with fail
   refine(mstuck_any b _ _ vs vt vp F U.ths U.c w3 M3 n4 hF OKN).mono ?_;rintro e w4 ⟨rfl,d4⟩;have M4:=M3.later d4;have D4:Chg [] wr w4:=(d2.trans d3).trans d4;have R4:=row_chg HRM.out.row D4 (by simp);have hcv1:=conv_row R4;have hcv2:=conv_row M4.prow;have p54:=M4.blk.cell 54 _ (mV_pr M4.gl3 M4.lk5);have B4:=HRB.out.chg D4 (by simp);have z0:=B4.cell 0 _ rfl;have z1:=B4.cell 1 _ rfl;have z2:=B4.cell 2 _ rfl;have z3:=B4.cell 3 _ rfl;have z4:=B4.cell 4 _ rfl;have z5:=B4.cell 5 _ rfl;have f0:=B4.fz 0;have f1:=B4.fz 1;have f2:=B4.fz 2;have f3:=B4.fz 3;have f4:=B4.fz 4;have f5:=B4.fz 5;obtain⟨sd,hsd⟩:∃s:ByteArray,s=⟨U.done.toArray⟩:=⟨_,rfl⟩;obtain⟨sp,hsp⟩:∃s:ByteArray,s=⟨U.c.pr.toArray⟩:=⟨_,rfl⟩;obtain⟨ss,hss⟩:∃s:ByteArray,s=⟨(stuckM F U.c.lk U.ths).toArray⟩:=⟨_,rfl⟩;obtain⟨nr,hnr⟩:∃n,n=U.ths.length:=⟨_,rfl⟩;rw[←hsd]at hcv1;rw[←hsp]at hcv2;have hw4:wr.heap.size≤w4.heap.size:=D4.size;have BR:Hid (Blk w4 w.heap.size [.string ⟨#[]⟩,.string ⟨#[]⟩,nilV,nilV,.int .i64 0,.string ⟨#[]⟩] 71):=B4;have CR:Hid (Chg [] w w4):=HCW.out.trans D4;have hwr:w.heap.size+1≤wr.heap.size:=by have:=HRB.out.lt;omega
   have V2:Hid (w4.ownsRow wr.heap.size 3 1 (.slice a3 3 c3) 3 (intsV (U.c.gl.map (·.val)))):=row_chg (row_chg v2 d3 (by simp)) d4 (by simp);have V3:Hid (w4.ownsRow w2.heap.size 3 1 (.slice a4 U.ths.length c4) U.ths.length (intsV (U.ths.map (·.reg)))):=row_chg v3 d4 (by simp);have AP:Hid (∀g,(Value.slice a3 3 c3).ownBlock=some g→(Value.slice a4 U.ths.length c4).ownBlock≠some g):=fun g hg e=>by
    have h1:=(v2.lt g hg).2;have h2:=(v3.lt g e).1;omega
   have hw2:wr.heap.size≤w2.heap.size:=d2.size;rw[←hss,←hnr];have W:Hid (∃W,W=(((((w4.setCell ⟨w.heap.size,0,none⟩ (.string sd)).setCell ⟨w.heap.size,1,none⟩ (.string sp)).setCell ⟨w.heap.size,2,none⟩ (.slice a3 3 c3)).setCell ⟨w.heap.size,3,none⟩ (.slice a4 nr c4)).setCell ⟨w.heap.size,4,none⟩ (.int .i64 U.race)).setCell ⟨w.heap.size,5,none⟩ (.string ss)∧Blk W w.heap.size [.string sd,.string sp,.slice a3 3 c3,.slice a4 nr c4,.int .i64 U.race,.string ss] 71∧Chg [w.heap.size] w4 W):=
    ⟨_,rfl,(((((BR.out.set 0 _).set 1 _).set 2 _).set 3 _).set 4 _).set 5 _,(((((((Chg.refl [w.heap.size] w4).set (a:=⟨w.heap.size,0,none⟩) (.inl (by simp)) _).set (a:=⟨w.heap.size,1,none⟩) (.inl (by simp)) _).set (a:=⟨w.heap.size,2,none⟩) (.inl (by simp)) _).set (a:=⟨w.heap.size,3,none⟩) (.inl (by simp)) _).set (a:=⟨w.heap.size,4,none⟩) (.inl (by simp)) _).set (a:=⟨w.heap.size,5,none⟩) (.inl (by simp)) _)⟩
   have HSD:Hid (sd=⟨U.done.toArray⟩∧sp=⟨U.c.pr.toArray⟩∧ss=⟨(stuckM F U.c.lk U.ths).toArray⟩∧nr=U.ths.length):=⟨hsd,hsp,hss,hnr⟩;clear M2 M3 M4 D4 R4 B4 d2 d3 d4 v2 v3 hsd hsp hss hnr OKN n4;go_wp2
   (try simp only[Exit.inBlock,Exit.then])
   obtain⟨W,hW,hB,hC⟩:=W.out;rw[←hW];obtain⟨e1,e2,e3,e4⟩:=HSD.out;have OUT:RunOut w F q.data.toList (.agg #[.string sd,.string sp,.slice a3 3 c3,.slice a4 nr c4,.int .i64 U.race,.string ss]) W:=by
    refine⟨a3,c3,a4,c4,?_,?_,?_,?_⟩
    ·rw[EU.out,e1,e2,e3,e4]
    ·rw[EU.out];exact row_lower (row_chg V2.out hC (fun g hg=>by have:=(V2.out.lt g hg).1;simp;omega)) (by omega)
    ·rw[EU.out];exact row_lower (row_chg V3.out hC (fun g hg=>by have:=(V3.out.lt g hg).1;simp;omega)) (by omega)
    ·rw[EU.out];exact AP.out
   refine bodyPost_ret (v:=.agg #[.string sd,.string sp,.slice a3 3 c3,.slice a4 nr c4,.int .i64 U.race,.string ss]) ?_ rfl ⟨_,rfl,OUT,CR.out.trans' hC (by simp)⟩;have y0:=hB.cell 0 _ rfl;have y1:=hB.cell 1 _ rfl;have y2:=hB.cell 2 _ rfl;have y3:=hB.cell 3 _ rfl;have y4:=hB.cell 4 _ rfl;have y5:=hB.cell 5 _ rfl;rw[results_cell rfl]
   go_simp
end Go.Proofs.YtdgkpkdinfklaabGreat
