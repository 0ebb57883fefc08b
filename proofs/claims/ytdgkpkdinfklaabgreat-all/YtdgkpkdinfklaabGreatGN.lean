import Derived.Test.YtdgkpkdinfklaabGreatGM
import Derived.Laws.BytesArg
import Derived.Test.YtdgkpkdinfklaabGreatGK
namespace Go.Proofs.YtdgkpkdinfklaabGreat
open Go.RowKit
theorem Tryz.infoIntM:(Tryz.prog.info? 3).map (fun i=>(i.zero,i.size,i.bytes))=some (some (.int .i64 0),1,8):=by kernel_rfl
def intsV(l:List Int):List Value:=l.map fun x=>.int .i64 x
theorem row_form{w:World}{B e size n:Nat}{v:Value}{xs:List Value}(h:w.ownsRow B e size v n xs):∃a c,v=.slice a n c:=by
 rcases h.2 with⟨hv,h0⟩|⟨g,cap,cur,hv,_⟩
 ·exact⟨none,0,by rw[hv,h0]⟩
 ·exact⟨_,_,hv⟩
theorem chg_grown{S:List Nat}{w0 w w':World}{v:Value}(h:Chg S w0 w)(hg:w.grownBy w' v.ownBlock)(hs:∀g,v.ownBlock=some g→g∈S∨w0.heap.size≤g):Chg S w0 w':=
 ⟨hg.os.trans h.os,hg.tape.trans h.tape,hg.output.trans h.output,Nat.le_trans h.size hg.size,fun i hi hn=>(hg.block i (Nat.lt_of_lt_of_le hi h.size) (fun e=>by rcases hs i e.symm with h1|h1;exact hn h1;omega)).trans (h.block i hi hn)⟩
theorem take_map_succ{l:List Int}{k:Nat}{x:Int}(h:l[k]?=some x):intsV (l.take (k+1))=intsV (l.take k)++[.int .i64 x]:=by
 obtain⟨hk,rfl⟩:=List.getElem?_eq_some_iff.1 h;rw[List.take_succ_eq_append_getElem hk];simp only[intsV,List.map_append,List.map_cons,List.map_nil]
set_option maxHeartbeats 3200000 in
set_option maxRecDepth 100000 in
theorem mvalues_any(b:Nat)(vs vt vp:Value)(c:CS)(w:World)(hm:Blk w b (mV vs vt vp c.gl c.lk c.raced) 128)(hgl:c.gl.length=3)(hlk:c.lk.length=5) :
  Calls Tryz.prog 69 #[.pointer (some ⟨b,0,none⟩)] w fun e w'=>∃a k,e=.returned (.slice a 3 k)∧w'.ownsRow w.heap.size 3 1 (.slice a 3 k) 3 (intsV (c.gl.map (·.val)))∧Chg [] w w':=by
 obtain⟨gl,lk,pr,raced⟩:=c;simp only at hm hgl hlk ⊢;obtain⟨g0,g1,g2,rfl⟩:=three hgl;obtain⟨l0,l1,l2,l3,l4,rfl⟩:=fives hlk;obtain⟨i0,hi0,hz0,hz1,hz2⟩:=info_parts Tryz.infoIntM;have HM:Hid (Blk w b (mV vs vt vp [g0,g1,g2] [l0,l1,l2,l3,l4] raced) 128):=hm;have hbl:=hm.lt;clear hm
 go_enter Tryz.func69,Tryz.ntmps69
 go_wp2
 go_loopw [3,4] (fun v i wr=>∃k:Nat,k≤3∧i=.int .i64 k∧wr.ownsRow w.heap.size 3 1 v k (intsV ([g0.val,g1.val,g2.val].take k))∧Chg [] w wr) (fun _ i _=>3-(intOf i).toNat)
 case atStart=>exact⟨0,by decide,rfl,World.ownsRow_nil _ _ _ _,Chg.refl _ _⟩
 case round=>
  obtain⟨k,hk,rfl,hown,hc⟩:=hrel;have hsz:=hc.size
  by_cases hlt:k<3
  ·have HB:=HM.out.chg hc (by simp);have HO:Hid (wr.ownsRow w.heap.size 3 1 u3 k (intsV ([g0.val,g1.val,g2.val].take k))):=hown;have HC:Hid (Chg [] w wr):=hc;obtain⟨x,hx⟩:∃x,[g0.val,g1.val,g2.val][k]?=some x:=⟨_,List.getElem?_eq_getElem (by simpa using hlt)⟩;have HT:Hid (intsV ([g0.val,g1.val,g2.val].take (k+1))=intsV ([g0.val,g1.val,g2.val].take k)++[.int .i64 x]):=take_map_succ hx;clear hown hc;have q:wr.cell? ⟨b,2+k*9,none⟩=some (.int .i64 x):=by
    rcases less3 hlt with rfl|rfl|rfl
    ·have:=Option.some.inj hx;rw[←this];exact HB.cell 2 _ rfl
    ·have:=Option.some.inj hx;rw[←this];exact HB.cell 11 _ rfl
    ·have:=Option.some.inj hx;rw[←this];exact HB.cell 20 _ rfl
   clear HB hx;obtain⟨LL,hLL⟩:∃LL,LL=intsV ([g0.val,g1.val,g2.val].take k):=⟨_,rfl⟩;rw[←hLL]at HO HT;clear hLL
   go_wp2_with (at_builtin;refine wpList_append_own _ rfl (.tmp 9) (.tmp 17) 30 rfl w.heap.size 3 i0 _ 1 8 Tryz.underlying30 hi0 hz0 hz1 hz2 rfl (by decide) u3 k LL rfl (HO.out.alloc _) ⟨wr.heap.size,0,none⟩ 1 1 [.int .i64 x] rfl rfl ?hnews ?h1 ?h63 ?hby ?hbase ?next)
   case hnews=>exact World.news_of_block (cs:=#[.int .i64 x]) (t:=3) (fr:=(0,0)) (heap_alloc_new _ _)
   case h1=>intro u hu;simp at hu;subst hu;rfl
   case h63=>unfold maxLen;omega
   case hby=>omega
   case hbase=>simp;omega
   case next=>
    intro v' w2 hown2 hgrow _;have C2:Hid (Chg [] w w2):=chg_grown (HC.out.alloc _) hgrow (fun g hg=>.inr (HO.out.lt g hg).1);have O2:Hid (w2.ownsRow w.heap.size 3 1 v' (k+1) (intsV ([g0.val,g1.val,g2.val].take (k+1)))):=by
     show World.ownsRow _ _ _ _ _ _ _;rw[HT.out];exact hown2
    clear hown2 hgrow;go_wp2
    go_roundw
    case rel=>exact⟨k+1,by omega,by go_num,O2.out,C2.out⟩
    case measure=>simp[intOf];omega
  ·have h3:k=3:=by omega
   subst h3;obtain⟨a,cc,rfl⟩:=row_form hown;have HO:Hid (wr.ownsRow w.heap.size 3 1 (.slice a 3 cc) 3 (intsV ([g0.val,g1.val,g2.val].take 3))):=hown;clear hown;go_wp2;go_ret;exact⟨a,cc,rfl,HO.out,hc⟩
set_option maxHeartbeats 3200000 in
set_option maxRecDepth 100000 in
theorem mregs_any(b Bt Bp:Nat)(vs vt vp:Value)(F:List ST)(ths:List TH)(c:CS)(w:World)(h:MC w b Bt Bp vs vt vp F ths c)(hl:ths.length≤4) :
  Calls Tryz.prog 70 #[.pointer (some ⟨b,0,none⟩)] w fun e w'=>∃a k,e=.returned (.slice a ths.length k)∧w'.ownsRow w.heap.size 3 1 (.slice a ths.length k) ths.length (intsV (ths.map (·.reg)))∧Chg [] w w':=by
 obtain⟨i0,hi0,hz0,hz1,hz2⟩:=info_parts Tryz.infoIntM;obtain⟨at',ct,rfl⟩:=row_form h.trow;have HM:Hid (MC w b Bt Bp vs (.slice at' ths.length ct) vp F ths c):=h;have hbl:=h.blk.lt;obtain⟨n,hn⟩:∃n,n=ths.length:=⟨_,rfl⟩;have HN:Hid (n=ths.length):=hn;rw[←hn]at hl HM ⊢;clear h hn
 go_enter Tryz.func70,Tryz.ntmps70
 go_wp2
 go_loopw [3,4] (fun v i wr=>∃k:Nat,k≤n∧i=.int .i64 k∧wr.ownsRow w.heap.size 3 1 v k (intsV ((ths.map (·.reg)).take k))∧Chg [] w wr) (fun _ i _=>n-(intOf i).toNat)
 case atStart=>exact⟨0,Nat.zero_le _,rfl,World.ownsRow_nil _ _ _ _,Chg.refl _ _⟩
 case round=>
  obtain⟨k,hk,rfl,hown,hc⟩:=hrel;have hsz:=hc.size;have MB:=HM.out.later hc;have c1:=MB.blk.cell 1 _ rfl;have HO:Hid (wr.ownsRow w.heap.size 3 1 u3 k (intsV ((ths.map (·.reg)).take k))):=hown;have HC:Hid (Chg [] w wr):=hc
  by_cases hlt:k<n
  ·obtain⟨t,ht⟩:∃t,ths[k]?=some t:=⟨_,List.getElem?_eq_getElem (by rw[←HN.out];exact hlt)⟩;obtain⟨g,rfl⟩:∃g,at'=some ⟨g,0,none⟩:=by
    obtain⟨g,cap',hv,_⟩:=MB.trow.form (by rw[←HN.out];omega);simp only[Value.slice.injEq]at hv;exact⟨g,hv.1⟩
   have tr:=MB.trow;rw[HN.out]at tr;have q:=thAt tr k t ht 2 (by decide) _ rfl;have HT:Hid (intsV ((ths.map (·.reg)).take (k+1))=intsV ((ths.map (·.reg)).take k)++[.int .i64 t.reg]):=take_map_succ (by simp[ht]);clear hown hc MB tr ht;obtain⟨LL,hLL⟩:∃LL,LL=intsV ((ths.map (·.reg)).take k):=⟨_,rfl⟩;rw[←hLL]at HO HT;clear hLL
   go_wp2_with (at_builtin;refine wpList_append_own _ rfl (.tmp 14) (.tmp 23) 30 rfl w.heap.size 3 i0 _ 1 8 Tryz.underlying30 hi0 hz0 hz1 hz2 rfl (by decide) u3 k LL rfl (HO.out.alloc _) ⟨wr.heap.size,0,none⟩ 1 1 [.int .i64 t.reg] rfl rfl ?hnews ?h1 ?h63 ?hby ?hbase ?next)
   case hnews=>exact World.news_of_block (cs:=#[.int .i64 t.reg]) (t:=3) (fr:=(0,0)) (heap_alloc_new _ _)
   case h1=>intro u hu;simp at hu;subst hu;rfl
   case h63=>unfold maxLen;omega
   case hby=>omega
   case hbase=>simp;omega
   case next=>
    intro v' w2 hown2 hgrow _;have C2:Hid (Chg [] w w2):=chg_grown (HC.out.alloc _) hgrow (fun g hg=>.inr (HO.out.lt g hg).1);have O2:Hid (w2.ownsRow w.heap.size 3 1 v' (k+1) (intsV ((ths.map (·.reg)).take (k+1)))):=by
     show World.ownsRow _ _ _ _ _ _ _;rw[HT.out];exact hown2
    clear hown2 hgrow;go_wp2
    go_roundw
    case rel=>exact⟨k+1,by omega,by go_num,O2.out,C2.out⟩
    case measure=>simp[intOf];omega
  ·have h3:k=n:=by omega
   subst h3;obtain⟨a,cc,rfl⟩:=row_form hown;have HO':Hid (wr.ownsRow w.heap.size 3 1 (.slice a k cc) k (intsV (ths.map (·.reg)))):=by
    have:=HO.out;rw[List.take_of_length_le (by simp[←HN.out])]at this;exact this
   clear hown HO MB;go_wp2;go_ret;exact⟨a,cc,rfl,HO'.out,hc⟩
theorem Tryz.infoThread:(Tryz.prog.info? 153).map (fun i=>(i.zero,i.size,i.bytes))=some (some (.agg #[.int .i64 0,.int .i64 0,.int .i64 0,.int .i64 0,.int .i64 0,.int .i64 0,.int .i64 0]),7,56):=by kernel_rfl
def startM(F:List ST):Nat→List TH
 | 0=>[]
 | k+1=>match F[k]? with
  | some s=>if s.thread=((startM F k).length:Int)+1 then startM F k++[⟨s.thread,k,0,.zero⟩]else startM F k
  | none=>startM F k
theorem startM_len(F:List ST)(k:Nat):(startM F k).length≤k:=by
 induction k with
 | zero=>exact Nat.le_refl _
 | succ k ih=>
  rw[startM]
  split
  ·split
   ·simp;omega
   ·omega
  ·omega
def nilV:Value:=.slice none 0 0
def mv0(vs vt:Value):List Value:=mV vs vt nilV [gb0,gb0,gb0] [lk0,lk0,lk0,lk0,lk0] false
theorem chg_row{S:List Nat}{w0 w w':World}{v:Value}(h:Chg S w0 w)(hg:w.grownBy w' v.ownBlock)(hs:∀g,v.ownBlock=some g→g∈S∨w0.heap.size≤g):Chg S w0 w':=
 ⟨hg.os.trans h.os,hg.tape.trans h.tape,hg.output.trans h.output,Nat.le_trans h.size hg.size,fun i hi hn=>(hg.block i (Nat.lt_of_lt_of_le hi h.size) (fun e=>by rcases hs i e.symm with h1|h1;exact hn h1;omega)).trans (h.block i hi hn)⟩
theorem mV_one{vs vt vp:Value}{gl:List GB}{lk:List LK}{r:Bool}(h1:vs.oneCell'=true)(h2:vt.oneCell'=true)(h3:vp.oneCell'=true):(mV vs vt vp gl lk r).toArray.all (·.oneCell')=true:=by
 refine all_oneCell_toArray (fun v hv=>?_);simp only[mV,List.mem_cons,List.mem_append,List.mem_flatMap,List.not_mem_nil,or_false]at hv;rcases hv with rfl|rfl|⟨g,_,hg⟩|⟨l,_,hl⟩|rfl|rfl
 ·exact h1
 ·exact h2
 ·simp only[gbV,List.mem_cons,List.not_mem_nil,or_false]at hg;rcases hg with rfl|rfl|rfl|rfl|rfl|rfl|rfl|rfl|rfl<;>rfl
 ·simp only[lkV,List.mem_cons,List.not_mem_nil,or_false]at hl;rcases hl with rfl|rfl|rfl|rfl|rfl<;>rfl
 ·exact h3
 ·rfl
theorem row_lower{w:World}{base base':Nat}{e:TypeId}{size:Nat}{v:Value}{n:Nat}{xs:List Value}(h:w.ownsRow base e size v n xs)(hb:base'≤base):w.ownsRow base' e size v n xs:=by
 refine⟨h.1,?_⟩;rcases h.2 with h0|⟨g,cap,cur,hv,hg,r⟩
 ·exact .inl h0
 ·exact .inr ⟨g,cap,cur,hv,by omega,r⟩
theorem row_drewN{w:World}{B e size n:Nat}{v:Value}{xs:List Value}(h:w.ownsRow B e size v n xs)(m:Nat):(w.drewN m).ownsRow B e size v n xs:=h
theorem Tryz.infoMachine:(Tryz.prog.info? 128).map (·.size)=some 56:=by kernel_rfl
set_option maxHeartbeats 12800000 in
set_option maxRecDepth 100000 in
theorem started_any(vs:Value)(F:List ST)(w:World)(hs:SRow w vs F)(hF:F.length≤1000) :
  Calls Tryz.prog 67 #[vs] w fun e w'=>∃vt,e=.returned (.agg (mv0 vs vt).toArray)∧w'.ownsRow w.heap.size 153 7 vt (startM F F.length).length (thsV (startM F F.length))∧Chg [] w w':=by
 obtain⟨B,am,cm,rfl,hrow⟩:=hs;obtain⟨i0,hi0,hz0,hz1,hz2⟩:=info_parts Tryz.infoThread;have HR:Hid (w.ownsRow B 88 12 (.slice am F.length cm) F.length (stsV F)):=hrow;obtain⟨n,hn⟩:∃n,n=F.length:=⟨_,rfl⟩;have HN:Hid (n=F.length):=hn;rw[←hn]at hF ⊢;clear hrow hn
 go_enter Tryz.func67,Tryz.ntmps67
 go_wp2_with (refine wpList_store_mid (by rfl) 128 (.tmp 3) (.tmp 6) (by rfl) (w.heap.size+1) 0 (mv0 (.slice am n cm) nilV).toArray (by rfl) (by rfl) ?hth Tryz.infoMachine ?hone ?next)
 case hth=>
  have:=(Blk.new (w:=w.alloc (.cells (mv0 nilV nilV).toArray 128)) (l:=mv0 nilV nilV) (ty:=128)).there;rw[show(w.alloc (.cells (mv0 nilV nilV).toArray 128)).heap.size=w.heap.size+1 by simp]at this;exact this
 case hone=>exact mV_one rfl rfl rfl
 obtain⟨W,hW⟩:∃W,W=(((w.alloc (.cells (mv0 nilV nilV).toArray 128)).alloc (.cells (mv0 nilV nilV).toArray 128)).setCells (w.heap.size+1) 0 (mv0 (.slice am n cm) nilV)):=⟨_,rfl⟩;have hb1:Blk ((w.alloc (.cells (mv0 nilV nilV).toArray 128)).alloc (.cells (mv0 nilV nilV).toArray 128)) (w.heap.size+1) (mv0 nilV nilV) 128:=by
  have:=Blk.new (w:=w.alloc (.cells (mv0 nilV nilV).toArray 128)) (l:=mv0 nilV nilV) (ty:=128);rw[show(w.alloc (.cells (mv0 nilV nilV).toArray 128)).heap.size=w.heap.size+1 by simp]at this;exact this
 have hb0:Blk ((w.alloc (.cells (mv0 nilV nilV).toArray 128)).alloc (.cells (mv0 nilV nilV).toArray 128)) w.heap.size (mv0 nilV nilV) 128:=(Blk.new (w:=w) (l:=mv0 nilV nilV) (ty:=128)).alloc _;have hch:Chg [w.heap.size+1] ((w.alloc (.cells (mv0 nilV nilV).toArray 128)).alloc (.cells (mv0 nilV nilV).toArray 128)) W:=by rw[hW];exact setCells_chg _ _ _ _ _ (Chg.refl _ _)
 have M0:Hid (Blk W (w.heap.size+1) (mv0 (.slice am n cm) nilV) 128):=by
  have:=setCells_blk (mv0 (.slice am n cm) nilV) (mv0 nilV nilV) 0 hb1 rfl;show Blk W _ _ _;rw[hW];exact this
 have Z0:Hid (Blk W w.heap.size (mv0 nilV nilV) 128):=hb0.chg hch (by simp);have C0:Hid (Chg [] w W):=(((Chg.refl [] w).alloc _).alloc _).trans' hch (by simp);have S0:Hid (w.heap.size+2≤W.heap.size):=by have:=hch.size;simp at this;exact this
 erw [←hW]
 clear hW hb1 hb0 hch;go_wp2
 go_loopw [4] (fun i wr=>∃(k:Nat) (vt:Value),k≤n∧i=.int .i64 k∧Blk wr (w.heap.size+1) (mv0 (.slice am n cm) vt) 128∧Blk wr w.heap.size (mv0 nilV nilV) 128∧wr.ownsRow (w.heap.size+2) 153 7 vt (startM F k).length (thsV (startM F k))∧Chg [] w wr∧w.heap.size+2≤wr.heap.size) (fun i _=>n-(intOf i).toNat)
 case atStart=>exact⟨0,nilV,Nat.zero_le _,rfl,M0.out,Z0.out,World.ownsRow_nil _ _ _ _,C0.out,S0.out⟩
 case round=>
  obtain⟨k,vt,hk,rfl,hm,hz,hrow,hc,hsz⟩:=hrel;obtain⟨at',ct,rfl⟩:=row_form hrow;have HM:Hid (Blk wr (w.heap.size+1) (mv0 (.slice am n cm) (.slice at' (startM F k).length ct)) 128):=hm;have HZ:Hid (Blk wr w.heap.size (mv0 nilV nilV) 128):=hz;have HO:Hid (wr.ownsRow (w.heap.size+2) 153 7 (.slice at' (startM F k).length ct) (startM F k).length (thsV (startM F k))):=hrow;have HC:Hid (Chg [] w wr):=hc
  by_cases hlt:k<n
  ·obtain⟨s,hs⟩:∃s,F[k]?=some s:=⟨_,List.getElem?_eq_getElem (by rw[←HN.out];exact hlt)⟩;obtain⟨g,rfl⟩:∃g,am=some ⟨g,0,none⟩:=by
    obtain⟨g,cap',hv,_⟩:=HR.out.form (by rw[←HN.out];omega);simp only[Value.slice.injEq]at hv;exact⟨g,hv.1⟩
   have hrow':=row_chg HR.out hc (by simp);have q2:=stepAt hrow' k s hs 2 (by decide) _ rfl;have c1:=hm.cell 1 _ rfl;have z1:=hm.fz 1;have hlen:=startM_len F k;obtain⟨L,hL⟩:∃L,L=(startM F k).length:=⟨_,rfl⟩;have HL:Hid (L=(startM F k).length):=hL;rw[←hL]at c1 hlen HM HO
   by_cases hth:s.thread=(L:Int)+1
   ·have bt:(s.thread==(L:Int)+1)=true:=by simpa using hth
    have ES:Hid (startM F (k+1)=startM F k++[⟨s.thread,k,0,.zero⟩]):=by
     show _=_;rw[startM,hs];simp only;rw[if_pos (by rw[←hL];exact hth)]
    have hgr:=hrow';clear hm hz hrow hrow' hc hs hL hth;have nb:some (w.heap.size+1)≠(Value.slice at' L ct).ownBlock:=fun e=>by have:=(HO.out.lt _ e.symm).1;omega
    have n0:some w.heap.size≠(Value.slice at' L ct).ownBlock:=fun e=>by have:=(HO.out.lt _ e.symm).1;omega
    have hl1:w.heap.size+1<wr.heap.size:=by omega
    have hgl:g<wr.heap.size:=(hgr.lt g rfl).2;clear hgr
    go_wp2_with fail
    go_quiet (fail)
    obtain⟨V,hV⟩:∃V,V=wr.drewN nq:=⟨_,rfl⟩;have VM:Hid (Blk V (w.heap.size+1) (mv0 (.slice (some ⟨g,0,none⟩) n cm) (.slice at' L ct)) 128):=by rw[hV];exact HM.out.drewN _
    have VZ:Hid (Blk V w.heap.size (mv0 nilV nilV) 128):=by rw[hV];exact HZ.out.drewN _
    have VO:Hid (V.ownsRow (w.heap.size+2) 153 7 (.slice at' L ct) L (thsV (startM F k))):=by rw[hV];exact row_drewN HO.out _
    have VC:Hid (Chg [] w V):=by rw[hV];exact HC.out.drewN _
    have Vs:V.heap.size=wr.heap.size:=by rw[hV];rfl
    have v2:V.cell? ⟨g,k*12+2,none⟩=some (.int .i64 s.thread):=by rw[hV];exact q2
    rw[←hV];rw[←Vs]at hl1 hgl hsz;clear hV HM HZ HO HC q2 c1 z1 Vs;have c1:=VM.out.cell 1 _ rfl;have z1:=VM.out.fz 1;go_wp2;have hblk:∀o,(V.alloc o).drew.heap[V.heap.size]?=some o:=fun o=>heap_alloc_new V o
    go_region_law ((refine step_append_lies _ (by rfl) _ _ _ (by rfl) (w.heap.size+2) 153 i0 _ 7 56 Tryz.underlying118 hi0 hz0 hz1 hz2 rfl (by omega) (.slice at' L ct) L (thsV (startM F k)) (by rfl) ((VO.out.alloc _).drew) ⟨V.heap.size,0,none⟩ 1 1 [.int .i64 s.thread,.int .i64 k,.int .i64 0,.int .i64 0,.int .i64 0,.int .i64 0,.int .i64 0] (by rfl) (by rfl) (World.news_of_block (cs:=#[.int .i64 s.thread,.int .i64 k,.int .i64 0,.int .i64 0,.int .i64 0,.int .i64 0,.int .i64 0]) (t:=153) (fr:=(0,0)) (hblk _)) (by simp[Value.oneCell']) (by omega) (by unfold maxLen;omega) (by omega) (by simp;omega) (V.heap.size+1) (by simp) ?_;intro gg cap w1 hown1 hgrow hat hlt;have k1:=(hgrow.cell_far ⟨w.heap.size+1,1,none⟩ (by simp;omega) nb).trans (((VM.out.alloc _).drew).cell 1 _ rfl);have y1:=(hgrow.frozen_far ⟨w.heap.size+1,1,none⟩ (by simp;omega) nb).trans (((VM.out.alloc _).drew).fz 1)))
    all_goals
     have M1:Blk w1 (w.heap.size+1) (mv0 (.slice (some ⟨g,0,none⟩) n cm) (.slice at' L ct)) 128:=(hgrow.block _ (by simp;omega) nb).trans (VM.out.alloc _).drew;have Z1:Blk w1 w.heap.size (mv0 nilV nilV) 128:=(hgrow.block _ (by simp;omega) n0).trans (VZ.out.alloc _).drew;have C1:Chg [] w w1:=chg_row ((VC.out.alloc _).drew) hgrow (fun g hg=>.inr (by have:=(VO.out.lt g hg).1;omega));have hsz1:=hgrow.size;simp at hsz1;have HX:Hid (∃vt,Blk (w1.setCell ⟨w.heap.size+1,1,none⟩ (.slice (some ⟨gg,0,none⟩) (L+1) cap)) (w.heap.size+1) (mv0 (.slice (some ⟨g,0,none⟩) n cm) vt) 128∧Blk (w1.setCell ⟨w.heap.size+1,1,none⟩ (.slice (some ⟨gg,0,none⟩) (L+1) cap)) w.heap.size (mv0 nilV nilV) 128∧(w1.setCell ⟨w.heap.size+1,1,none⟩ (.slice (some ⟨gg,0,none⟩) (L+1) cap)).ownsRow (w.heap.size+2) 153 7 vt (startM F (k+1)).length (thsV (startM F (k+1)))∧Chg [] w (w1.setCell ⟨w.heap.size+1,1,none⟩ (.slice (some ⟨gg,0,none⟩) (L+1) cap))∧w.heap.size+2≤(w1.setCell ⟨w.heap.size+1,1,none⟩ (.slice (some ⟨gg,0,none⟩) (L+1) cap)).heap.size):=by
      refine⟨.slice (some ⟨gg,0,none⟩) (L+1) cap,M1.set 1 _,Z1.other (by simp) _,?_,C1.set (a:=⟨w.heap.size+1,1,none⟩) (.inr (by simp)) _,by simp[World.setCell];omega⟩;have hown2:w1.ownsRow (w.heap.size+2) 153 7 (.slice (some ⟨gg,0,none⟩) (L+1) cap) (startM F (k+1)).length (thsV (startM F (k+1))):=by
       rw[ES.out];have e1:thsV (startM F k++[⟨s.thread,k,0,.zero⟩])=thsV (startM F k)++[.int .i64 s.thread,.int .i64 k,.int .i64 0,.int .i64 0,.int .i64 0,.int .i64 0,.int .i64 0]:=by simp[thsV,thV,CK.zero]
       rw[e1,List.length_append,←HL.out];exact hown1
      exact ownsRow_setCell_below hown2 (by simp) _
     clear M1 Z1 C1 hown1 hgrow hat;go_wp2;obtain⟨vt',x1,x2,x3,x4,x5⟩:=HX.out;exact⟨⟨k+1,vt',by omega,by go_num,x1,x2,x3,x4,x5⟩,by simp[intOf];omega⟩
   ·have bt:(s.thread==(L:Int)+1)=false:=by simpa using hth
    have ES:Hid (startM F (k+1)=startM F k):=by
     show _=_;rw[startM,hs];simp only;rw[if_neg (by rw[←hL];exact hth)]
    clear hm hz hrow hrow' hc hs hL hth
    go_wp2_with fail
    go_quiet (fail)
    go_wp2;exact⟨⟨k+1,.slice at' L ct,by omega,by go_num,HM.out.drewN _,HZ.out.drewN _,by rw[ES.out,←HL.out];exact row_drewN HO.out _,HC.out.drewN _,hsz⟩,by simp[intOf];omega⟩
  ·have hkn:k=n:=by omega
   subst hkn;obtain⟨X,hX⟩:∃X,X=mv0 (.slice am k cm) (.slice at' (startM F k).length ct):=⟨_,rfl⟩;have HX:Hid (X=mv0 (.slice am k cm) (.slice at' (startM F k).length ct)):=hX;have hXl:X.length=56:=by rw[hX];rfl
   have hX1:X.toArray.all (·.oneCell')=true:=by rw[hX];exact mV_one rfl rfl rfl
   rw[←hX]at HM;have W2b:Hid (Blk (wr.setCells w.heap.size 0 X) w.heap.size X 128):=by
    have:=setCells_blk X (mv0 nilV nilV) 0 HZ.out (by rw[hXl];rfl);show Blk _ _ _ _;simpa using this
   have W2c:Hid (Chg [] w (wr.setCells w.heap.size 0 X)):=HC.out.trans' (setCells_chg wr w.heap.size X 0 wr (Chg.refl _ _)) (by simp);have W2r:Hid ((wr.setCells w.heap.size 0 X).ownsRow w.heap.size 153 7 (.slice at' (startM F k).length ct) (startM F k).length (thsV (startM F k))):=by
    have:=row_chg HO.out (setCells_chg wr w.heap.size X 0 wr (Chg.refl _ _)) (fun g hg=>by have:=(HO.out.lt g hg).1;simp;omega);exact row_lower this (by omega)
   clear hm hz hrow hc hX
   go_wp2_with (first
    | refine wpList_load_mid (by rfl) 128 (.tmp 3) (by rfl) (w.heap.size+1) 0 (by rfl) X _ HM.out.range Tryz.underlying128 (by rfl) (by rw[hXl];exact Tryz.infoMachine) ?_
    | refine wpList_store_mid (by rfl) 128 (.tmp 2) (.tmp 35) (by rfl) w.heap.size 0 X.toArray (by rfl) (by rfl) (by have:=HZ.out.there;rw[show(mv0 nilV nilV).length=X.toArray.size by rw[List.size_toArray,hXl];rfl]at this;exact this) (by rw[List.size_toArray,hXl];exact Tryz.infoMachine) hX1 ?_)
   (try simp only[Exit.inBlock,Exit.then])
   refine bodyPost_ret (v:=.agg X.toArray) ?_ rfl ⟨.slice at' (startM F k).length ct,by rw[HX.out],W2r.out,W2c.out⟩;rw[results_cell rfl];have:=run_loadVar_mid (P:=Tryz.prog) _ w.heap.size 0 128 X _ W2b.out.range Tryz.underlying128 (by rfl) (by rw[hXl];exact Tryz.infoMachine);show((asAddr (.pointer (some ⟨w.heap.size,0,none⟩))).run Tryz.prog _).andThen (fun a w₁=>(loadVar 128 a).run Tryz.prog w₁)=_;simp[asAddr,Result.andThen,this]
end Go.Proofs.YtdgkpkdinfklaabGreat
