import Derived.Test.YtdgkpkdinfklaabGreatGSR
import Derived.Test.YtdgkpkdinfklaabGreatGSP
import Derived.Test.YtdgkpkdinfklaabGreatGU
import Derived.Deep.RegionWith
import Derived.ChangeKeysEq
import Derived.Laws.StructEq
import Derived.Deep.RegionHeld
import Derived.Deep.RegionHeldLaw
import Derived.Deep.RegionLaw
namespace Go.Proofs.YtdgkpkdinfklaabGreat
open Go.RowKit
theorem Tryz.infoBoolP:(Tryz.prog.info? 4).map (fun i=>(i.zero,i.size,i.bytes))=some (some (.bool false),1,1):=by kernel_rfl
theorem Tryz.cellsBool:Tryz.prog.cellsOf 4=1:=by kernel_rfl
theorem held_eq(x0 x1 x2 x3 x4 y0 y1 y2 y3 y4:Bool)(w:World):(Op.equalIn 10000 76 (.agg #[.bool x0,.bool x1,.bool x2,.bool x3,.bool x4]) (.agg #[.bool y0,.bool y1,.bool y2,.bool y3,.bool y4])).run Tryz.prog w=.ok (x0==y0&&(x1==y1&&(x2==y2&&(x3==y3&&x4==y4)))) w:=by
 obtain⟨i0,hi0,hz0,hz1,hz2⟩:=info_parts Tryz.infoBoolP;rw[run_equalIn_array w 9999 _ _ Tryz.underlying76 hi0,Tryz.cellsBool,show List.range 5=[0,1,2,3,4] from rfl];have hu:=Tryz.underlying4;simp only[Op.eqItems,Sem.run_bind];cases h0:(x0==y0)<;>cases h1:(x1==y1)<;>cases h2:(x2==y2)<;>cases h3:(x3==y3)<;>cases h4:(x4==y4)<;>simp[part,go_sem,run_equalIn_bool',hu,h0,h1,h2,h3,h4]
set_option maxHeartbeats 1600000 in
set_option maxRecDepth 100000 in
theorem alike_any(a b:ST)(w:World) :
  Calls Tryz.prog 119 #[.agg #[.int .i64 a.kind,.int .i64 a.place,.int .i64 a.thread,.int .i64 a.num,.bool a.mend,.int .i64 a.nx,.int .i64 a.el,.bool a.h0,.bool a.h1,.bool a.h2,.bool a.h3,.bool a.h4],.agg #[.int .i64 b.kind,.int .i64 b.place,.int .i64 b.thread,.int .i64 b.num,.bool b.mend,.int .i64 b.nx,.int .i64 b.el,.bool b.h0,.bool b.h1,.bool b.h2,.bool b.h3,.bool b.h4]] w fun e w'=>e=.returned (.bool (alkB a b))∧Below w.heap.size w w':=by
 have B1:Hid (∀o o',Below w.heap.size w ((w.alloc o).alloc o')):=fun o o'=>((Below.refl _ _).alloc (Nat.le_refl _) o).alloc (by simp) o'
 unfold alkB;cases h1:(a.thread==b.thread)with
 | false=>
  go_enter Tryz.func119,Tryz.ntmps119
  go_wp2;go_ret;exact⟨rfl,B1.out _ _⟩
 | true=>
  cases h2:(a.kind==b.kind)with
  | false=>
   go_enter Tryz.func119,Tryz.ntmps119
   go_wp2;go_ret;exact⟨rfl,B1.out _ _⟩
  | true=>
   cases h3:(a.num==b.num)with
   | false=>
    go_enter Tryz.func119,Tryz.ntmps119
    go_wp2;go_ret;exact⟨rfl,B1.out _ _⟩
   | true=>
    have hq:=fun wx=>held_eq a.h0 a.h1 a.h2 a.h3 a.h4 b.h0 b.h1 b.h2 b.h3 b.h4 wx
    go_enter Tryz.func119,Tryz.ntmps119
    go_wp2;go_ret;exact⟨rfl,B1.out _ _⟩
theorem addSp_found{m:ST}:∀(S:List SP) (i:Nat) (s:SP),(∀(j:Nat) (s':SP),j<i→S[j]?=some s'→alkB s'.acc m=false)→S[i]?=some s→alkB s.acc m=true→addSp S m=S.set i { s with pls:=s.pls++[m.place] }:=by
 intro S
 induction S with
 | nil=>intro i s _ h;simp at h
 | cons t r ih=>
  intro i s hn hs ha;rw[addSp];cases i with
  | zero=>simp at hs;subst hs;rw[if_pos ha];rfl
  | succ i=>
   rw[hn 0 t (by omega) rfl];simp only[Bool.false_eq_true,if_false,List.set_cons_succ];rw[ih i s (fun j s' hj hs'=>hn (j+1) s' (by omega) (by simpa using hs')) (by simpa using hs) ha]
theorem addSp_last{m:ST}:∀(S:List SP),(∀(j:Nat) (s':SP),S[j]?=some s'→alkB s'.acc m=false)→addSp S m=S++[⟨m,[m.place],-1,false⟩]:=by
 intro S
 induction S with
 | nil=>intro _;rfl
 | cons t r ih=>
  intro hn;rw[addSp,hn 0 t rfl];simp only[Bool.false_eq_true,if_false,List.cons_append];rw[ih (fun j s' hs'=>hn (j+1) s' (by simpa using hs'))]
def inV(l:List Int):List Value:=l.map fun q=>.int .i64 q
structure SQ(w:World)(B sb:Nat)(vs vp:Value)(O:List Value)(S:List SP)(V:List Value)(P:List (Nat×Nat)):Prop where
 sm:SM w B sb vs vp O S V P
 row:∀(i:Nat) (s:SP) (v:Value),S[i]?=some s→V[i]?=some v→w.ownsRow B 3 1 v s.pls.length (inV s.pls)
 ne:∀(i:Nat) (s:SP),S[i]?=some s→s.pls≠[]
 dis:∀(i j:Nat) (v v':Value),i≠j→V[i]?=some v→V[j]?=some v'→v.ownBlock≠v'.ownBlock
theorem spsV_app:∀(S:List SP) (V:List Value) (s:SP) (v:Value),V.length=S.length→spsV (S++[s]) (V++[v])=spsV S V++spV s v:=by
 intro S
 induction S with
 | nil=>intro V s v h;have:V=[]:=List.length_eq_zero_iff.1 h;subst this;simp[spsV]
 | cons x S ih=>
  intro V s v h;cases V with
  | nil=>simp at h
  | cons y V=>
   rw[List.cons_append,List.cons_append,spsV,spsV,ih V s v (by simpa using h),List.append_assoc]
theorem spsV_put:∀(S:List SP) (V:List Value) (i:Nat) (s:SP) (v:Value),S[i]?=some s→V[i]?=some v→∀(q:List Int) (u:Value),(spsV S V).set (i*15+12) u=spsV (S.set i { s with pls:=q }) (V.set i u):=by
 intro S
 induction S with
 | nil=>intro V i s v h;simp at h
 | cons x S ih=>
  intro V i s v hs hv q u;cases V with
  | nil=>simp at hv
  | cons y V=>
   rw[spsV];cases i with
   | zero=>
    simp only[List.getElem?_cons_zero,Option.some.injEq]at hs hv;subst hs hv;rw[Nat.zero_mul,Nat.zero_add,List.set_append_left _ _ (by rw[spV_len];decide),List.set_cons_zero,List.set_cons_zero,spsV];rfl
   | succ i=>
    rw[List.set_append_right _ _ (by rw[spV_len];omega),spV_len,show(i+1)*15+12-15=i*15+12 by omega,List.set_cons_succ,List.set_cons_succ,spsV];rw[ih V i s v (by simpa using hs) (by simpa using hv) q u]
section
variable {w w' : World} {B sb : Nat} {vs vp : Value} {O : List Value} {S : List SP} {V : List Value} {P : List (Nat × Nat)}
theorem SQ.below(h:SQ w B sb vs vp O S V P)(hb:Below w.heap.size w w'):SQ w' B sb vs vp O S V P:=
 ⟨h.sm.below hb,fun i s v hs hv=>ownsRow_later (h.row i s v hs hv) hb,h.ne,h.dis⟩
theorem SQ.at(h:SQ w B sb vs vp O S V P){i:Nat}{s:SP}(hs:S[i]?=some s):∃g c,V[i]?=some (.slice (some ⟨g,0,none⟩) s.pls.length c)∧w.ownsRow B 3 1 (.slice (some ⟨g,0,none⟩) s.pls.length c) s.pls.length (inV s.pls):=by
 have hi:=(List.getElem?_eq_some_iff.1 hs).1;have hv:=List.getElem?_eq_getElem (show i<V.length by rw[h.sm.vl];exact hi);have hr:=h.row i s _ hs hv;have hn:0<s.pls.length:=List.length_pos_iff.2 (h.ne i s hs);obtain⟨g,c,e,_⟩:=hr.form hn;rw[e]at hv hr;exact⟨g,c,hv,hr⟩
theorem SQ.kept(h:SQ w B sb vs vp O S V P){S':List SP}{vs':Value}{row:Option Nat}(hm:SM w' B sb vs' vp O S' V P)(hg:w.grownBy w' row)(hr:∀(i:Nat) (v:Value),V[i]?=some v→v.ownBlock≠row)(hp:∀(i:Nat) (s':SP),S'[i]?=some s'→∃s,S[i]?=some s∧s'.pls=s.pls):SQ w' B sb vs' vp O S' V P:=
 ⟨hm,fun i s' v hs hv=>by
  obtain⟨s,h1,h2⟩:=hp i s' hs;rw[h2];exact(h.row i s v h1 hv).kept hg (.inr (hr i v hv)),fun i s' hs=>by
  obtain⟨s,h1,h2⟩:=hp i s' hs
  rw[h2];exact h.ne i s h1,h.dis⟩
end
theorem SQ.more{w W w1:World}{B sb:Nat}{vs vp:Value}{O:List Value}{S:List SP}{V:List Value}{P:List (Nat×Nat)}(h:SQ w B sb vs vp O S V P)(hB:B≤w.heap.size)(m:ST){o':Obj}
  (hW:W=((w.alloc (.cells #[.int .i64 m.place] 3)).alloc o').drew){gg cap:Nat}
  (hown:w1.ownsRow B 164 15 (.slice (some ⟨gg,0,none⟩) (S.length+1) cap) (S.length+1) (spsV S V++spV ⟨m,[m.place],-1,false⟩ (.slice (some ⟨w.heap.size,0,none⟩) 1 1)))
  (hg:W.grownBy w1 vs.ownBlock) :
  SQ (w1.setCell ⟨sb,0,none⟩ (.slice (some ⟨gg,0,none⟩) (S.length+1) cap)) B sb (.slice (some ⟨gg,0,none⟩) (S.length+1) cap) vp O (S++[⟨m,[m.place],-1,false⟩]) (V++[.slice (some ⟨w.heap.size,0,none⟩) 1 1]) P:=by
 have hblk:Blk w1 sb (vs::vp::O) 145:=by
  have h0:Blk W sb (vs::vp::O) 145:=by rw[hW];exact((h.sm.blk.alloc _).alloc _).drew
  show _=_;rw[hg.block sb h0.lt (fun e=>row_ne h.sm.sp h.sm.blk (by decide) e.symm)];exact h0
 have hsbg:gg≠sb:=fun e=>row_ne hown hblk (by decide) (by rw[e];rfl)
 have old:∀(e n:Nat) (v:Value) (xs:List Value) (q:Nat),e≠164→e≠145→w.ownsRow B e q v n xs→(w1.setCell ⟨sb,0,none⟩ (.slice (some ⟨gg,0,none⟩) (S.length+1) cap)).ownsRow B e q v n xs:=by
  intro e n v xs q he hs hr;have h1:W.ownsRow B e q v n xs:=by rw[hW];exact((hr.alloc _).alloc _).drew
  have h2:=h1.kept hg (rows_apart hr h.sm.sp he);exact ownsRow_setCell_other h2 (row_ne h2 hblk hs) _
 have hnew:(w1.setCell ⟨sb,0,none⟩ (.slice (some ⟨gg,0,none⟩) (S.length+1) cap)).ownsRow B 3 1 (.slice (some ⟨w.heap.size,0,none⟩) 1 1) 1 (inV [m.place]):=by
  have h0:W.ownsRow B 3 1 (.slice (some ⟨w.heap.size,0,none⟩) 1 1) 1 (inV [m.place]):=by
   rw[hW];exact((World.ownsRow_lit w #[.int .i64 m.place] 1 hB (by unfold maxLen;omega) rfl).alloc _).drew
  have h2:=h0.kept hg (.inr (fun e=>by
   have:=(h.sm.sp.lt w.heap.size e.symm).2
   omega))
  exact ownsRow_setCell_other h2 (row_ne h2 hblk (by decide)) _
 have hsp:(w1.setCell ⟨sb,0,none⟩ (.slice (some ⟨gg,0,none⟩) (S.length+1) cap)).ownsRow B 164 15 (.slice (some ⟨gg,0,none⟩) (S.length+1) cap) (S.length+1) (spsV S V++spV ⟨m,[m.place],-1,false⟩ (.slice (some ⟨w.heap.size,0,none⟩) 1 1)):=
  ownsRow_setCell_other hown (fun e=>hsbg (by simpa[Value.ownBlock]using e)) _
 have hVl:∀(i:Nat) (s:SP) (v:Value),(S++[⟨m,[m.place],-1,false⟩])[i]?=some s→(V++[.slice (some ⟨w.heap.size,0,none⟩) 1 1])[i]?=some v→(S[i]?=some s∧V[i]?=some v)∨(i=S.length∧s=⟨m,[m.place],-1,false⟩∧v=.slice (some ⟨w.heap.size,0,none⟩) 1 1):=by
  intro i s v hs hv
  by_cases hi:i<S.length
  ·rw[List.getElem?_append_left hi]at hs;rw[List.getElem?_append_left (by rw[h.sm.vl];exact hi)]at hv;exact .inl ⟨hs,hv⟩
  ·rw[List.getElem?_append_right (by omega)]at hs;rw[List.getElem?_append_right (by rw[h.sm.vl];omega),h.sm.vl]at hv;have:i-S.length=0:=by have:=(List.getElem?_eq_some_iff.1 hs).1;simp at this;omega
   rw[this]at hs hv;simp at hs hv;exact .inr ⟨by omega,hs.symm,hv.symm⟩
 have hV2:∀(i:Nat) (v:Value),(V++[.slice (some ⟨w.heap.size,0,none⟩) 1 1])[i]?=some v→(V[i]?=some v∧∃k,v.ownBlock=some k∧k<w.heap.size)∨(i=V.length∧v=.slice (some ⟨w.heap.size,0,none⟩) 1 1):=by
  intro i v hv
  by_cases hi:i<V.length
  ·rw[List.getElem?_append_left hi]at hv;have his:i<S.length:=by rw[←h.sm.vl];exact hi
   obtain⟨g,c,e,hr⟩:=h.at (List.getElem?_eq_getElem his);rw[hv]at e;have:=Option.some.inj e;subst this;exact .inl ⟨hv,g,rfl,(hr.lt g rfl).2⟩
  ·rw[List.getElem?_append_right (by omega)]at hv;have:i-V.length=0:=by have:=(List.getElem?_eq_some_iff.1 hv).1;simp at this;omega
   rw[this]at hv;simp at hv;exact .inr ⟨by omega,hv.symm⟩
 refine⟨⟨?_,?_,old _ _ _ _ _ (by decide) (by decide) h.sm.pr,by simp[h.sm.vl],fun i s v hs hv=>?_⟩,fun i s v hs hv=>?_,fun i s hs=>?_,fun i j v v' hij hv hv'=>?_⟩
 ·exact hblk.set 0 _
 ·rw[List.length_append,spsV_app S V _ _ h.sm.vl];exact hsp
 ·rcases hVl i s v hs hv with⟨h1,h2⟩|⟨_,rfl,rfl⟩
  ·exact h.sm.pv i s v h1 h2
  ·exact⟨_,_,rfl⟩
 ·rcases hVl i s v hs hv with⟨h1,h2⟩|⟨_,rfl,rfl⟩
  ·exact old _ _ _ _ _ (by decide) (by decide) (h.row i s v h1 h2)
  ·exact hnew
 ·by_cases hi:i<S.length
  ·rw[List.getElem?_append_left hi]at hs;exact h.ne i s hs
  ·rw[List.getElem?_append_right (by omega)]at hs;have:i-S.length=0:=by have:=(List.getElem?_eq_some_iff.1 hs).1;simp at this;omega
   rw[this]at hs;simp at hs;rw[←hs];simp
 ·rcases hV2 i v hv with⟨h1,k,e1,l1⟩|⟨i1,rfl⟩<;>rcases hV2 j v' hv' with⟨h2,k',e2,l2⟩|⟨i2,rfl⟩
  ·exact h.dis i j v v' hij h1 h2
  ·rw[e1];intro e;simp[Value.ownBlock]at e;omega
  ·rw[e2];intro e;simp[Value.ownBlock]at e;omega
  ·omega
theorem SQ.again{w W w1:World}{B sb:Nat}{vs vp:Value}{O:List Value}{S:List SP}{V:List Value}{P:List (Nat×Nat)}(h:SQ w B sb vs vp O S V P){i:Nat}{s:SP}{g c gp cp:Nat}(hs:S[i]?=some s)(hvs:vs=.slice (some ⟨g,0,none⟩) S.length c)(hvi:V[i]?=some (.slice (some ⟨gp,0,none⟩) s.pls.length cp))(q:Int){o:Obj}
  (hW:W=(w.alloc o).drew){gg cap:Nat}
  (hown:w1.ownsRow B 3 1 (.slice (some ⟨gg,0,none⟩) (s.pls.length+1) cap) (s.pls.length+1) (inV s.pls++[.int .i64 q]))
  (hg:W.grownBy w1 (some gp))(hat:gg=gp∨gg=w.heap.size+1) :
  SQ (w1.setCell ⟨g,i*15+12,none⟩ (.slice (some ⟨gg,0,none⟩) (s.pls.length+1) cap)) B sb vs vp O (S.set i { s with pls:=s.pls++[q] }) (V.set i (.slice (some ⟨gg,0,none⟩) (s.pls.length+1) cap)) P:=by
 have hi:=(List.getElem?_eq_some_iff.1 hs).1;have hri:=h.row i s _ hs hvi;have hob:(Value.slice (some ⟨gp,0,none⟩) s.pls.length cp).ownBlock=some gp:=rfl;have hblk:Blk w1 sb (vs::vp::O) 145:=by
  have h0:Blk W sb (vs::vp::O) 145:=by rw[hW];exact(h.sm.blk.alloc _).drew
  show _=_;rw[hg.block sb h0.lt (fun e=>row_ne hri h.sm.blk (by decide) (by rw[hob,e]))];exact h0
 have keep:∀(e n:Nat) (v:Value) (xs:List Value) (z:Nat),w.ownsRow B e z v n xs→v.ownBlock=none∨v.ownBlock≠some gp→w1.ownsRow B e z v n xs:=by
  intro e n v xs z hr hne;have h1:W.ownsRow B e z v n xs:=by rw[hW];exact(hr.alloc _).drew
  exact h1.kept hg hne
 have hsp1:=keep _ _ _ _ _ h.sm.sp (by have:=rows_apart h.sm.sp hri (by decide);rw[hob]at this;exact this);have hpr1:=keep _ _ _ _ _ h.sm.pr (by have:=rows_apart h.sm.pr hri (by decide);rw[hob]at this;exact this);have hsp1':=hsp1;rw[hvs]at hsp1';obtain⟨r1,r2⟩:=hsp1'.stored (i*15+12) (.slice (some ⟨gg,0,none⟩) (s.pls.length+1) cap);rw[spsV_put S V i s _ hs hvi (s.pls++[q])]at r1;have hgsp:vs.ownBlock=some g:=by rw[hvs];rfl
 have hgsb:sb≠g:=fun e=>row_ne hsp1 hblk (by decide) (by rw[hgsp,e])
 have set2:∀(e n:Nat) (v:Value) (xs:List Value) (z:Nat),e≠164→w1.ownsRow B e z v n xs→(w1.setCell ⟨g,i*15+12,none⟩ (.slice (some ⟨gg,0,none⟩) (s.pls.length+1) cap)).ownsRow B e z v n xs:=by
  intro e n v xs z he hr;refine hr.kept r2 ?_;have:=rows_apart hr hsp1 he;rw[hgsp]at this;exact this
 have hV:∀(j:Nat) (v:Value),(V.set i (.slice (some ⟨gg,0,none⟩) (s.pls.length+1) cap))[j]?=some v→(j=i∧v=.slice (some ⟨gg,0,none⟩) (s.pls.length+1) cap)∨(j≠i∧V[j]?=some v):=by
  intro j v hv;rw[List.getElem?_set]at hv
  by_cases e:i=j
  ·rw[if_pos e,if_pos (by rw[h.sm.vl];exact hi)]at hv;exact .inl ⟨e.symm,(Option.some.inj hv).symm⟩
  ·rw[if_neg e]at hv;exact .inr ⟨fun h=>e h.symm,hv⟩
 have hS:∀(j:Nat) (x:SP),(S.set i { s with pls:=s.pls++[q] })[j]?=some x→(j=i∧x={ s with pls:=s.pls++[q] })∨(j≠i∧S[j]?=some x):=by
  intro j x hx;rw[List.getElem?_set]at hx
  by_cases e:i=j
  ·rw[if_pos e,if_pos hi]at hx;exact .inl ⟨e.symm,(Option.some.inj hx).symm⟩
  ·rw[if_neg e]at hx;exact .inr ⟨fun h=>e h.symm,hx⟩
 have hother:∀(j:Nat) (v:Value),j≠i→V[j]?=some v→v.ownBlock≠some gg:=by
  intro j v hj hv;have hjs:j<S.length:=by rw[←h.sm.vl];exact(List.getElem?_eq_some_iff.1 hv).1
  obtain⟨g',c',e,hr⟩:=h.at (List.getElem?_eq_getElem hjs);rw[hv]at e;have:=Option.some.inj e;subst this;rcases hat with rfl|rfl
  ·exact h.dis j i _ _ hj hv hvi
  ·intro e;have:=(hr.lt g' rfl).2;simp[Value.ownBlock]at e;omega
 have hnew:(w1.setCell ⟨g,i*15+12,none⟩ (.slice (some ⟨gg,0,none⟩) (s.pls.length+1) cap)).ownsRow B 3 1 (.slice (some ⟨gg,0,none⟩) (s.pls.length+1) cap) (s.pls.length+1) (inV s.pls++[.int .i64 q]):=set2 _ _ _ _ _ (by decide) hown;refine⟨⟨hblk.other (by exact hgsb) _,?_,set2 _ _ _ _ _ (by decide) hpr1,by rw[List.length_set,List.length_set];exact h.sm.vl,fun j x v hx hv=>?_⟩,fun j x v hx hv=>?_,fun j x hx=>?_,fun j k v v' hjk hv hv'=>?_⟩
 ·rw[List.length_set,hvs];exact r1
 ·rcases hV j v hv with⟨e,rfl⟩|⟨e,hv⟩
  ·rcases hS j x hx with⟨_,rfl⟩|⟨e',_⟩
   ·exact⟨_,_,by show _=Value.slice _ (s.pls++[q]).length _;rw[List.length_append];rfl⟩
   ·exact absurd e e'
  ·rcases hS j x hx with⟨e',_⟩|⟨_,hx⟩
   ·exact absurd e' e
   ·exact h.sm.pv j x v hx hv
 ·rcases hV j v hv with⟨e,rfl⟩|⟨e,hv⟩
  ·rcases hS j x hx with⟨_,rfl⟩|⟨e',_⟩
   ·have:inV (s.pls++[q])=inV s.pls++[.int .i64 q]:=by simp[inV]
    simp only[List.length_append,List.length_cons,List.length_nil];rw[this];exact hnew
   ·exact absurd e e'
  ·rcases hS j x hx with⟨e',_⟩|⟨_,hx⟩
   ·exact absurd e' e
   ·refine set2 _ _ _ _ _ (by decide) (keep _ _ _ _ _ (h.row j x v hx hv) (.inr ?_));rw[←hob];exact h.dis j i v _ e hv hvi
 ·rcases hS j x hx with⟨_,rfl⟩|⟨_,hx⟩
  ·simp
  ·exact h.ne j x hx
 ·rcases hV j v hv with⟨e,rfl⟩|⟨e,hv⟩<;>rcases hV k v' hv' with⟨e',rfl⟩|⟨e',hv'⟩
  ·omega
  ·exact fun x=>hother k v' e' hv' x.symm
  ·exact hother j v e hv
  ·exact h.dis j k v v' hjk hv hv'
theorem Tryz.infoSpot:(Tryz.prog.info? 164).map (fun i=>(i.zero,i.size,i.bytes))=some (some (.agg #[.int .i64 0,.int .i64 0,.int .i64 0,.int .i64 0,.bool false,.int .i64 0,.int .i64 0,.bool false,.bool false,.bool false,.bool false,.bool false,.slice none 0 0,.int .i64 0,.bool false]),15,104):=by kernel_rfl
theorem Tryz.infoIntQ:(Tryz.prog.info? 3).map (fun i=>(i.zero,i.size,i.bytes))=some (some (.int .i64 0),1,8):=by kernel_rfl
set_option maxHeartbeats 3200000 in
set_option maxRecDepth 100000 in
theorem spotAdd_any{B sb:Nat}{vs vp:Value}{O:List Value}{S:List SP}{V:List Value}{P:List (Nat×Nat)}(m:ST)(w:World)(h:SQ w B sb vs vp O S V P)(hB:B≤sb)(hl:S.length≤1000)(hpl:∀(i:Nat) (s:SP),S[i]?=some s→s.pls.length≤1000) :
  Calls Tryz.prog 99 #[.pointer (some ⟨sb,0,none⟩),.agg #[.int .i64 m.kind,.int .i64 m.place,.int .i64 m.thread,.int .i64 m.num,.bool m.mend,.int .i64 m.nx,.int .i64 m.el,.bool m.h0,.bool m.h1,.bool m.h2,.bool m.h3,.bool m.h4]] w fun e w'=>e=.returned (.tuple #[])∧(∃vs' V',SQ w' B sb vs' vp O (addSp S m) V' P)∧Below B w w':=by
 have HQ:Hid (SQ w B sb vs vp O S V P):=h;have hsb:=h.sm.blk.lt;have HPL:Hid (∀(i:Nat) (s:SP),S[i]?=some s→s.pls.length≤1000):=hpl;obtain⟨av,cv,hvs⟩:=row_slice h.sm.sp;have HVS:Hid (vs=.slice av S.length cv):=hvs;have B1:Hid (∀o,Below w.heap.size w (w.alloc o)):=fun o=>(Below.refl _ _).alloc (Nat.le_refl _) o
 obtain⟨n,hn⟩:∃n,n=S.length:=⟨_,rfl⟩;have HN:Hid (n=S.length):=hn;have HC0:Hid (∀W,SQ W B sb vs vp O S V P→W.cell? ⟨sb,0,none⟩=some (.slice av n cv)∧W.frozen? ⟨sb,0,none⟩=false):=fun W hW=>by
  refine⟨?_,hW.sm.blk.fz 0⟩;have:=hW.sm.c0;rw[HVS.out,←hn]at this;exact this
 rw[←hn]at hl;clear h hpl hvs hn;obtain⟨is,his,zs0,zs1,zs2⟩:=info_parts Tryz.infoSpot;obtain⟨i0,hi0,hz0,hz1,hz2⟩:=info_parts Tryz.infoIntQ;have CW0:=HC0.out (w.alloc (.cells (stV m).toArray 88)) (HQ.out.below (B1.out _));have c0:(w.alloc (.cells #[.int .i64 m.kind,.int .i64 m.place,.int .i64 m.thread,.int .i64 m.num,.bool m.mend,.int .i64 m.nx,.int .i64 m.el,.bool m.h0,.bool m.h1,.bool m.h2,.bool m.h3,.bool m.h4] 88)).cell? ⟨sb,0,none⟩=some (.slice av n cv):=CW0.1;clear CW0
 go_enter Tryz.func99,Tryz.ntmps99
 go_wp2
 go_loopw [4] (fun iv wr=>∃i:Nat,i≤n∧iv=.int .i64 i∧(∀j s',j<i→S[j]?=some s'→alkB s'.acc m=false)∧SQ wr B sb vs vp O S V P∧Blk wr w.heap.size (stV m) 88∧Below w.heap.size w wr) (fun iv _=>n-(intOf iv).toNat)
 case atStart=>exact⟨0,Nat.zero_le _,rfl,fun j s' hj=>by omega,HQ.out.below (B1.out _),heap_alloc_new _ _,B1.out _⟩
 case round=>
  obtain⟨i,hi,rfl,hno,hq,hbk,hbe⟩:=hrel;have HNO:Hid (∀j s',j<i→S[j]?=some s'→alkB s'.acc m=false):=hno;have HQ1:Hid (SQ wr B sb vs vp O S V P):=hq;have HBK:Hid (Blk wr w.heap.size (stV m) 88):=hbk;have HBE:Hid (Below w.heap.size w wr):=hbe;have hwr:=hbe.size;have hbl:=hbk.lt;obtain⟨c0,z0⟩:=HC0.out wr hq;clear hno hq hbk hbe
  by_cases hlt:i<n
  ·obtain⟨s,hs⟩:∃s,S[i]?=some s:=⟨_,List.getElem?_eq_getElem (by rw[←HN.out];exact hlt)⟩;obtain⟨g,cp,v,hv,hvi,hcell⟩:=HQ1.out.sm.spot hs;have hav:av=some ⟨g,0,none⟩:=by rw[HVS.out]at hv;cases hv;rfl
   subst hav;have HS:Hid (S[i]?=some s):=hs;have hii:(i:Int)<(n:Int):=by omega
   have hid:decide ((i:Int)<(n:Int))=true:=by simp;omega
   obtain⟨R,hR⟩:∃R,R=alkB s.acc m:=⟨_,rfl⟩;have HR:Hid (R=alkB s.acc m):=hR;have HAL:Hid (∀wx,Calls Tryz.prog 119 #[.agg #[.int .i64 s.acc.kind,.int .i64 s.acc.place,.int .i64 s.acc.thread,.int .i64 s.acc.num,.bool s.acc.mend,.int .i64 s.acc.nx,.int .i64 s.acc.el,.bool s.acc.h0,.bool s.acc.h1,.bool s.acc.h2,.bool s.acc.h3,.bool s.acc.h4],.agg #[.int .i64 m.kind,.int .i64 m.place,.int .i64 m.thread,.int .i64 m.num,.bool m.mend,.int .i64 m.nx,.int .i64 m.el,.bool m.h0,.bool m.h1,.bool m.h2,.bool m.h3,.bool m.h4]] wx fun e w'=>e=.returned (.bool R)∧Below wx.heap.size wx w'):=fun wx=>by rw[hR];exact alike_any s.acc m wx
   have HKEEP:Hid (∀W,Below wr.heap.size wr W→W.cell? ⟨sb,0,none⟩=some (.slice (some ⟨g,0,none⟩) n cv)∧W.cell? ⟨g,i*15,none⟩=some (.int .i64 s.acc.kind)∧W.cell? ⟨g,i*15+1,none⟩=some (.int .i64 s.acc.place)∧W.cell? ⟨g,i*15+2,none⟩=some (.int .i64 s.acc.thread)∧W.cell? ⟨g,i*15+3,none⟩=some (.int .i64 s.acc.num)∧W.cell? ⟨g,i*15+4,none⟩=some (.bool s.acc.mend)∧W.cell? ⟨g,i*15+5,none⟩=some (.int .i64 s.acc.nx)∧W.cell? ⟨g,i*15+6,none⟩=some (.int .i64 s.acc.el)∧W.cell? ⟨g,i*15+7,none⟩=some (.bool s.acc.h0)∧W.cell? ⟨g,i*15+8,none⟩=some (.bool s.acc.h1)∧W.cell? ⟨g,i*15+9,none⟩=some (.bool s.acc.h2)∧W.cell? ⟨g,i*15+10,none⟩=some (.bool s.acc.h3)∧W.cell? ⟨g,i*15+11,none⟩=some (.bool s.acc.h4)∧W.cell? ⟨w.heap.size,0,none⟩=some (.int .i64 m.kind)∧W.cell? ⟨w.heap.size,1,none⟩=some (.int .i64 m.place)∧W.cell? ⟨w.heap.size,2,none⟩=some (.int .i64 m.thread)∧W.cell? ⟨w.heap.size,3,none⟩=some (.int .i64 m.num)∧W.cell? ⟨w.heap.size,4,none⟩=some (.bool m.mend)∧W.cell? ⟨w.heap.size,5,none⟩=some (.int .i64 m.nx)∧W.cell? ⟨w.heap.size,6,none⟩=some (.int .i64 m.el)∧W.cell? ⟨w.heap.size,7,none⟩=some (.bool m.h0)∧W.cell? ⟨w.heap.size,8,none⟩=some (.bool m.h1)∧W.cell? ⟨w.heap.size,9,none⟩=some (.bool m.h2)∧W.cell? ⟨w.heap.size,10,none⟩=some (.bool m.h3)∧W.cell? ⟨w.heap.size,11,none⟩=some (.bool m.h4)):=by
    intro W hW;have hW2:=HQ1.out.below hW;obtain⟨g2,c2,v2,hv2,_,hc2⟩:=hW2.sm.spot hs;have e2:g2=g:=by rw[HVS.out]at hv2;cases hv2;rfl
    subst e2;have hB2:=HBK.out.chg (chg_of_below hW []) (by simp);exact⟨(HC0.out W hW2).1,hc2 0 _ (by decide) rfl,hc2 1 _ (by decide) rfl,hc2 2 _ (by decide) rfl,hc2 3 _ (by decide) rfl,hc2 4 _ (by decide) rfl,hc2 5 _ (by decide) rfl,hc2 6 _ (by decide) rfl,hc2 7 _ (by decide) rfl,hc2 8 _ (by decide) rfl,hc2 9 _ (by decide) rfl,hc2 10 _ (by decide) rfl,hc2 11 _ (by decide) rfl,hB2.cell 0 _ rfl,hB2.cell 1 _ rfl,hB2.cell 2 _ rfl,hB2.cell 3 _ rfl,hB2.cell 4 _ rfl,hB2.cell 5 _ rfl,hB2.cell 6 _ rfl,hB2.cell 7 _ rfl,hB2.cell 8 _ rfl,hB2.cell 9 _ rfl,hB2.cell 10 _ rfl,hB2.cell 11 _ rfl⟩
   clear hcell hvi hv hs hR
   go_wp2_with fail
   go_region_held (fun W=>W.cell? ⟨sb,0,none⟩=some (.slice (some ⟨g,0,none⟩) n cv)∧W.cell? ⟨g,i*15,none⟩=some (.int .i64 s.acc.kind)∧W.cell? ⟨g,i*15+1,none⟩=some (.int .i64 s.acc.place)∧W.cell? ⟨g,i*15+2,none⟩=some (.int .i64 s.acc.thread)∧W.cell? ⟨g,i*15+3,none⟩=some (.int .i64 s.acc.num)∧W.cell? ⟨g,i*15+4,none⟩=some (.bool s.acc.mend)∧W.cell? ⟨g,i*15+5,none⟩=some (.int .i64 s.acc.nx)∧W.cell? ⟨g,i*15+6,none⟩=some (.int .i64 s.acc.el)∧W.cell? ⟨g,i*15+7,none⟩=some (.bool s.acc.h0)∧W.cell? ⟨g,i*15+8,none⟩=some (.bool s.acc.h1)∧W.cell? ⟨g,i*15+9,none⟩=some (.bool s.acc.h2)∧W.cell? ⟨g,i*15+10,none⟩=some (.bool s.acc.h3)∧W.cell? ⟨g,i*15+11,none⟩=some (.bool s.acc.h4)∧W.cell? ⟨w.heap.size,0,none⟩=some (.int .i64 m.kind)∧W.cell? ⟨w.heap.size,1,none⟩=some (.int .i64 m.place)∧W.cell? ⟨w.heap.size,2,none⟩=some (.int .i64 m.thread)∧W.cell? ⟨w.heap.size,3,none⟩=some (.int .i64 m.num)∧W.cell? ⟨w.heap.size,4,none⟩=some (.bool m.mend)∧W.cell? ⟨w.heap.size,5,none⟩=some (.int .i64 m.nx)∧W.cell? ⟨w.heap.size,6,none⟩=some (.int .i64 m.el)∧W.cell? ⟨w.heap.size,7,none⟩=some (.bool m.h0)∧W.cell? ⟨w.heap.size,8,none⟩=some (.bool m.h1)∧W.cell? ⟨w.heap.size,9,none⟩=some (.bool m.h2)∧W.cell? ⟨w.heap.size,10,none⟩=some (.bool m.h3)∧W.cell? ⟨w.heap.size,11,none⟩=some (.bool m.h4)) (first|exact HKEEP.out _ (below_drewN' _ _ 1)|exact HKEEP.out _ hbw) ((
    go_at_call 119
    refine(HAL.out _).mono ?_;rintro e w1 ⟨rfl,hb1⟩
    have hbw:Below wr.heap.size wr w1:=(below_drewN' _ _ 1).trans hb1))
   all_goals
    have HQ2:Hid (SQ w1 B sb vs vp O S V P):=HQ1.out.below hbw;have HBK2:Hid (Blk w1 w.heap.size (stV m) 88):=HBK.out.chg (chg_of_below hbw []) (by simp);have HBE2:Hid (Below w.heap.size w w1):=HBE.out.trans (hbw.mono hwr);clear hb1 hbw c0 z0 HKEEP;cases R with
    | false=>
     have HN2:Hid (∀j s',j<i+1→S[j]?=some s'→alkB s'.acc m=false):=fun j s' hj hs'=>by
      by_cases e:j=i
      ·subst e;rw[HS.out]at hs';cases hs';exact HR.out.symm
      ·exact HNO.out j s' (by omega) hs'
     go_wp2;exact⟨⟨i+1,by omega,by go_num,HN2.out,HQ2.out,HBK2.out,HBE2.out⟩,by simp[intOf];omega⟩
    | true=>
     obtain⟨c0,z0⟩:=HC0.out w1 HQ2.out;obtain⟨gp,cpp,hvp,hrow⟩:=HQ2.out.at HS.out;obtain⟨g',cp',v',hv',hvi',hcell'⟩:=HQ2.out.sm.spot HS.out;have eg:g'=g:=by rw[HVS.out]at hv';cases hv';rfl
     subst eg;have ev:v'=.slice (some ⟨gp,0,none⟩) s.pls.length cpp:=by rw[hvp]at hvi';exact(Option.some.inj hvi').symm
     subst ev;have q12:=hcell' 12 _ (by decide) rfl;have z12:=HQ2.out.sm.fz hv' (i*15+12);have r1:=HBK2.out.cell 1 _ rfl;have HVI:Hid (V[i]?=some (.slice (some ⟨gp,0,none⟩) s.pls.length cpp)):=hvp;have HROW:Hid (w1.ownsRow B 3 1 (.slice (some ⟨gp,0,none⟩) s.pls.length cpp) s.pls.length (inV s.pls)):=hrow;have hpn:=HPL.out i s HS.out;obtain⟨np,hnp⟩:∃np,np=s.pls.length:=⟨_,rfl⟩;have HNP:Hid (np=s.pls.length):=hnp;have hgp:=hrow.lt gp rfl;have nsb:sb≠gp:=fun e=>row_ne hrow HQ2.out.sm.blk (by decide) (by rw[e];rfl)
     have nsg:g'≠gp:=fun e=>by
      have:=rows_apart hrow HQ2.out.sm.sp (by decide);rw[hv']at this;rcases this with h|h
      ·cases h
      ·exact h (by rw[e];rfl)
     have nsb':some sb≠(Value.slice (some ⟨gp,0,none⟩) np cpp).ownBlock:=fun e=>nsb (by simpa[Value.ownBlock]using e)
     have nsg':some g'≠(Value.slice (some ⟨gp,0,none⟩) np cpp).ownBlock:=fun e=>nsg (by simpa[Value.ownBlock]using e)
     have hsb1:=HQ2.out.sm.blk.lt;have hg1:g'<w1.heap.size:=(HQ2.out.sm.sp.lt g' (by rw[hv'];rfl)).2;have hb01:=HBK2.out.lt;have HVG:Hid (vs=.slice (some ⟨g',0,none⟩) S.length cp'):=hv';rw[←hnp]at HROW hpn q12;clear hrow hvp hcell' hvi' hv' hnp nsb nsg;have hblk:∀o,((w1.alloc o).drew).heap[w1.heap.size]?=some o:=fun o=>heap_alloc_new w1 o
     have nbx:w.heap.size≠gp:=fun e=>row_ne HROW.out HBK2.out (by decide) (by rw[e];rfl)
     have nbg:w.heap.size≠g':=fun e=>row_ne HQ2.out.sm.sp HBK2.out (by decide) (by rw[HVG.out,e];rfl)
     have nsg2:sb≠g':=fun e=>row_ne HQ2.out.sm.sp HQ2.out.sm.blk (by decide) (by rw[HVG.out,e];rfl)
     have nsp2:sb≠gp:=fun e=>row_ne HROW.out HQ2.out.sm.blk (by decide) (by rw[e];rfl)
     have HK5:Hid (∀W:World,(∀k,k<w1.heap.size→k≠gp→k≠g'→W.heap[k]?=w1.heap[k]?)→W.cell? ⟨sb,0,none⟩=some (.slice (some ⟨g',0,none⟩) n cv)∧W.cell? ⟨w.heap.size,1,none⟩=some (.int .i64 m.place)):=fun W hW=>
      ⟨(World.cell?_of_block (a:=⟨sb,0,none⟩) (hW sb hsb1 nsp2 nsg2)).trans c0,(World.cell?_of_block (a:=⟨w.heap.size,1,none⟩) (hW w.heap.size hb01 nbx nbg)).trans r1⟩
     clear c0 r1
     go_wp2_with fail
     refine wp_region_held_drew (S:=fun W:World=>∀k,k<w1.heap.size→k≠gp→k≠g'→W.heap[k]?=w1.heap[k]?) (by kernel_rfl) (fun k hk _ _=>rfl) (fun hH=>?_);refine wpAnyH_take (i:=0) (oi:={ dst:=some 24,op:=Go.Op.move (Go.Operand.tmp 0),type:=167,pos := "search.go:48",after:=#[],guard:=none }) (v:=?_) rfl (by kernel_rfl) (by kernel_rfl) (by kernel_rfl) (fun _ _ _ h=>h) (Or.inl ⟨by rfl,?_⟩) hH ?_
     rotate_left
     ·intro W hW
      go_simp
      (try with_reducible rfl)
     simp only[Act.put,List.setIfInBounds_toArray,List.set_cons_zero,List.set_cons_succ];refine wpAnyH_take (i:=1) (oi:={ dst:=some 25,op:=Go.Op.nilCheck (Go.Operand.tmp 24),type:=0,pos := "search.go:48",after:=#[{ on:=0,ground:=Go.Ground.data }],guard:=none }) (v:=?_) rfl (by kernel_rfl) (by kernel_rfl) (by kernel_rfl) (fun _ _ _ h=>h) (Or.inl ⟨by rfl,?_⟩) hH ?_
     rotate_left
     ·intro W hW
      go_simp
      (try with_reducible rfl)
     simp only[Act.put,List.setIfInBounds_toArray,List.set_cons_zero,List.set_cons_succ];refine wpAnyH_take (i:=2) (oi:={ dst:=some 26,op:=Go.Op.fieldAddr 145 (Go.Operand.tmp 25) 0,type:=0,pos := "search.go:48",after:=#[{ on:=1,ground:=Go.Ground.data }],guard:=none }) (v:=?_) rfl (by kernel_rfl) (by kernel_rfl) (by kernel_rfl) (fun _ _ _ h=>h) (Or.inl ⟨by rfl,?_⟩) hH ?_
     rotate_left
     ·intro W hW
      go_simp
      (try with_reducible rfl)
     simp only[Act.put,List.setIfInBounds_toArray,List.set_cons_zero,List.set_cons_succ];refine wpAnyH_take (i:=3) (oi:={ dst:=some 27,op:=Go.Op.load 142 (Go.Operand.tmp 26),type:=142,pos := "search.go:48",after:=#[{ on:=2,ground:=Go.Ground.data }],guard:=none }) (v:=?_) rfl (by kernel_rfl) (by kernel_rfl) (by kernel_rfl) (fun _ _ _ h=>h) (Or.inl ⟨by rfl,?_⟩) hH ?_
     rotate_left
     ·intro W hW;obtain⟨c0,r1⟩:=HK5.out W hW
      go_simp
      (try with_reducible rfl)
     simp only[Act.put,List.setIfInBounds_toArray,List.set_cons_zero,List.set_cons_succ];refine wpAnyH_take (i:=4) (oi:={ dst:=some 28,op:=Go.Op.move (Go.Operand.tmp 4),type:=3,pos := "search.go:48",after:=#[],guard:=none }) (v:=?_) rfl (by kernel_rfl) (by kernel_rfl) (by kernel_rfl) (fun _ _ _ h=>h) (Or.inl ⟨by rfl,?_⟩) hH ?_
     rotate_left
     ·intro W hW
      go_simp
      (try with_reducible rfl)
     simp only[Act.put,List.setIfInBounds_toArray,List.set_cons_zero,List.set_cons_succ];refine wpAnyH_take (i:=5) (oi:={ dst:=some 29,op:=Go.Op.move (Go.Operand.tmp 0),type:=167,pos := "search.go:48",after:=#[],guard:=none }) (v:=?_) rfl (by kernel_rfl) (by kernel_rfl) (by kernel_rfl) (fun _ _ _ h=>h) (Or.inl ⟨by rfl,?_⟩) hH ?_
     rotate_left
     ·intro W hW
      go_simp
      (try with_reducible rfl)
     simp only[Act.put,List.setIfInBounds_toArray,List.set_cons_zero,List.set_cons_succ];refine wpAnyH_take (i:=6) (oi:={ dst:=some 30,op:=Go.Op.nilCheck (Go.Operand.tmp 29),type:=0,pos := "search.go:48",after:=#[{ on:=5,ground:=Go.Ground.data }],guard:=none }) (v:=?_) rfl (by kernel_rfl) (by kernel_rfl) (by kernel_rfl) (fun _ _ _ h=>h) (Or.inl ⟨by rfl,?_⟩) hH ?_
     rotate_left
     ·intro W hW
      go_simp
      (try with_reducible rfl)
     simp only[Act.put,List.setIfInBounds_toArray,List.set_cons_zero,List.set_cons_succ];refine wpAnyH_take (i:=7) (oi:={ dst:=some 31,op:=Go.Op.fieldAddr 145 (Go.Operand.tmp 30) 0,type:=0,pos := "search.go:48",after:=#[{ on:=6,ground:=Go.Ground.data }],guard:=none }) (v:=?_) rfl (by kernel_rfl) (by kernel_rfl) (by kernel_rfl) (fun _ _ _ h=>h) (Or.inl ⟨by rfl,?_⟩) hH ?_
     rotate_left
     ·intro W hW
      go_simp
      (try with_reducible rfl)
     simp only[Act.put,List.setIfInBounds_toArray,List.set_cons_zero,List.set_cons_succ];refine wpAnyH_take (i:=8) (oi:={ dst:=some 32,op:=Go.Op.load 142 (Go.Operand.tmp 31),type:=142,pos := "search.go:48",after:=#[{ on:=7,ground:=Go.Ground.data }],guard:=none }) (v:=?_) rfl (by kernel_rfl) (by kernel_rfl) (by kernel_rfl) (fun _ _ _ h=>h) (Or.inl ⟨by rfl,?_⟩) hH ?_
     rotate_left
     ·intro W hW;obtain⟨c0,r1⟩:=HK5.out W hW
      go_simp
      (try with_reducible rfl)
     simp only[Act.put,List.setIfInBounds_toArray,List.set_cons_zero,List.set_cons_succ];refine wpAnyH_take (i:=9) (oi:={ dst:=some 33,op:=Go.Op.move (Go.Operand.tmp 4),type:=3,pos := "search.go:48",after:=#[],guard:=none }) (v:=?_) rfl (by kernel_rfl) (by kernel_rfl) (by kernel_rfl) (fun _ _ _ h=>h) (Or.inl ⟨by rfl,?_⟩) hH ?_
     rotate_left
     ·intro W hW
      go_simp
      (try with_reducible rfl)
     simp only[Act.put,List.setIfInBounds_toArray,List.set_cons_zero,List.set_cons_succ];refine wpAnyH_take (i:=10) (oi:={ dst:=some 34,op:=Go.Op.indexAddr 142 (Go.Operand.tmp 32) (Go.Operand.tmp 33),type:=0,pos := "search.go:48",after:=#[{ on:=8,ground:=Go.Ground.data },{ on:=9,ground:=Go.Ground.data }],guard:=none }) (v:=?_) rfl (by kernel_rfl) (by kernel_rfl) (by kernel_rfl) (fun _ _ _ h=>h) (Or.inl ⟨by rfl,?_⟩) hH ?_
     rotate_left
     ·intro W hW
      go_simp
      (try with_reducible rfl)
     simp only[Act.put,List.setIfInBounds_toArray,List.set_cons_zero,List.set_cons_succ];refine wpAnyH_take (i:=11) (oi:={ dst:=some 35,op:=Go.Op.fieldAddr 164 (Go.Operand.tmp 34) 1,type:=0,pos := "search.go:48",after:=#[{ on:=10,ground:=Go.Ground.data }],guard:=none }) (v:=?_) rfl (by kernel_rfl) (by kernel_rfl) (by kernel_rfl) (fun _ _ _ h=>h) (Or.inl ⟨by rfl,?_⟩) hH ?_
     rotate_left
     ·intro W hW
      go_simp
      (try with_reducible rfl)
     simp only[Act.put,List.setIfInBounds_toArray,List.set_cons_zero,List.set_cons_succ];refine wpAnyH_take (i:=13) (oi:={ dst:=some 37,op:=Go.Op.fieldAddr 88 (Go.Operand.tmp 3) 1,type:=0,pos := "search.go:48",after:=#[],guard:=none }) (v:=?_) rfl (by kernel_rfl) (by kernel_rfl) (by kernel_rfl) (fun _ _ _ h=>h) (Or.inl ⟨by rfl,?_⟩) hH ?_
     rotate_left
     ·intro W hW
      go_simp
      (try with_reducible rfl)
     simp only[Act.put,List.setIfInBounds_toArray,List.set_cons_zero,List.set_cons_succ];refine wpAnyH_take (i:=14) (oi:={ dst:=some 38,op:=Go.Op.load 3 (Go.Operand.tmp 37),type:=3,pos := "search.go:48",after:=#[{ on:=13,ground:=Go.Ground.data }],guard:=none }) (v:=?_) rfl (by kernel_rfl) (by kernel_rfl) (by kernel_rfl) (fun _ _ _ h=>h) (Or.inl ⟨by rfl,?_⟩) hH ?_
     rotate_left
     ·intro W hW;obtain⟨c0,r1⟩:=HK5.out W hW
      go_simp
      (try with_reducible rfl)
     simp only[Act.put,List.setIfInBounds_toArray,List.set_cons_zero,List.set_cons_succ];refine wpAnyH_ready (rs:=[12,15]) (by kernel_rfl) (by simp) ?_;refine AllReadyH.cons rfl (fun K hK=>?_) (AllReadyH.cons rfl (fun K hK=>?_) AllReadyH.nil)
     ·go_simp
      refine hK.out _ _ (fun k hk _ _=>rfl) (fun hH1=>?_);clear hK K;refine wpAnyH_ready (rs:=[15]) (by kernel_rfl) (by simp) ?_;refine AllReadyH.cons rfl (fun K hK=>?_) AllReadyH.nil
      go_simp
      refine hK.out _ _ (fun k hk _ _=>Below.heap_alloc w1 _ k hk) (fun hH1=>?_);clear hK K;refine wpAnyH_ready (rs:=[16]) (by kernel_rfl) (by simp) ?_;refine AllReadyH.cons rfl (fun K hK=>?_) AllReadyH.nil;refine step_append_lies _ (by rfl) _ _ _ (by rfl) B 3 i0 _ 1 8 Tryz.underlying30 hi0 hz0 hz1 hz2 rfl (by omega) (.slice (some ⟨gp,0,none⟩) np cpp) np (inV s.pls) (by rfl) ((HROW.out.alloc _).drew) ⟨w1.heap.size,0,none⟩ 1 1 [.int .i64 m.place] (by rfl) (by rfl) (World.news_of_block (cs:=#[.int .i64 m.place]) (t:=3) (fr:=(0,0)) (hblk _)) (by simp[Value.oneCell']) (by omega) (by unfold maxLen;omega) (by omega) (by simp;omega) (w1.heap.size+1) (by simp) ?_;intro gg cap w2 hown2 hgrow hat hlt2;have H2:∀k,k<w1.heap.size→k≠gp→k≠g'→w2.heap[k]?=w1.heap[k]?:=fun k hk h1 _=>(hgrow.block k (by simp;omega) (by simpa[Value.ownBlock]using h1)).trans (Below.heap_alloc w1 _ k hk)
      have k12:w2.cell? ⟨g',i*15+12,none⟩=some (.slice (some ⟨gp,0,none⟩) np cpp):=(hgrow.cell_far ⟨g',i*15+12,none⟩ (by simp;omega) nsg').trans ((World.cell?_alloc_past _ _ _ hg1).trans q12);have f12:w2.frozen? ⟨g',i*15+12,none⟩=false:=(hgrow.frozen_far ⟨g',i*15+12,none⟩ (by simp;omega) nsg').trans ((World.frozen?_alloc_past _ _ _ hg1).trans z12);have HFIN:Hid (SQ (w2.setCell ⟨g',i*15+12,none⟩ (.slice (some ⟨gg,0,none⟩) (np+1) cap)) B sb vs vp O (addSp S m) (V.set i (.slice (some ⟨gg,0,none⟩) (np+1) cap)) P):=by
       show SQ _ _ _ _ _ _ _ _ _;rw[addSp_found S i s HNO.out HS.out HR.out.symm];have:=HQ2.out.again (W:=(w1.alloc (.cells #[.int .i64 m.place] 3)).drew) (w1:=w2) HS.out HVG.out HVI.out m.place rfl (gg:=gg) (cap:=cap) (by rw[←HNP.out];exact hown2) hgrow (by rcases hat with h|h;exact .inl (by simpa[Value.ownBlock]using h.symm);exact .inr h);rw[←HNP.out]at this;exact this
      have HBF:Hid (Below B w (w2.setCell ⟨g',i*15+12,none⟩ (.slice (some ⟨gg,0,none⟩) (np+1) cap))):=by
       have h1:Below B w w1:=HBE2.out.mono (by omega);have h2:Below B w ((w1.alloc (.cells #[.int .i64 m.place] 3)).drew):=(h1.alloc (by have:=h1.size;omega) _).drew;exact(h2.grown hgrow (by have:=h1.size;simp;omega) (fun k hk=>(HROW.out.lt k hk).1)).setCell (by show B≤g';exact(HQ2.out.sm.sp.lt g' (by rw[HVG.out];rfl)).1) _
      clear hown2 hgrow hat hlt2;refine hK.out _ _ H2 (fun hH2=>?_);clear hK K;simp only[Act.put,List.setIfInBounds_toArray];refine wpAnyH_take (i:=17) (oi:={ dst:=some 41,op:=Go.Op.indexAddr 142 (Go.Operand.tmp 27) (Go.Operand.tmp 28),type:=0,pos := "search.go:48",after:=#[{ on:=3,ground:=Go.Ground.data },{ on:=4,ground:=Go.Ground.data },{ on:=0,ground:=Go.Ground.phase },{ on:=1,ground:=Go.Ground.phase },{ on:=2,ground:=Go.Ground.phase },{ on:=3,ground:=Go.Ground.phase },{ on:=4,ground:=Go.Ground.phase },{ on:=5,ground:=Go.Ground.phase },{ on:=6,ground:=Go.Ground.phase },{ on:=7,ground:=Go.Ground.phase },{ on:=8,ground:=Go.Ground.phase },{ on:=9,ground:=Go.Ground.phase },{ on:=10,ground:=Go.Ground.phase },{ on:=11,ground:=Go.Ground.phase },{ on:=12,ground:=Go.Ground.phase },{ on:=13,ground:=Go.Ground.phase },{ on:=14,ground:=Go.Ground.phase },{ on:=15,ground:=Go.Ground.phase },{ on:=16,ground:=Go.Ground.phase }],guard:=none }) (v:=?_) rfl (by kernel_rfl) (by kernel_rfl) (by kernel_rfl) (fun _ _ _ h=>h) (Or.inl ⟨by rfl,?_⟩) hH2 ?_
      rotate_left
      ·intro W hW
       go_simp
       (try with_reducible rfl)
      simp only[Act.put];refine wpAnyH_take (i:=18) (oi:={ dst:=some 42,op:=Go.Op.fieldAddr 164 (Go.Operand.tmp 41) 1,type:=0,pos := "search.go:48",after:=#[{ on:=17,ground:=Go.Ground.data },{ on:=0,ground:=Go.Ground.phase },{ on:=1,ground:=Go.Ground.phase },{ on:=2,ground:=Go.Ground.phase },{ on:=3,ground:=Go.Ground.phase },{ on:=4,ground:=Go.Ground.phase },{ on:=5,ground:=Go.Ground.phase },{ on:=6,ground:=Go.Ground.phase },{ on:=7,ground:=Go.Ground.phase },{ on:=8,ground:=Go.Ground.phase },{ on:=9,ground:=Go.Ground.phase },{ on:=10,ground:=Go.Ground.phase },{ on:=11,ground:=Go.Ground.phase },{ on:=12,ground:=Go.Ground.phase },{ on:=13,ground:=Go.Ground.phase },{ on:=14,ground:=Go.Ground.phase },{ on:=15,ground:=Go.Ground.phase },{ on:=16,ground:=Go.Ground.phase }],guard:=none }) (v:=?_) rfl (by kernel_rfl) (by kernel_rfl) (by kernel_rfl) (fun _ _ _ h=>h) (Or.inl ⟨by rfl,?_⟩) hH2 ?_
      rotate_left
      ·intro W hW
       go_simp
       (try with_reducible rfl)
      simp only[Act.put];refine wpAnyH_ready (rs:=[19]) (by kernel_rfl) (by simp) ?_;refine AllReadyH.cons rfl (fun K hK=>?_) AllReadyH.nil
      go_simp
      refine hK.out _ _ (fun k hk h1 h2=>(heap_setCell_other _ _ k _ h2).trans (H2 k hk h1 h2)) (fun hH3=>?_);clear hK K;refine wpAnyH_done (by kernel_rfl) ?_ _;go_wp2
      (try simp only[Exit.inBlock,Exit.then])
      refine bodyPost_ret (results_none rfl _ _ _) rfl ?_;exact⟨rfl,⟨_,_,HFIN.out⟩,HBF.out⟩
     ·go_simp
      refine hK.out _ _ (fun k hk _ _=>Below.heap_alloc w1 _ k hk) (fun hH1=>?_);clear hK K;refine wpAnyH_ready (rs:=[12]) (by kernel_rfl) (by simp) ?_;refine AllReadyH.cons rfl (fun K hK=>?_) AllReadyH.nil
      go_simp
      refine hK.out _ _ (fun k hk _ _=>Below.heap_alloc w1 _ k hk) (fun hH1=>?_);clear hK K;refine wpAnyH_ready (rs:=[16]) (by kernel_rfl) (by simp) ?_;refine AllReadyH.cons rfl (fun K hK=>?_) AllReadyH.nil;refine step_append_lies _ (by rfl) _ _ _ (by rfl) B 3 i0 _ 1 8 Tryz.underlying30 hi0 hz0 hz1 hz2 rfl (by omega) (.slice (some ⟨gp,0,none⟩) np cpp) np (inV s.pls) (by rfl) ((HROW.out.alloc _).drew) ⟨w1.heap.size,0,none⟩ 1 1 [.int .i64 m.place] (by rfl) (by rfl) (World.news_of_block (cs:=#[.int .i64 m.place]) (t:=3) (fr:=(0,0)) (hblk _)) (by simp[Value.oneCell']) (by omega) (by unfold maxLen;omega) (by omega) (by simp;omega) (w1.heap.size+1) (by simp) ?_;intro gg cap w2 hown2 hgrow hat hlt2;have H2:∀k,k<w1.heap.size→k≠gp→k≠g'→w2.heap[k]?=w1.heap[k]?:=fun k hk h1 _=>(hgrow.block k (by simp;omega) (by simpa[Value.ownBlock]using h1)).trans (Below.heap_alloc w1 _ k hk)
      have k12:w2.cell? ⟨g',i*15+12,none⟩=some (.slice (some ⟨gp,0,none⟩) np cpp):=(hgrow.cell_far ⟨g',i*15+12,none⟩ (by simp;omega) nsg').trans ((World.cell?_alloc_past _ _ _ hg1).trans q12);have f12:w2.frozen? ⟨g',i*15+12,none⟩=false:=(hgrow.frozen_far ⟨g',i*15+12,none⟩ (by simp;omega) nsg').trans ((World.frozen?_alloc_past _ _ _ hg1).trans z12);have HFIN:Hid (SQ (w2.setCell ⟨g',i*15+12,none⟩ (.slice (some ⟨gg,0,none⟩) (np+1) cap)) B sb vs vp O (addSp S m) (V.set i (.slice (some ⟨gg,0,none⟩) (np+1) cap)) P):=by
       show SQ _ _ _ _ _ _ _ _ _;rw[addSp_found S i s HNO.out HS.out HR.out.symm];have:=HQ2.out.again (W:=(w1.alloc (.cells #[.int .i64 m.place] 3)).drew) (w1:=w2) HS.out HVG.out HVI.out m.place rfl (gg:=gg) (cap:=cap) (by rw[←HNP.out];exact hown2) hgrow (by rcases hat with h|h;exact .inl (by simpa[Value.ownBlock]using h.symm);exact .inr h);rw[←HNP.out]at this;exact this
      have HBF:Hid (Below B w (w2.setCell ⟨g',i*15+12,none⟩ (.slice (some ⟨gg,0,none⟩) (np+1) cap))):=by
       have h1:Below B w w1:=HBE2.out.mono (by omega);have h2:Below B w ((w1.alloc (.cells #[.int .i64 m.place] 3)).drew):=(h1.alloc (by have:=h1.size;omega) _).drew;exact(h2.grown hgrow (by have:=h1.size;simp;omega) (fun k hk=>(HROW.out.lt k hk).1)).setCell (by show B≤g';exact(HQ2.out.sm.sp.lt g' (by rw[HVG.out];rfl)).1) _
      clear hown2 hgrow hat hlt2;refine hK.out _ _ H2 (fun hH2=>?_);clear hK K;simp only[Act.put,List.setIfInBounds_toArray];refine wpAnyH_take (i:=17) (oi:={ dst:=some 41,op:=Go.Op.indexAddr 142 (Go.Operand.tmp 27) (Go.Operand.tmp 28),type:=0,pos := "search.go:48",after:=#[{ on:=3,ground:=Go.Ground.data },{ on:=4,ground:=Go.Ground.data },{ on:=0,ground:=Go.Ground.phase },{ on:=1,ground:=Go.Ground.phase },{ on:=2,ground:=Go.Ground.phase },{ on:=3,ground:=Go.Ground.phase },{ on:=4,ground:=Go.Ground.phase },{ on:=5,ground:=Go.Ground.phase },{ on:=6,ground:=Go.Ground.phase },{ on:=7,ground:=Go.Ground.phase },{ on:=8,ground:=Go.Ground.phase },{ on:=9,ground:=Go.Ground.phase },{ on:=10,ground:=Go.Ground.phase },{ on:=11,ground:=Go.Ground.phase },{ on:=12,ground:=Go.Ground.phase },{ on:=13,ground:=Go.Ground.phase },{ on:=14,ground:=Go.Ground.phase },{ on:=15,ground:=Go.Ground.phase },{ on:=16,ground:=Go.Ground.phase }],guard:=none }) (v:=?_) rfl (by kernel_rfl) (by kernel_rfl) (by kernel_rfl) (fun _ _ _ h=>h) (Or.inl ⟨by rfl,?_⟩) hH2 ?_
      rotate_left
      ·intro W hW
       go_simp
       (try with_reducible rfl)
      simp only[Act.put];refine wpAnyH_take (i:=18) (oi:={ dst:=some 42,op:=Go.Op.fieldAddr 164 (Go.Operand.tmp 41) 1,type:=0,pos := "search.go:48",after:=#[{ on:=17,ground:=Go.Ground.data },{ on:=0,ground:=Go.Ground.phase },{ on:=1,ground:=Go.Ground.phase },{ on:=2,ground:=Go.Ground.phase },{ on:=3,ground:=Go.Ground.phase },{ on:=4,ground:=Go.Ground.phase },{ on:=5,ground:=Go.Ground.phase },{ on:=6,ground:=Go.Ground.phase },{ on:=7,ground:=Go.Ground.phase },{ on:=8,ground:=Go.Ground.phase },{ on:=9,ground:=Go.Ground.phase },{ on:=10,ground:=Go.Ground.phase },{ on:=11,ground:=Go.Ground.phase },{ on:=12,ground:=Go.Ground.phase },{ on:=13,ground:=Go.Ground.phase },{ on:=14,ground:=Go.Ground.phase },{ on:=15,ground:=Go.Ground.phase },{ on:=16,ground:=Go.Ground.phase }],guard:=none }) (v:=?_) rfl (by kernel_rfl) (by kernel_rfl) (by kernel_rfl) (fun _ _ _ h=>h) (Or.inl ⟨by rfl,?_⟩) hH2 ?_
      rotate_left
      ·intro W hW
       go_simp
       (try with_reducible rfl)
      simp only[Act.put];refine wpAnyH_ready (rs:=[19]) (by kernel_rfl) (by simp) ?_;refine AllReadyH.cons rfl (fun K hK=>?_) AllReadyH.nil
      go_simp
      refine hK.out _ _ (fun k hk h1 h2=>(heap_setCell_other _ _ k _ h2).trans (H2 k hk h1 h2)) (fun hH3=>?_);clear hK K;refine wpAnyH_done (by kernel_rfl) ?_ _;go_wp2
      (try simp only[Exit.inBlock,Exit.then])
      refine bodyPost_ret (results_none rfl _ _ _) rfl ?_;exact⟨rfl,⟨_,_,HFIN.out⟩,HBF.out⟩
  ·have hin:i=n:=by omega
   subst hin;have hid:decide ((i:Int)<(i:Int))=false:=by simp
   have nsb':some sb≠(Value.slice av i cv).ownBlock:=fun e=>row_ne HQ1.out.sm.sp HQ1.out.sm.blk (by decide) (by rw[HVS.out,←HN.out];exact e.symm)
   have nbx':some w.heap.size≠(Value.slice av i cv).ownBlock:=fun e=>row_ne HQ1.out.sm.sp HBK.out (by decide) (by rw[HVS.out,←HN.out];exact e.symm)
   have nbs:w.heap.size≠sb:=by omega
   have hsb1:=HQ1.out.sm.blk.lt;have HK6:Hid (∀W:World,W.heap[w.heap.size]?=wr.heap[w.heap.size]?→W.cell? ⟨w.heap.size,0,none⟩=some (.int .i64 m.kind)∧W.cell? ⟨w.heap.size,1,none⟩=some (.int .i64 m.place)∧W.cell? ⟨w.heap.size,2,none⟩=some (.int .i64 m.thread)∧W.cell? ⟨w.heap.size,3,none⟩=some (.int .i64 m.num)∧W.cell? ⟨w.heap.size,4,none⟩=some (.bool m.mend)∧W.cell? ⟨w.heap.size,5,none⟩=some (.int .i64 m.nx)∧W.cell? ⟨w.heap.size,6,none⟩=some (.int .i64 m.el)∧W.cell? ⟨w.heap.size,7,none⟩=some (.bool m.h0)∧W.cell? ⟨w.heap.size,8,none⟩=some (.bool m.h1)∧W.cell? ⟨w.heap.size,9,none⟩=some (.bool m.h2)∧W.cell? ⟨w.heap.size,10,none⟩=some (.bool m.h3)∧W.cell? ⟨w.heap.size,11,none⟩=some (.bool m.h4)):=fun W hW=>by
    have hb:Blk W w.heap.size (stV m) 88:=hW.trans HBK.out;exact⟨hb.cell 0 _ rfl,hb.cell 1 _ rfl,hb.cell 2 _ rfl,hb.cell 3 _ rfl,hb.cell 4 _ rfl,hb.cell 5 _ rfl,hb.cell 6 _ rfl,hb.cell 7 _ rfl,hb.cell 8 _ rfl,hb.cell 9 _ rfl,hb.cell 10 _ rfl,hb.cell 11 _ rfl⟩
   have HROW:Hid (wr.ownsRow B 164 15 (.slice av i cv) i (spsV S V)):=by
    have:=HQ1.out.sm.sp;rw[HVS.out,←HN.out]at this;exact this
   have hblk:∀o o',(((wr.alloc o).alloc o').drew).heap[wr.heap.size+1]?=some o':=fun o o'=>by
    have:=heap_alloc_new (wr.alloc o) o';rw[show(wr.alloc o).heap.size=wr.heap.size+1 by simp]at this;exact this
   have hal2:∀o o' k,k<wr.heap.size→(((wr.alloc o).alloc o')).heap[k]?=wr.heap[k]?:=fun o o' k hk=>(Below.heap_alloc (wr.alloc o) o' k (by simp;omega)).trans (Below.heap_alloc wr o k hk)
   have C0:Hid (wr.cell? ⟨sb,0,none⟩=some (.slice av i cv)∧wr.frozen? ⟨sb,0,none⟩=false):=⟨c0,z0⟩
   go_wp2_with fail
   refine wp_region_held_drew (S:=fun W:World=>W.heap[w.heap.size]?=wr.heap[w.heap.size]?) (by kernel_rfl) rfl (fun hH=>?_);refine wpAnyH_take (i:=0) (oi:={ dst:=some 43,op:=Go.Op.move (Go.Operand.tmp 0),type:=167,pos := "search.go:52",after:=#[],guard:=none }) (v:=?_) rfl (by kernel_rfl) (by kernel_rfl) (by kernel_rfl) (fun _ _ _ h=>h) (Or.inl ⟨by rfl,?_⟩) hH ?_
   rotate_left
   ·intro W hW
    go_simp
    (try with_reducible rfl)
   simp only[Act.put,List.setIfInBounds_toArray,List.set_cons_zero,List.set_cons_succ];refine wpAnyH_take (i:=1) (oi:={ dst:=some 44,op:=Go.Op.move (Go.Operand.tmp 0),type:=167,pos := "search.go:52",after:=#[],guard:=none }) (v:=?_) rfl (by kernel_rfl) (by kernel_rfl) (by kernel_rfl) (fun _ _ _ h=>h) (Or.inl ⟨by rfl,?_⟩) hH ?_
   rotate_left
   ·intro W hW
    go_simp
    (try with_reducible rfl)
   simp only[Act.put,List.setIfInBounds_toArray,List.set_cons_zero,List.set_cons_succ];refine wpAnyH_take (i:=2) (oi:={ dst:=some 45,op:=Go.Op.nilCheck (Go.Operand.tmp 44),type:=0,pos := "search.go:52",after:=#[{ on:=1,ground:=Go.Ground.data }],guard:=none }) (v:=?_) rfl (by kernel_rfl) (by kernel_rfl) (by kernel_rfl) (fun _ _ _ h=>h) (Or.inl ⟨by rfl,?_⟩) hH ?_
   rotate_left
   ·intro W hW
    go_simp
    (try with_reducible rfl)
   simp only[Act.put,List.setIfInBounds_toArray,List.set_cons_zero,List.set_cons_succ];refine wpAnyH_take (i:=3) (oi:={ dst:=some 46,op:=Go.Op.fieldAddr 145 (Go.Operand.tmp 45) 0,type:=0,pos := "search.go:52",after:=#[{ on:=2,ground:=Go.Ground.data }],guard:=none }) (v:=?_) rfl (by kernel_rfl) (by kernel_rfl) (by kernel_rfl) (fun _ _ _ h=>h) (Or.inl ⟨by rfl,?_⟩) hH ?_
   rotate_left
   ·intro W hW
    go_simp
    (try with_reducible rfl)
   simp only[Act.put,List.setIfInBounds_toArray,List.set_cons_zero,List.set_cons_succ];refine wpAnyH_take (i:=5) (oi:={ dst:=some 48,op:=Go.Op.load 88 (Go.Operand.tmp 3),type:=88,pos := "search.go:52",after:=#[],guard:=none }) (v:=?_) rfl (by kernel_rfl) (by kernel_rfl) (by kernel_rfl) (fun _ _ _ h=>h) (Or.inl ⟨by rfl,?_⟩) hH ?_
   rotate_left
   ·intro W hW;obtain⟨r0,r1,r2,r3,r4,r5,r6,r7,r8,r9,r10,r11⟩:=HK6.out W hW
    go_simp
    (try with_reducible rfl)
   simp only[Act.put,List.setIfInBounds_toArray,List.set_cons_zero,List.set_cons_succ];refine wpAnyH_take (i:=6) (oi:={ dst:=some 49,op:=Go.Op.fieldAddr 88 (Go.Operand.tmp 3) 1,type:=0,pos := "search.go:52",after:=#[],guard:=none }) (v:=?_) rfl (by kernel_rfl) (by kernel_rfl) (by kernel_rfl) (fun _ _ _ h=>h) (Or.inl ⟨by rfl,?_⟩) hH ?_
   rotate_left
   ·intro W hW
    go_simp
    (try with_reducible rfl)
   simp only[Act.put,List.setIfInBounds_toArray,List.set_cons_zero,List.set_cons_succ];refine wpAnyH_take (i:=7) (oi:={ dst:=some 50,op:=Go.Op.load 3 (Go.Operand.tmp 49),type:=3,pos := "search.go:52",after:=#[{ on:=6,ground:=Go.Ground.data }],guard:=none }) (v:=?_) rfl (by kernel_rfl) (by kernel_rfl) (by kernel_rfl) (fun _ _ _ h=>h) (Or.inl ⟨by rfl,?_⟩) hH ?_
   rotate_left
   ·intro W hW;obtain⟨r0,r1,r2,r3,r4,r5,r6,r7,r8,r9,r10,r11⟩:=HK6.out W hW
    go_simp
    (try with_reducible rfl)
   simp only[Act.put,List.setIfInBounds_toArray,List.set_cons_zero,List.set_cons_succ];refine wpAnyH_ready (rs:=[4,8]) (by kernel_rfl) (by simp) ?_;refine AllReadyH.cons rfl (fun K hK=>?_) (AllReadyH.cons rfl (fun K hK=>?_) AllReadyH.nil)
   ·go_simp
    refine hK.out _ _ (rfl) (fun hH1=>?_);clear hK K;refine wpAnyH_ready (rs:=[8]) (by kernel_rfl) (by simp) ?_;refine AllReadyH.cons rfl (fun K hK=>?_) AllReadyH.nil
    go_simp
    refine hK.out _ _ (Below.heap_alloc wr _ _ hbl) (fun hH1=>?_);clear hK K;refine wpAnyH_take (i:=9) (oi:={ dst:=some 52,op:=Go.Op.build 164 #[(0,Go.Operand.tmp 48),(1,Go.Operand.tmp 51),(2,Go.Operand.const (Go.Value.int Go.IntKind.i64 (-1)))],type:=164,pos := "search.go:52",after:=#[{ on:=5,ground:=Go.Ground.data },{ on:=8,ground:=Go.Ground.data }],guard:=none }) (v:=?_) rfl (by kernel_rfl) (by kernel_rfl) (by kernel_rfl) (fun _ _ _ h=>h) (Or.inl ⟨by rfl,?_⟩) hH1 ?_
    rotate_left
    ·intro W hW
     go_simp
     (try with_reducible rfl)
    simp only[Act.put,List.setIfInBounds_toArray,List.set_cons_zero,List.set_cons_succ];refine wpAnyH_ready (rs:=[10]) (by kernel_rfl) (by simp) ?_;refine AllReadyH.cons rfl (fun K hK=>?_) AllReadyH.nil
    go_simp
    refine hK.out _ _ (hal2 _ _ _ hbl) (fun hH1=>?_);clear hK K;refine wpAnyH_ready (rs:=[11]) (by kernel_rfl) (by simp) ?_;refine AllReadyH.cons rfl (fun K hK=>?_) AllReadyH.nil;refine step_append_lies _ (by rfl) _ _ _ (by rfl) B 164 is _ 15 104 Tryz.underlying142 his zs0 zs1 zs2 rfl (by omega) (.slice av i cv) i (spsV S V) (by rfl) (((HROW.out.alloc _).alloc _).drew) ⟨wr.heap.size+1,0,none⟩ 1 1 [.int .i64 m.kind,.int .i64 m.place,.int .i64 m.thread,.int .i64 m.num,.bool m.mend,.int .i64 m.nx,.int .i64 m.el,.bool m.h0,.bool m.h1,.bool m.h2,.bool m.h3,.bool m.h4,.slice (some ⟨wr.heap.size,0,none⟩) 1 1,.int .i64 (-1),.bool false] (by rfl) (by rfl) (World.news_of_block (cs:=#[.int .i64 m.kind,.int .i64 m.place,.int .i64 m.thread,.int .i64 m.num,.bool m.mend,.int .i64 m.nx,.int .i64 m.el,.bool m.h0,.bool m.h1,.bool m.h2,.bool m.h3,.bool m.h4,.slice (some ⟨wr.heap.size,0,none⟩) 1 1,.int .i64 (-1),.bool false]) (t:=164) (fr:=(0,0)) (hblk _ _)) (by simp[Value.oneCell']) (by omega) (by unfold maxLen;omega) (by omega) (by simp;omega) (wr.heap.size+2) (by simp) ?_;intro gg cap w2 hown2 hgrow hat hlt2;have H2:w2.heap[w.heap.size]?=wr.heap[w.heap.size]?:=(hgrow.block w.heap.size (by simp;omega) nbx').trans (hal2 _ _ _ hbl);have k0:w2.cell? ⟨sb,0,none⟩=some (.slice av i cv):=(hgrow.cell_far ⟨sb,0,none⟩ (by simp;omega) nsb').trans ((World.cell?_of_block (a:=⟨sb,0,none⟩) (hal2 _ _ sb hsb1)).trans C0.out.1);have f0:w2.frozen? ⟨sb,0,none⟩=false:=(hgrow.frozen_far ⟨sb,0,none⟩ (by simp;omega) nsb').trans ((World.frozen?_of_block (a:=⟨sb,0,none⟩) (hal2 _ _ sb hsb1)).trans C0.out.2);have HFIN:Hid (SQ (w2.setCell ⟨sb,0,none⟩ (.slice (some ⟨gg,0,none⟩) (i+1) cap)) B sb (.slice (some ⟨gg,0,none⟩) (i+1) cap) vp O (addSp S m) (V++[.slice (some ⟨wr.heap.size,0,none⟩) 1 1]) P):=by
     show SQ _ _ _ _ _ _ _ _ _;rw[addSp_last S (fun j s' hs'=>HNO.out j s' (by have:=(List.getElem?_eq_some_iff.1 hs').1;rw[←HN.out]at this;exact this) hs')];have:=HQ1.out.more (w1:=w2) (by have:=hsb1;omega) m (o':=.cells #[.int .i64 m.kind,.int .i64 m.place,.int .i64 m.thread,.int .i64 m.num,.bool m.mend,.int .i64 m.nx,.int .i64 m.el,.bool m.h0,.bool m.h1,.bool m.h2,.bool m.h3,.bool m.h4,.slice (some ⟨wr.heap.size,0,none⟩) 1 1,.int .i64 (-1),.bool false] 164) rfl (gg:=gg) (cap:=cap) (by rw[←HN.out];exact hown2) (by rw[HVS.out,←HN.out];exact hgrow);rw[←HN.out]at this;exact this
    have HBF:Hid (Below B w (w2.setCell ⟨sb,0,none⟩ (.slice (some ⟨gg,0,none⟩) (i+1) cap))):=by
     have h1:Below B w wr:=HBE.out.mono (by omega);have h2:Below B w (((wr.alloc (.cells #[.int .i64 m.place] 3)).alloc (.cells #[.int .i64 m.kind,.int .i64 m.place,.int .i64 m.thread,.int .i64 m.num,.bool m.mend,.int .i64 m.nx,.int .i64 m.el,.bool m.h0,.bool m.h1,.bool m.h2,.bool m.h3,.bool m.h4,.slice (some ⟨wr.heap.size,0,none⟩) 1 1,.int .i64 (-1),.bool false] 164)).drew):=((h1.alloc (by have:=h1.size;omega) _).alloc (by have:=h1.size;simp;omega) _).drew;exact(h2.grown hgrow (by have:=h1.size;simp;omega) (fun k hk=>(HROW.out.lt k hk).1)).setCell (by show B≤sb;exact hB) _
    clear hown2 hgrow hat hlt2;refine hK.out _ _ H2 (fun hH2=>?_);clear hK K;simp only[Act.put,List.setIfInBounds_toArray];refine wpAnyH_take (i:=12) (oi:={ dst:=some 55,op:=Go.Op.nilCheck (Go.Operand.tmp 43),type:=0,pos := "search.go:52",after:=#[{ on:=0,ground:=Go.Ground.data },{ on:=0,ground:=Go.Ground.phase },{ on:=1,ground:=Go.Ground.phase },{ on:=2,ground:=Go.Ground.phase },{ on:=3,ground:=Go.Ground.phase },{ on:=4,ground:=Go.Ground.phase },{ on:=5,ground:=Go.Ground.phase },{ on:=6,ground:=Go.Ground.phase },{ on:=7,ground:=Go.Ground.phase },{ on:=8,ground:=Go.Ground.phase },{ on:=9,ground:=Go.Ground.phase },{ on:=10,ground:=Go.Ground.phase },{ on:=11,ground:=Go.Ground.phase }],guard:=none }) (v:=?_) rfl (by kernel_rfl) (by kernel_rfl) (by kernel_rfl) (fun _ _ _ h=>h) (Or.inl ⟨by rfl,?_⟩) hH2 ?_
    rotate_left
    ·intro W hW
     go_simp
     (try with_reducible rfl)
    simp only[Act.put];refine wpAnyH_take (i:=13) (oi:={ dst:=some 56,op:=Go.Op.fieldAddr 145 (Go.Operand.tmp 55) 0,type:=0,pos := "search.go:52",after:=#[{ on:=12,ground:=Go.Ground.data },{ on:=0,ground:=Go.Ground.phase },{ on:=1,ground:=Go.Ground.phase },{ on:=2,ground:=Go.Ground.phase },{ on:=3,ground:=Go.Ground.phase },{ on:=4,ground:=Go.Ground.phase },{ on:=5,ground:=Go.Ground.phase },{ on:=6,ground:=Go.Ground.phase },{ on:=7,ground:=Go.Ground.phase },{ on:=8,ground:=Go.Ground.phase },{ on:=9,ground:=Go.Ground.phase },{ on:=10,ground:=Go.Ground.phase },{ on:=11,ground:=Go.Ground.phase }],guard:=none }) (v:=?_) rfl (by kernel_rfl) (by kernel_rfl) (by kernel_rfl) (fun _ _ _ h=>h) (Or.inl ⟨by rfl,?_⟩) hH2 ?_
    rotate_left
    ·intro W hW
     go_simp
     (try with_reducible rfl)
    simp only[Act.put];refine wpAnyH_ready (rs:=[14]) (by kernel_rfl) (by simp) ?_;refine AllReadyH.cons rfl (fun K hK=>?_) AllReadyH.nil
    go_simp
    refine hK.out _ _ ((heap_setCell_other _ _ _ _ nbs).trans H2) (fun hH3=>?_);clear hK K;refine wpAnyH_done (by kernel_rfl) ?_ _;go_wp2;go_end0;exact⟨rfl,⟨_,_,HFIN.out⟩,HBF.out⟩
   ·go_simp
    refine hK.out _ _ (Below.heap_alloc wr _ _ hbl) (fun hH1=>?_);clear hK K;refine wpAnyH_take (i:=9) (oi:={ dst:=some 52,op:=Go.Op.build 164 #[(0,Go.Operand.tmp 48),(1,Go.Operand.tmp 51),(2,Go.Operand.const (Go.Value.int Go.IntKind.i64 (-1)))],type:=164,pos := "search.go:52",after:=#[{ on:=5,ground:=Go.Ground.data },{ on:=8,ground:=Go.Ground.data }],guard:=none }) (v:=?_) rfl (by kernel_rfl) (by kernel_rfl) (by kernel_rfl) (fun _ _ _ h=>h) (Or.inl ⟨by rfl,?_⟩) hH1 ?_
    rotate_left
    ·intro W hW
     go_simp
     (try with_reducible rfl)
    simp only[Act.put,List.setIfInBounds_toArray,List.set_cons_zero,List.set_cons_succ];refine wpAnyH_ready (rs:=[4,10]) (by kernel_rfl) (by simp) ?_;refine AllReadyH.cons rfl (fun K hK=>?_) (AllReadyH.cons rfl (fun K hK=>?_) AllReadyH.nil)
    ·go_simp
     refine hK.out _ _ (Below.heap_alloc wr _ _ hbl) (fun hH1=>?_);clear hK K;refine wpAnyH_ready (rs:=[10]) (by kernel_rfl) (by simp) ?_;refine AllReadyH.cons rfl (fun K hK=>?_) AllReadyH.nil
     go_simp
     refine hK.out _ _ (hal2 _ _ _ hbl) (fun hH1=>?_);clear hK K;refine wpAnyH_ready (rs:=[11]) (by kernel_rfl) (by simp) ?_;refine AllReadyH.cons rfl (fun K hK=>?_) AllReadyH.nil;refine step_append_lies _ (by rfl) _ _ _ (by rfl) B 164 is _ 15 104 Tryz.underlying142 his zs0 zs1 zs2 rfl (by omega) (.slice av i cv) i (spsV S V) (by rfl) (((HROW.out.alloc _).alloc _).drew) ⟨wr.heap.size+1,0,none⟩ 1 1 [.int .i64 m.kind,.int .i64 m.place,.int .i64 m.thread,.int .i64 m.num,.bool m.mend,.int .i64 m.nx,.int .i64 m.el,.bool m.h0,.bool m.h1,.bool m.h2,.bool m.h3,.bool m.h4,.slice (some ⟨wr.heap.size,0,none⟩) 1 1,.int .i64 (-1),.bool false] (by rfl) (by rfl) (World.news_of_block (cs:=#[.int .i64 m.kind,.int .i64 m.place,.int .i64 m.thread,.int .i64 m.num,.bool m.mend,.int .i64 m.nx,.int .i64 m.el,.bool m.h0,.bool m.h1,.bool m.h2,.bool m.h3,.bool m.h4,.slice (some ⟨wr.heap.size,0,none⟩) 1 1,.int .i64 (-1),.bool false]) (t:=164) (fr:=(0,0)) (hblk _ _)) (by simp[Value.oneCell']) (by omega) (by unfold maxLen;omega) (by omega) (by simp;omega) (wr.heap.size+2) (by simp) ?_;intro gg cap w2 hown2 hgrow hat hlt2;have H2:w2.heap[w.heap.size]?=wr.heap[w.heap.size]?:=(hgrow.block w.heap.size (by simp;omega) nbx').trans (hal2 _ _ _ hbl);have k0:w2.cell? ⟨sb,0,none⟩=some (.slice av i cv):=(hgrow.cell_far ⟨sb,0,none⟩ (by simp;omega) nsb').trans ((World.cell?_of_block (a:=⟨sb,0,none⟩) (hal2 _ _ sb hsb1)).trans C0.out.1);have f0:w2.frozen? ⟨sb,0,none⟩=false:=(hgrow.frozen_far ⟨sb,0,none⟩ (by simp;omega) nsb').trans ((World.frozen?_of_block (a:=⟨sb,0,none⟩) (hal2 _ _ sb hsb1)).trans C0.out.2);have HFIN:Hid (SQ (w2.setCell ⟨sb,0,none⟩ (.slice (some ⟨gg,0,none⟩) (i+1) cap)) B sb (.slice (some ⟨gg,0,none⟩) (i+1) cap) vp O (addSp S m) (V++[.slice (some ⟨wr.heap.size,0,none⟩) 1 1]) P):=by
      show SQ _ _ _ _ _ _ _ _ _;rw[addSp_last S (fun j s' hs'=>HNO.out j s' (by have:=(List.getElem?_eq_some_iff.1 hs').1;rw[←HN.out]at this;exact this) hs')];have:=HQ1.out.more (w1:=w2) (by have:=hsb1;omega) m (o':=.cells #[.int .i64 m.kind,.int .i64 m.place,.int .i64 m.thread,.int .i64 m.num,.bool m.mend,.int .i64 m.nx,.int .i64 m.el,.bool m.h0,.bool m.h1,.bool m.h2,.bool m.h3,.bool m.h4,.slice (some ⟨wr.heap.size,0,none⟩) 1 1,.int .i64 (-1),.bool false] 164) rfl (gg:=gg) (cap:=cap) (by rw[←HN.out];exact hown2) (by rw[HVS.out,←HN.out];exact hgrow);rw[←HN.out]at this;exact this
     have HBF:Hid (Below B w (w2.setCell ⟨sb,0,none⟩ (.slice (some ⟨gg,0,none⟩) (i+1) cap))):=by
      have h1:Below B w wr:=HBE.out.mono (by omega);have h2:Below B w (((wr.alloc (.cells #[.int .i64 m.place] 3)).alloc (.cells #[.int .i64 m.kind,.int .i64 m.place,.int .i64 m.thread,.int .i64 m.num,.bool m.mend,.int .i64 m.nx,.int .i64 m.el,.bool m.h0,.bool m.h1,.bool m.h2,.bool m.h3,.bool m.h4,.slice (some ⟨wr.heap.size,0,none⟩) 1 1,.int .i64 (-1),.bool false] 164)).drew):=((h1.alloc (by have:=h1.size;omega) _).alloc (by have:=h1.size;simp;omega) _).drew;exact(h2.grown hgrow (by have:=h1.size;simp;omega) (fun k hk=>(HROW.out.lt k hk).1)).setCell (by show B≤sb;exact hB) _
     clear hown2 hgrow hat hlt2;refine hK.out _ _ H2 (fun hH2=>?_);clear hK K;simp only[Act.put,List.setIfInBounds_toArray];refine wpAnyH_take (i:=12) (oi:={ dst:=some 55,op:=Go.Op.nilCheck (Go.Operand.tmp 43),type:=0,pos := "search.go:52",after:=#[{ on:=0,ground:=Go.Ground.data },{ on:=0,ground:=Go.Ground.phase },{ on:=1,ground:=Go.Ground.phase },{ on:=2,ground:=Go.Ground.phase },{ on:=3,ground:=Go.Ground.phase },{ on:=4,ground:=Go.Ground.phase },{ on:=5,ground:=Go.Ground.phase },{ on:=6,ground:=Go.Ground.phase },{ on:=7,ground:=Go.Ground.phase },{ on:=8,ground:=Go.Ground.phase },{ on:=9,ground:=Go.Ground.phase },{ on:=10,ground:=Go.Ground.phase },{ on:=11,ground:=Go.Ground.phase }],guard:=none }) (v:=?_) rfl (by kernel_rfl) (by kernel_rfl) (by kernel_rfl) (fun _ _ _ h=>h) (Or.inl ⟨by rfl,?_⟩) hH2 ?_
     rotate_left
     ·intro W hW
      go_simp
      (try with_reducible rfl)
     simp only[Act.put];refine wpAnyH_take (i:=13) (oi:={ dst:=some 56,op:=Go.Op.fieldAddr 145 (Go.Operand.tmp 55) 0,type:=0,pos := "search.go:52",after:=#[{ on:=12,ground:=Go.Ground.data },{ on:=0,ground:=Go.Ground.phase },{ on:=1,ground:=Go.Ground.phase },{ on:=2,ground:=Go.Ground.phase },{ on:=3,ground:=Go.Ground.phase },{ on:=4,ground:=Go.Ground.phase },{ on:=5,ground:=Go.Ground.phase },{ on:=6,ground:=Go.Ground.phase },{ on:=7,ground:=Go.Ground.phase },{ on:=8,ground:=Go.Ground.phase },{ on:=9,ground:=Go.Ground.phase },{ on:=10,ground:=Go.Ground.phase },{ on:=11,ground:=Go.Ground.phase }],guard:=none }) (v:=?_) rfl (by kernel_rfl) (by kernel_rfl) (by kernel_rfl) (fun _ _ _ h=>h) (Or.inl ⟨by rfl,?_⟩) hH2 ?_
     rotate_left
     ·intro W hW
      go_simp
      (try with_reducible rfl)
     simp only[Act.put];refine wpAnyH_ready (rs:=[14]) (by kernel_rfl) (by simp) ?_;refine AllReadyH.cons rfl (fun K hK=>?_) AllReadyH.nil
     go_simp
     refine hK.out _ _ ((heap_setCell_other _ _ _ _ nbs).trans H2) (fun hH3=>?_);clear hK K;refine wpAnyH_done (by kernel_rfl) ?_ _;go_wp2;go_end0;exact⟨rfl,⟨_,_,HFIN.out⟩,HBF.out⟩
    ·go_simp
     refine hK.out _ _ (hal2 _ _ _ hbl) (fun hH1=>?_);clear hK K;refine wpAnyH_ready (rs:=[4]) (by kernel_rfl) (by simp) ?_;refine AllReadyH.cons rfl (fun K hK=>?_) AllReadyH.nil
     go_simp
     refine hK.out _ _ (hal2 _ _ _ hbl) (fun hH1=>?_);clear hK K;refine wpAnyH_ready (rs:=[11]) (by kernel_rfl) (by simp) ?_;refine AllReadyH.cons rfl (fun K hK=>?_) AllReadyH.nil;refine step_append_lies _ (by rfl) _ _ _ (by rfl) B 164 is _ 15 104 Tryz.underlying142 his zs0 zs1 zs2 rfl (by omega) (.slice av i cv) i (spsV S V) (by rfl) (((HROW.out.alloc _).alloc _).drew) ⟨wr.heap.size+1,0,none⟩ 1 1 [.int .i64 m.kind,.int .i64 m.place,.int .i64 m.thread,.int .i64 m.num,.bool m.mend,.int .i64 m.nx,.int .i64 m.el,.bool m.h0,.bool m.h1,.bool m.h2,.bool m.h3,.bool m.h4,.slice (some ⟨wr.heap.size,0,none⟩) 1 1,.int .i64 (-1),.bool false] (by rfl) (by rfl) (World.news_of_block (cs:=#[.int .i64 m.kind,.int .i64 m.place,.int .i64 m.thread,.int .i64 m.num,.bool m.mend,.int .i64 m.nx,.int .i64 m.el,.bool m.h0,.bool m.h1,.bool m.h2,.bool m.h3,.bool m.h4,.slice (some ⟨wr.heap.size,0,none⟩) 1 1,.int .i64 (-1),.bool false]) (t:=164) (fr:=(0,0)) (hblk _ _)) (by simp[Value.oneCell']) (by omega) (by unfold maxLen;omega) (by omega) (by simp;omega) (wr.heap.size+2) (by simp) ?_;intro gg cap w2 hown2 hgrow hat hlt2;have H2:w2.heap[w.heap.size]?=wr.heap[w.heap.size]?:=(hgrow.block w.heap.size (by simp;omega) nbx').trans (hal2 _ _ _ hbl);have k0:w2.cell? ⟨sb,0,none⟩=some (.slice av i cv):=(hgrow.cell_far ⟨sb,0,none⟩ (by simp;omega) nsb').trans ((World.cell?_of_block (a:=⟨sb,0,none⟩) (hal2 _ _ sb hsb1)).trans C0.out.1);have f0:w2.frozen? ⟨sb,0,none⟩=false:=(hgrow.frozen_far ⟨sb,0,none⟩ (by simp;omega) nsb').trans ((World.frozen?_of_block (a:=⟨sb,0,none⟩) (hal2 _ _ sb hsb1)).trans C0.out.2);have HFIN:Hid (SQ (w2.setCell ⟨sb,0,none⟩ (.slice (some ⟨gg,0,none⟩) (i+1) cap)) B sb (.slice (some ⟨gg,0,none⟩) (i+1) cap) vp O (addSp S m) (V++[.slice (some ⟨wr.heap.size,0,none⟩) 1 1]) P):=by
      show SQ _ _ _ _ _ _ _ _ _;rw[addSp_last S (fun j s' hs'=>HNO.out j s' (by have:=(List.getElem?_eq_some_iff.1 hs').1;rw[←HN.out]at this;exact this) hs')];have:=HQ1.out.more (w1:=w2) (by have:=hsb1;omega) m (o':=.cells #[.int .i64 m.kind,.int .i64 m.place,.int .i64 m.thread,.int .i64 m.num,.bool m.mend,.int .i64 m.nx,.int .i64 m.el,.bool m.h0,.bool m.h1,.bool m.h2,.bool m.h3,.bool m.h4,.slice (some ⟨wr.heap.size,0,none⟩) 1 1,.int .i64 (-1),.bool false] 164) rfl (gg:=gg) (cap:=cap) (by rw[←HN.out];exact hown2) (by rw[HVS.out,←HN.out];exact hgrow);rw[←HN.out]at this;exact this
     have HBF:Hid (Below B w (w2.setCell ⟨sb,0,none⟩ (.slice (some ⟨gg,0,none⟩) (i+1) cap))):=by
      have h1:Below B w wr:=HBE.out.mono (by omega);have h2:Below B w (((wr.alloc (.cells #[.int .i64 m.place] 3)).alloc (.cells #[.int .i64 m.kind,.int .i64 m.place,.int .i64 m.thread,.int .i64 m.num,.bool m.mend,.int .i64 m.nx,.int .i64 m.el,.bool m.h0,.bool m.h1,.bool m.h2,.bool m.h3,.bool m.h4,.slice (some ⟨wr.heap.size,0,none⟩) 1 1,.int .i64 (-1),.bool false] 164)).drew):=((h1.alloc (by have:=h1.size;omega) _).alloc (by have:=h1.size;simp;omega) _).drew;exact(h2.grown hgrow (by have:=h1.size;simp;omega) (fun k hk=>(HROW.out.lt k hk).1)).setCell (by show B≤sb;exact hB) _
     clear hown2 hgrow hat hlt2;refine hK.out _ _ H2 (fun hH2=>?_);clear hK K;simp only[Act.put,List.setIfInBounds_toArray];refine wpAnyH_take (i:=12) (oi:={ dst:=some 55,op:=Go.Op.nilCheck (Go.Operand.tmp 43),type:=0,pos := "search.go:52",after:=#[{ on:=0,ground:=Go.Ground.data },{ on:=0,ground:=Go.Ground.phase },{ on:=1,ground:=Go.Ground.phase },{ on:=2,ground:=Go.Ground.phase },{ on:=3,ground:=Go.Ground.phase },{ on:=4,ground:=Go.Ground.phase },{ on:=5,ground:=Go.Ground.phase },{ on:=6,ground:=Go.Ground.phase },{ on:=7,ground:=Go.Ground.phase },{ on:=8,ground:=Go.Ground.phase },{ on:=9,ground:=Go.Ground.phase },{ on:=10,ground:=Go.Ground.phase },{ on:=11,ground:=Go.Ground.phase }],guard:=none }) (v:=?_) rfl (by kernel_rfl) (by kernel_rfl) (by kernel_rfl) (fun _ _ _ h=>h) (Or.inl ⟨by rfl,?_⟩) hH2 ?_
     rotate_left
     ·intro W hW
      go_simp
      (try with_reducible rfl)
     simp only[Act.put];refine wpAnyH_take (i:=13) (oi:={ dst:=some 56,op:=Go.Op.fieldAddr 145 (Go.Operand.tmp 55) 0,type:=0,pos := "search.go:52",after:=#[{ on:=12,ground:=Go.Ground.data },{ on:=0,ground:=Go.Ground.phase },{ on:=1,ground:=Go.Ground.phase },{ on:=2,ground:=Go.Ground.phase },{ on:=3,ground:=Go.Ground.phase },{ on:=4,ground:=Go.Ground.phase },{ on:=5,ground:=Go.Ground.phase },{ on:=6,ground:=Go.Ground.phase },{ on:=7,ground:=Go.Ground.phase },{ on:=8,ground:=Go.Ground.phase },{ on:=9,ground:=Go.Ground.phase },{ on:=10,ground:=Go.Ground.phase },{ on:=11,ground:=Go.Ground.phase }],guard:=none }) (v:=?_) rfl (by kernel_rfl) (by kernel_rfl) (by kernel_rfl) (fun _ _ _ h=>h) (Or.inl ⟨by rfl,?_⟩) hH2 ?_
     rotate_left
     ·intro W hW
      go_simp
      (try with_reducible rfl)
     simp only[Act.put];refine wpAnyH_ready (rs:=[14]) (by kernel_rfl) (by simp) ?_;refine AllReadyH.cons rfl (fun K hK=>?_) AllReadyH.nil
     go_simp
     refine hK.out _ _ ((heap_setCell_other _ _ _ _ nbs).trans H2) (fun hH3=>?_);clear hK K;refine wpAnyH_done (by kernel_rfl) ?_ _;go_wp2;go_end0;exact⟨rfl,⟨_,_,HFIN.out⟩,HBF.out⟩
end Go.Proofs.YtdgkpkdinfklaabGreat
