import Derived.Test.YtdgkpkdinfklaabGreatGL
namespace Go.Proofs.YtdgkpkdinfklaabGreat
open Go.RowKit
theorem do_any(b k Bp:Nat)(vs vt vp:Value)(c:CS)(t:TH)(s:ST)(w:World)
  (hm:Blk w b (mV vs vt vp c.gl c.lk c.raced) 128)(ht:Blk w k (thV t) 153)(hp:w.ownsRow Bp 5 1 vp c.pr.length (bysV c.pr))(hbk:b≠k)(hn1:1≤t.name)(hn4:t.name≤4)(hgl:c.gl.length=3)(hlk:c.lk.length=5)(hr0:0≤t.reg)(hr9:t.reg≤9)(hpr:c.pr.length≤1000)(hBp:Bp≤w.heap.size)(hs:StOk s)(hk:1≤s.kind∧s.kind≤7) :
  Calls Tryz.prog 94 #[.pointer (some ⟨b,0,none⟩),.pointer (some ⟨k,0,none⟩),stAgg s] w fun e w'=>DoOut w b k Bp vs vt vp (c.does t s) e w':=by
 obtain⟨kind,place,thread,num,mend,nx,el,h0,h1,h2,h3,h4⟩:=s;obtain⟨s1,s2,s3⟩:=hs;simp only at hk s1 s2 s3;have h7:kind=1∨kind=2∨kind=3∨kind=4∨kind=5∨kind=6∨kind=7:=by omega
 rcases h7 with rfl|rfl|rfl|rfl|rfl|rfl|rfl
 ·exact do_get b k Bp vs vt vp c t place thread num mend nx el h0 h1 h2 h3 h4 w hm ht hp hbk hn1 hn4 hgl hlk (s1 (.inl rfl))
 ·exact do_put b k Bp vs vt vp c t place thread num mend nx el h0 h1 h2 h3 h4 w hm ht hp hbk hn1 hn4 hgl hlk (s1 (.inr rfl))
 ·exact do_add b k Bp vs vt vp c t place thread num mend nx el h0 h1 h2 h3 h4 w hm ht hp hbk hn1 hn4 hgl hlk (s2 rfl) hr0 hr9
 ·exact do_print b k Bp vs vt vp c t place thread num mend nx el h0 h1 h2 h3 h4 w hm ht hp hbk hgl hlk hr0 hr9 hpr hBp
 ·exact do_test b k Bp vs vt vp c t place thread num mend nx el h0 h1 h2 h3 h4 w hm ht hp hbk hn1 hn4 hgl hlk
 ·exact do_take b k Bp vs vt vp c t place thread num mend nx el h0 h1 h2 h3 h4 w hm ht hp hbk hn1 hn4 hgl hlk (s3 (.inl rfl))
 ·exact do_give b k Bp vs vt vp c t place thread num mend nx el h0 h1 h2 h3 h4 w hm ht hp hbk hn1 hn4 hgl hlk (s3 (.inr rfl))
structure MC(w:World)(b Bt Bp:Nat)(vs vt vp:Value)(F:List ST)(ths:List TH)(c:CS):Prop where
 blk:Blk w b (mV vs vt vp c.gl c.lk c.raced) 128
 srow:SRow w vs F
 trow:w.ownsRow Bt 153 7 vt ths.length (thsV ths)
 prow:w.ownsRow Bp 5 1 vp c.pr.length (bysV c.pr)
 gl3:c.gl.length=3
 lk5:c.lk.length=5
 bp:Bp≤w.heap.size
theorem thsV_length(l:List TH):(thsV l).length=l.length*7:=by
 induction l with
 | nil=>rfl
 | cons x r ih=>simp[thsV,thV]at ih ⊢;omega
theorem thsV_get(l:List TH)(i:Nat)(m:TH)(h:l[i]?=some m)(j:Nat)(hj:j<7):(thsV l)[i*7+j]?=(thV m)[j]?:=by
 induction l generalizing i with
 | nil=>simp at h
 | cons y r ih=>
  have e:thsV (y::r)=thV y++thsV r:=by simp[thsV]
  have hl:(thV y).length=7:=rfl;cases i with
  | zero=>
   simp at h;subst h;rw[e,List.getElem?_append_left (by omega)];simp
  | succ i=>
   have:=ih i (by simpa using h);rw[e,List.getElem?_append_right (by omega),←this]
   congr 1
   omega
theorem thsV_set(l:List TH)(i:Nat)(h:i<l.length)(t:TH) :
  (((((((thsV l).set (i*7) (.int .i64 t.name)).set (i*7+1) (.int .i64 t.next)).set (i*7+2) (.int .i64 t.reg)).set (i*7+3) (.int .i64 t.kn.c0)).set (i*7+4) (.int .i64 t.kn.c1)).set (i*7+5) (.int .i64 t.kn.c2)).set (i*7+6) (.int .i64 t.kn.c3)=thsV (l.set i t):=by
 induction l generalizing i with
 | nil=>simp at h
 | cons y r ih=>
  have e:∀y r,thsV (y::r)=thV y++thsV r:=fun y r=>by simp[thsV]
  cases i with
  | zero=>rw[List.set_cons_zero,e,e];rfl
  | succ i=>
   have:=ih i (by simpa using h);rw[List.set_cons_succ,e,e,←this];have hl:(thV y).length=7:=rfl;have st:∀(j:Nat) (x:List Value) (v:Value),(thV y++x).set ((i+1)*7+j) v=thV y++x.set (i*7+j) v:=fun j x v=>by
    rw[List.set_append_right _ _ (by omega),hl];congr 2;omega
   have s0:=st 0;simp only[Nat.add_zero]at s0;rw[s0,st 1,st 2,st 3,st 4,st 5,st 6]
def ThOk(t:TH):Prop:=1≤t.name∧t.name≤4∧0≤t.reg∧t.reg≤9∧∀i,0≤t.kn.get i∧t.kn.get i≤1000000
def pickM(F:List ST)(ths:List TH)(c:CS)(name:UInt8):List TH×CS×UInt8:=
 if (name.toNat:Int)-49<0 then(ths,c,46)else
 match ths[name.toNat-49]? with
 | none=>(ths,c,46)
 | some t=>
  if (upc F t.next).kind=9∨awaitedM c.lk (upc F t.next)≠0 then(ths,c,46)else
  let o:=c.does { t with next:=(upc F t.next).nx,kn:=t.kn.set t.ix (t.kn.get t.ix+1) } (upc F t.next)
  (ths.set (name.toNat-49) o.2.1,o.1,o.2.2)
def PickOut(w:World)(b Bt Bp:Nat)(vs vt vp:Value)(F:List ST)(o:List TH×CS×UInt8)(e:Ending)(w':World):Prop:=
 ∃vp',e=.returned (.int .u8 o.2.2.toNat)∧MC w' b Bt Bp vs vt vp' F o.1 o.2.1∧Chg (b::(vt.ownBlock.toList++vp.ownBlock.toList)) w w'∧(vp'.ownBlock=vp.ownBlock∨∃x,vp'.ownBlock=some x∧w.heap.size≤x)
theorem SRow.ne{w:World}{vs:Value}{F:List ST}(h:SRow w vs F){k ty:Nat}{l:List Value}(hk:Blk w k l ty)(hne:88≠ty):vs.ownBlock≠some k:=by
 obtain⟨B,am,cm,rfl,hr⟩:=h;exact row_ne hr hk hne
theorem SRow.chg{S:List Nat}{w w':World}{vs:Value}{F:List ST}(h:SRow w vs F)(hc:Chg S w w')(hs:∀g,vs.ownBlock=some g→g∉S):SRow w' vs F:=by
 obtain⟨B,am,cm,rfl,hr⟩:=h;exact⟨B,am,cm,rfl,row_chg hr hc hs⟩
theorem MC.later{w w':World}{b Bt Bp:Nat}{vs vt vp:Value}{F:List ST}{ths:List TH}{c:CS}(h:MC w b Bt Bp vs vt vp F ths c)(hc:Chg [] w w'):MC w' b Bt Bp vs vt vp F ths c:=
 ⟨h.blk.chg hc (by simp),h.srow.chg hc (by simp),row_chg h.trow hc (by simp),row_chg h.prow hc (by simp),h.gl3,h.lk5,Nat.le_trans h.bp hc.size⟩
set_option maxHeartbeats 3200000 in
set_option maxRecDepth 100000 in
theorem pick_none(b Bt Bp:Nat)(vs vt vp:Value)(F:List ST)(ths:List TH)(c:CS)(name:UInt8)(w:World)(h:MC w b Bt Bp vs vt vp F ths c)(hl:ths.length≤4)(hno:(name.toNat:Int)-49<0∨(ths.length:Int)≤(name.toNat:Int)-49) :
  Calls Tryz.prog 68 #[.pointer (some ⟨b,0,none⟩),.int .u8 name.toNat] w fun e w'=>e=.returned (.int .u8 46)∧w'=w:=by
 have hn:=name.toNat_lt;obtain⟨n,hnn⟩:∃n,n=name.toNat:=⟨_,rfl⟩;rw[←hnn]at hn hno ⊢;obtain⟨at',ct,hvt⟩:∃a k,vt=.slice a ths.length k:=by
  rcases h.trow.2 with⟨hv,h0⟩|⟨g,cap,cur,hv,_⟩
  ·exact⟨none,0,by rw[hv,h0]⟩
  ·exact⟨_,_,hv⟩
 have c1:=h.blk.cell 1 _ rfl;rw[hvt]at c1;obtain⟨L,hL⟩:∃L,L=ths.length:=⟨_,rfl⟩;rw[←hL]at c1 hl hno;clear h hvt hL hnn;rcases hno with hno|hno
 ·go_enter Tryz.func68,Tryz.ntmps68
  go_wp2;go_ret;exact⟨rfl,rfl⟩
 ·have hge:¬((n:Int)-49<0):=by omega
  go_enter Tryz.func68,Tryz.ntmps68
  go_wp2;go_ret;exact⟨rfl,rfl⟩
theorem thAt{w:World}{B g cm:Nat}{F:List TH}(h:w.ownsRow B 153 7 (.slice (some ⟨g,0,none⟩) F.length cm) F.length (thsV F))(i:Nat)(m:TH)(hx:F[i]?=some m)(j:Nat)(hj:j<7)(v:Value)(hv:(thV m)[j]?=some v) :
  w.cell? ⟨g,i*7+j,none⟩=some v:=by
 have hi:i<F.length:=(List.getElem?_eq_some_iff.1 hx).1;exact(h.cellAt (i*7+j) (by omega)).trans ((thsV_get F i m hx j hj).trans hv)
theorem th_stored{w:World}{B g cm:Nat}{l:List TH}(h:w.ownsRow B 153 7 (.slice (some ⟨g,0,none⟩) l.length cm) l.length (thsV l))(i:Nat)(hi:i<l.length)(t:TH) :
  (((((((w.setCell ⟨g,i*7,none⟩ (.int .i64 t.name)).setCell ⟨g,i*7+1,none⟩ (.int .i64 t.next)).setCell ⟨g,i*7+2,none⟩ (.int .i64 t.reg)).setCell ⟨g,i*7+3,none⟩ (.int .i64 t.kn.c0)).setCell ⟨g,i*7+4,none⟩ (.int .i64 t.kn.c1)).setCell ⟨g,i*7+5,none⟩ (.int .i64 t.kn.c2)).setCell ⟨g,i*7+6,none⟩ (.int .i64 t.kn.c3)).ownsRow B 153 7 (.slice (some ⟨g,0,none⟩) (l.set i t).length cm) (l.set i t).length (thsV (l.set i t)):=by
 have h7:=(((((((h.stored (i*7) (.int .i64 t.name)).1.stored (i*7+1) (.int .i64 t.next)).1.stored (i*7+2) (.int .i64 t.reg)).1.stored (i*7+3) (.int .i64 t.kn.c0)).1.stored (i*7+4) (.int .i64 t.kn.c1)).1.stored (i*7+5) (.int .i64 t.kn.c2)).1.stored (i*7+6) (.int .i64 t.kn.c3)).1;rw[thsV_set l i hi t]at h7;rw[List.length_set];exact h7
set_option maxHeartbeats 6400000 in
set_option maxRecDepth 100000 in
theorem pick_wait(b Bt Bp n:Nat)(vs vt vp:Value)(F:List ST)(ths:List TH)(c:CS)(t:TH)(w:World)(h:MC w b Bt Bp vs vt vp F ths c)(hF:F.length≤1000)(hl:ths.length≤4)(hn:ths[n]?=some t)
  (hw:(upc F t.next).kind=9∨awaitedM c.lk (upc F t.next)≠0) :
  Calls Tryz.prog 68 #[.pointer (some ⟨b,0,none⟩),.int .u8 ((n+49:Nat):Int)] w fun e w'=>e=.returned (.int .u8 46)∧Chg [] w w':=by
 have hnl:n<ths.length:=(List.getElem?_eq_some_iff.1 hn).1;obtain⟨g,ct,hvt,hgB,_⟩:=h.trow.form (by omega);subst hvt;have q0:=thAt h.trow n t hn 0 (by decide) _ rfl;have q1:=thAt h.trow n t hn 1 (by decide) _ rfl;have q2:=thAt h.trow n t hn 2 (by decide) _ rfl;have q3:=thAt h.trow n t hn 3 (by decide) _ rfl;have q4:=thAt h.trow n t hn 4 (by decide) _ rfl;have q5:=thAt h.trow n t hn 5 (by decide) _ rfl;have q6:=thAt h.trow n t hn 6 (by decide) _ rfl;rw[Nat.add_zero]at q0;have c1:=h.blk.cell 1 _ rfl;have hgl:=h.gl3;have hlk:=h.lk5;have HM:Hid (∀o,MC (w.alloc o) b Bt Bp vs (.slice (some ⟨g,0,none⟩) ths.length ct) vp F ths c):=fun o=>h.later ((Chg.refl _ w).alloc o)
 obtain⟨s,hs⟩:∃s,s=upc F t.next:=⟨_,rfl⟩;have UP:Hid (∀w':World,Blk w' b (mV vs (.slice (some ⟨g,0,none⟩) ths.length ct) vp c.gl c.lk c.raced) 128→SRow w' vs F→Calls Tryz.prog 91 #[.pointer (some ⟨b,0,none⟩),thAgg t] w' fun e w''=>e=.returned (stAgg s)∧Chg [] w' w''):=fun w' h1 h2=>by rw[hs];exact upcoming_any b vs _ vp c.gl c.lk c.raced t F w' h1 h2 hF
 rw[←hs]at hw;have AW:Hid (∀w':World,Blk w' b (mV vs (.slice (some ⟨g,0,none⟩) ths.length ct) vp c.gl c.lk c.raced) 128→Calls Tryz.prog 92 #[.pointer (some ⟨b,0,none⟩),stAgg s] w' fun e w''=>e=.returned (.int .i64 (awaitedM c.lk s))∧Chg [] w' w''):=fun w' h1=>awaited_any b vs _ vp c.gl c.lk c.raced s w' h1 hgl hlk
 unfold thAgg at UP;unfold stAgg at UP AW;obtain⟨x,hx⟩:∃x,x=awaitedM c.lk s:=⟨_,rfl⟩;rw[←hx]at AW hw;obtain⟨L,hL⟩:∃L,L=ths.length:=⟨_,rfl⟩;rw[←hL]at c1 hnl hl HM UP AW;have hblt:=h.blk.lt;clear h hn hs hx hL
 go_enter Tryz.func68,Tryz.ntmps68
 go_wp2_with fail
 refine(UP.out _ (HM.out _).blk (HM.out _).srow).mono ?_;rintro e w1 ⟨rfl,d1⟩;have M1:Hid (∀o,MC (w1.alloc o) b Bt Bp vs (.slice (some ⟨g,0,none⟩) L ct) vp F ths c):=fun o=>(((HM.out _).later d1).later ((Chg.refl _ w1).alloc o))
 have D1:Hid (∀o,Chg [] w (w1.alloc o)):=fun o=>(((Chg.refl _ w).alloc _).trans d1).alloc o
 clear d1 HM UP
 go_wp2_with fail
 refine(AW.out _ (M1.out _).blk).mono ?_;rintro e w2 ⟨rfl,d2⟩;have bx:=((Blk.new (w:=w1) (l:=[.int .i64 s.kind,.int .i64 s.place,.int .i64 s.thread,.int .i64 s.num,.bool s.mend,.int .i64 s.nx,.int .i64 s.el,.bool s.h0,.bool s.h1,.bool s.h2,.bool s.h3,.bool s.h4]) (ty:=88)).chg d2 (by simp)).cell 0 _ rfl;have D2:Hid (Chg [] w w2):=(D1.out _).trans d2;clear d2 AW M1 D1
 by_cases h9:s.kind=9
 ·have b9:(s.kind==9)=true:=by simpa using h9
  clear hw h9;go_wp2;go_ret;exact⟨rfl,D2.out⟩
 ·have b9:(s.kind==9)=false:=by simpa using h9
  have bx0:(x != 0)=true:=by
   rcases hw with h|h
   ·exact absurd h h9
   ·simpa using h
  clear hw h9;go_wp2;go_ret;exact⟨rfl,D2.out⟩
theorem two_rows{w:World}{b1 b2 e1 e2 s1 s2 n1 n2:Nat}{v1 v2:Value}{x1 x2:List Value}(h1:w.ownsRow b1 e1 s1 v1 n1 x1)(h2:w.ownsRow b2 e2 s2 v2 n2 x2)(hne:e1≠e2)(g:Nat)(hg:v1.ownBlock=some g):v2.ownBlock≠some g:=by
 intro e;rcases rows_apart h1 h2 hne with h|h
 ·rw[h]at hg;cases hg
 ·exact h (hg.trans e.symm)
def set7(w:World)(g a0 a1 a2 a3 a4 a5 a6:Nat)(t:TH):World:=
 ((((((w.setCell ⟨g,a0,none⟩ (.int .i64 t.name)).setCell ⟨g,a1,none⟩ (.int .i64 t.next)).setCell ⟨g,a2,none⟩ (.int .i64 t.reg)).setCell ⟨g,a3,none⟩ (.int .i64 t.kn.c0)).setCell ⟨g,a4,none⟩ (.int .i64 t.kn.c1)).setCell ⟨g,a5,none⟩ (.int .i64 t.kn.c2)).setCell ⟨g,a6,none⟩ (.int .i64 t.kn.c3)
theorem chg7(w:World)(g a0 a1 a2 a3 a4 a5 a6:Nat)(t:TH):Chg [g] w (set7 w g a0 a1 a2 a3 a4 a5 a6 t):=by
 unfold set7;have m:g∈[g]:=by simp
 have h0:=(Chg.refl [g] w).set (a:=⟨g,a0,none⟩) (.inl m) (.int .i64 t.name);have h1:=h0.set (a:=⟨g,a1,none⟩) (.inl m) (.int .i64 t.next);have h2:=h1.set (a:=⟨g,a2,none⟩) (.inl m) (.int .i64 t.reg);have h3:=h2.set (a:=⟨g,a3,none⟩) (.inl m) (.int .i64 t.kn.c0);have h4:=h3.set (a:=⟨g,a4,none⟩) (.inl m) (.int .i64 t.kn.c1);have h5:=h4.set (a:=⟨g,a5,none⟩) (.inl m) (.int .i64 t.kn.c2);exact h5.set (a:=⟨g,a6,none⟩) (.inl m) (.int .i64 t.kn.c3)
theorem pick_fin{w w3 w4:World}{b g Bt Bp L ct n:Nat}{vs vp vp':Value}{F:List ST}{ths:List TH}{o:CS×TH×UInt8}(a0 a1 a2 a3 a4 a5 a6:Nat)(e0:a0=n*7)(e1:a1=n*7+1)(e2:a2=n*7+2)(e3:a3=n*7+3)(e4:a4=n*7+4)(e5:a5=n*7+5)(e6:a6=n*7+6)
  (hL:L=ths.length)(hnl:n<L)(M4:Blk w4 b (mV vs (.slice (some ⟨g,0,none⟩) L ct) vp' o.1.gl o.1.lk o.1.raced) 128)(R4:w4.ownsRow Bt 153 7 (.slice (some ⟨g,0,none⟩) L ct) L (thsV ths))(S4:SRow w4 vs F)(P4:w4.ownsRow Bp 5 1 vp' o.1.pr.length (bysV o.1.pr))
  (D3:Chg [] w w3)(D4:Chg (b::w.heap.size::vp.ownBlock.toList) w3 w4)(HV:vp'.ownBlock=vp.ownBlock∨∃x,vp'.ownBlock=some x∧w3.heap.size≤x)(npg:vp.ownBlock≠some g)(hglt:g<w.heap.size)(ngb:g≠b)(ho3:o.1.gl.length=3)(ho5:o.1.lk.length=5)(hbp:Bp≤w.heap.size) :
  PickOut w b Bt Bp vs (.slice (some ⟨g,0,none⟩) L ct) vp F (ths.set n o.2.1,o.1,o.2.2) (.returned (.int .u8 o.2.2.toNat)) (set7 w4 g a0 a1 a2 a3 a4 a5 a6 o.2.1).drew:=by
 have nvg:vp'.ownBlock≠some g:=fun e=>by
  rcases HV with h|⟨x,h1,h2⟩
  ·exact npg (h.symm.trans e)
  ·rw[e]at h1;have:=Option.some.inj h1;have:=D3.size;omega
 have nvs:vs.ownBlock≠some g:=fun e=>by
  obtain⟨B,am,cm,rfl,hr⟩:=S4;exact two_rows R4 hr (by decide) g rfl e
 have CC:Chg (b::((some g).toList++vp.ownBlock.toList)) w w4:=by
  refine(D3.mono (by simp)).trans' D4 ?_;intro i hi;simp at hi;rcases hi with h|h|h
  ·left;simp[h]
  ·right;omega
  ·left;simp[h]
 have C7:Chg [g] w4 (set7 w4 g a0 a1 a2 a3 a4 a5 a6 o.2.1).drew:=(chg7 w4 g a0 a1 a2 a3 a4 a5 a6 o.2.1).drew;have CA:Chg (b::((some g).toList++vp.ownBlock.toList)) w (set7 w4 g a0 a1 a2 a3 a4 a5 a6 o.2.1).drew:=CC.trans' C7 (by intro i hi;simp at hi;left;simp[hi]);have TS:(set7 w4 g a0 a1 a2 a3 a4 a5 a6 o.2.1).drew.ownsRow Bt 153 7 (.slice (some ⟨g,0,none⟩) L ct) (ths.set n o.2.1).length (thsV (ths.set n o.2.1)):=by
  have h1:w4.ownsRow Bt 153 7 (.slice (some ⟨g,0,none⟩) ths.length ct) ths.length (thsV ths):=by rw[←hL];exact R4
  have:=th_stored h1 n (by rw[←hL];exact hnl) o.2.1;rw[List.length_set,←hL]at this;rw[List.length_set,←hL];unfold set7;rw[e0,e1,e2,e3,e4,e5,e6];exact this.drew
 refine⟨vp',rfl,⟨M4.chg C7 (by simp;exact fun e=>ngb e.symm),S4.chg C7 (fun x hx=>by simp;exact fun e=>nvs (by rw[hx,e])),TS,row_chg P4 C7 (fun x hx=>by simp;exact fun e=>nvg (by rw[hx,e])),ho3,ho5,Nat.le_trans hbp CA.size⟩,CA,?_⟩;rcases HV with h|⟨x,h1,h2⟩
 ·exact .inl h
 ·exact .inr ⟨x,h1,by have:=D3.size;omega⟩
set_option maxHeartbeats 12800000 in
set_option maxRecDepth 100000 in
theorem pick_go(b Bt Bp n:Nat)(vs vt vp:Value)(F:List ST)(ths:List TH)(c:CS)(t:TH)(w:World)(h:MC w b Bt Bp vs vt vp F ths c)(hF:F.length≤1000)(hl:ths.length≤4)(hn:ths[n]?=some t)(hok:ThOk t)(hpr:c.pr.length≤1000)
  (hs:StOk (upc F t.next))(hk:1≤(upc F t.next).kind∧(upc F t.next).kind≤7)(hw:awaitedM c.lk (upc F t.next)=0)(o:CS×TH×UInt8)(ho:o=c.does { t with next:=(upc F t.next).nx,kn:=t.kn.set t.ix (t.kn.get t.ix+1) } (upc F t.next))(ho3:o.1.gl.length=3)(ho5:o.1.lk.length=5) :
  Calls Tryz.prog 68 #[.pointer (some ⟨b,0,none⟩),.int .u8 ((n+49:Nat):Int)] w fun e w'=>PickOut w b Bt Bp vs vt vp F (ths.set n o.2.1,o.1,o.2.2) e w':=by
 have hnl:n<ths.length:=(List.getElem?_eq_some_iff.1 hn).1;obtain⟨g,ct,hvt,hgB,_⟩:=h.trow.form (by omega);subst hvt;have q0:=thAt h.trow n t hn 0 (by decide) _ rfl;have q1:=thAt h.trow n t hn 1 (by decide) _ rfl;have q2:=thAt h.trow n t hn 2 (by decide) _ rfl;have q3:=thAt h.trow n t hn 3 (by decide) _ rfl;have q4:=thAt h.trow n t hn 4 (by decide) _ rfl;have q5:=thAt h.trow n t hn 5 (by decide) _ rfl;have q6:=thAt h.trow n t hn 6 (by decide) _ rfl;rw[Nat.add_zero]at q0;have c1:=h.blk.cell 1 _ rfl;have hgl:=h.gl3;have hlk:=h.lk5;obtain⟨ok1,ok4,okr0,okr9,okc⟩:=hok;have HM0:Hid (MC w b Bt Bp vs (.slice (some ⟨g,0,none⟩) ths.length ct) vp F ths c):=h;have HM:Hid (∀o,MC (w.alloc o) b Bt Bp vs (.slice (some ⟨g,0,none⟩) ths.length ct) vp F ths c):=fun o=>h.later ((Chg.refl _ w).alloc o)
 obtain⟨s,hse⟩:∃s,s=upc F t.next:=⟨_,rfl⟩;have UP:Hid (∀w':World,Blk w' b (mV vs (.slice (some ⟨g,0,none⟩) ths.length ct) vp c.gl c.lk c.raced) 128→SRow w' vs F→Calls Tryz.prog 91 #[.pointer (some ⟨b,0,none⟩),thAgg t] w' fun e w''=>e=.returned (stAgg s)∧Chg [] w' w''):=fun w' h1 h2=>by rw[hse];exact upcoming_any b vs _ vp c.gl c.lk c.raced t F w' h1 h2 hF
 rw[←hse]at hw hs hk ho;have AW:Hid (∀w':World,Blk w' b (mV vs (.slice (some ⟨g,0,none⟩) ths.length ct) vp c.gl c.lk c.raced) 128→Calls Tryz.prog 92 #[.pointer (some ⟨b,0,none⟩),stAgg s] w' fun e w''=>e=.returned (.int .i64 0)∧Chg [] w' w''):=fun w' h1=>by rw[←hw];exact awaited_any b vs _ vp c.gl c.lk c.raced s w' h1 hgl hlk
 obtain⟨t1,ht1⟩:∃t1:TH,t1={ t with next:=s.nx }:=⟨_,rfl⟩;obtain⟨t2,ht2⟩:∃t2:TH,t2={ t with next:=s.nx,kn:=t.kn.set t.ix (t.kn.get t.ix+1) }:=⟨_,rfl⟩;rw[←ht2]at ho;have TK:Hid (∀(k:Nat) (w':World),Blk w' k (thV t1) 153→Calls Tryz.prog 93 #[.pointer (some ⟨k,3,none⟩),.int .i64 t.name] w' fun e w''=>e=.returned (.tuple #[])∧Blk w'' k (thV t2) 153∧Chg [k] w' w''):=fun k w' h1=>by
  have:=tick_any k t1 w' h1 (by rw[ht1];exact ok1) (by rw[ht1];exact ok4) (by rw[ht1];exact okc);rw[ht2];rw[ht1]at this;exact this
 have DO:Hid (∀(k:Nat) (w':World),Blk w' b (mV vs (.slice (some ⟨g,0,none⟩) ths.length ct) vp c.gl c.lk c.raced) 128→Blk w' k (thV t2) 153→w'.ownsRow Bp 5 1 vp c.pr.length (bysV c.pr)→b≠k→Bp≤w'.heap.size→Calls Tryz.prog 94 #[.pointer (some ⟨b,0,none⟩),.pointer (some ⟨k,0,none⟩),stAgg s] w' fun e w''=>DoOut w' b k Bp vs (.slice (some ⟨g,0,none⟩) ths.length ct) vp o e w''):=fun k w' h1 h2 h3 h4 h5=>by
  rw[ho];exact do_any b k Bp vs _ vp c t2 s w' h1 h2 h3 h4 (by rw[ht2];exact ok1) (by rw[ht2];exact ok4) hgl hlk (by rw[ht2];exact okr0) (by rw[ht2];exact okr9) hpr h5 hs hk
 unfold thAgg at UP;unfold stAgg at UP AW DO;have b9:(s.kind==9)=false:=by rw[beq_eq_false_iff_ne];omega
 obtain⟨L,hL⟩:∃L,L=ths.length:=⟨_,rfl⟩;have HL:Hid (L=ths.length):=hL;rw[←hL]at c1 hnl hl HM HM0 UP AW DO ⊢;have hblt:=h.blk.lt;have hglt:g<w.heap.size:=(h.trow.lt g rfl).2;have T1:Hid (t1={ t with next:=s.nx }):=ht1;clear h hn hse hL ho hs hk hw ht1 ht2 ok1 ok4 okr0 okr9 okc
 go_enter Tryz.func68,Tryz.ntmps68
 go_wp2_with fail
 refine(UP.out _ (HM.out _).blk (HM.out _).srow).mono ?_;rintro e w1 ⟨rfl,d1⟩;have hs1:w.heap.size<w1.heap.size:=by have:=d1.size;simp at this;omega
 have M1:Hid (∀o,MC (w1.alloc o) b Bt Bp vs (.slice (some ⟨g,0,none⟩) L ct) vp F ths c):=fun o=>(((HM.out _).later d1).later ((Chg.refl _ w1).alloc o))
 have K1:Hid (∀o,Blk (w1.alloc o) w.heap.size (thV t) 153):=fun o=>((Blk.new (l:=thV t)).chg d1 (by simp)).alloc o
 have D1:Hid (∀o,Chg [] w (w1.alloc o)):=fun o=>(((Chg.refl _ w).alloc _).trans d1).alloc o
 clear d1 HM UP q0 q1 q2 q3 q4 q5 q6
 go_wp2_with fail
 refine(AW.out _ (M1.out _).blk).mono ?_;rintro e w2 ⟨rfl,d2⟩;have hs2:w1.heap.size<w2.heap.size:=by have:=d2.size;simp at this;omega
 have S2:Hid (Blk w2 w1.heap.size (stV s) 88):=(Blk.new (w:=w1) (l:=stV s) (ty:=88)).chg d2 (by simp);have K2:Hid (Blk w2 w.heap.size (thV t) 153):=(K1.out _).chg d2 (by simp);have M2:Hid (MC w2 b Bt Bp vs (.slice (some ⟨g,0,none⟩) L ct) vp F ths c):=(M1.out _).later d2;have D2:Hid (Chg [] w w2):=(D1.out _).trans d2;clear d2 AW M1 D1 K1;have s0:=S2.out.cell 0 _ rfl;have s5:=S2.out.cell 5 _ rfl;have k0:=K2.out.cell 0 _ rfl;have k1:=K2.out.cell 1 _ rfl;have y1:=K2.out.fz 1;have K3:Hid (Blk (w2.setCell ⟨w.heap.size,1,none⟩ (.int .i64 s.nx)) w.heap.size (thV t1) 153):=by
  have:=K2.out.set 1 (.int .i64 s.nx);show Blk _ _ (thV t1) _;rw[T1.out];exact this
 go_wp2_with fail
 refine(TK.out w.heap.size _ K3.out).mono ?_;rintro e w3 ⟨rfl,k3,d3⟩;have C23:Chg [w.heap.size] w2 w3:=((Chg.refl _ w2).set (a:=⟨w.heap.size,1,none⟩) (.inl (by simp)) _).trans d3;have S3:Hid (Blk w3 w1.heap.size (stV s) 88):=S2.out.chg C23 (by simp;omega);have hgne:∀i∈[w.heap.size],i∈([]:List Nat)∨w.heap.size≤i:=by intro i hi;simp at hi;right;omega
 have D3:Hid (Chg [] w w3):=D2.out.trans' C23 hgne;have M3:Hid (MC w3 b Bt Bp vs (.slice (some ⟨g,0,none⟩) L ct) vp F ths c):=HM0.out.later D3.out;have K3':Hid (Blk w3 w.heap.size (thV t2) 153):=k3;clear s0 s5 k0 k1 y1 K3 d3 k3 C23 K2 M2 D2 TK S2;have e0:=S3.out.cell 0 _ rfl;have e1:=S3.out.cell 1 _ rfl;have e2:=S3.out.cell 2 _ rfl;have e3:=S3.out.cell 3 _ rfl;have e4:=S3.out.cell 4 _ rfl;have e5:=S3.out.cell 5 _ rfl;have e6:=S3.out.cell 6 _ rfl;have e7:=S3.out.cell 7 _ rfl;have e8:=S3.out.cell 8 _ rfl;have e9:=S3.out.cell 9 _ rfl;have e10:=S3.out.cell 10 _ rfl;have e11:=S3.out.cell 11 _ rfl
 go_wp2_with fail
 refine(DO.out w.heap.size w3 M3.out.blk K3'.out M3.out.prow (by omega) M3.out.bp).mono ?_;rintro e w4 ⟨vp',rfl,m4,k4,p4,d4,hvp⟩;clear e0 e1 e2 e3 e4 e5 e6 e7 e8 e9 e10 e11 S3 DO;have npg:vp.ownBlock≠some g:=two_rows HM0.out.trow HM0.out.prow (by decide) g rfl;have ngk:g≠w.heap.size:=by omega
 have ngb:g≠b:=fun e=>row_ne HM0.out.trow HM0.out.blk (by decide) (by rw[e];rfl)
 have R4:Hid (w4.ownsRow Bt 153 7 (.slice (some ⟨g,0,none⟩) L ct) L (thsV ths)):=by
  have:=M3.out.trow;rw[←HL.out]at this;refine row_chg this d4 (fun x hx=>?_);have:g=x:=by simpa[Value.ownBlock]using hx
  subst this;simp;exact⟨ngb,ngk,npg⟩
 have hsl:SRow w3 vs F:=M3.out.srow
 have S4:Hid (SRow w4 vs F):=hsl.chg d4 (fun x hx=>by
  simp;refine⟨fun e=>hsl.ne M3.out.blk (by decide) (by rw[hx,e]),fun e=>hsl.ne K3'.out (by decide) (by rw[hx,e]),fun e=>?_⟩;obtain⟨B,am,cm,rfl,hr⟩:=hsl
  exact two_rows hr M3.out.prow (by decide) x hx e)
 have r0:=R4.out.cellAt (n*7) (by omega);have r1:=R4.out.cellAt (n*7+1) (by omega);have r2:=R4.out.cellAt (n*7+2) (by omega);have r3:=R4.out.cellAt (n*7+3) (by omega);have r4:=R4.out.cellAt (n*7+4) (by omega);have r5:=R4.out.cellAt (n*7+5) (by omega);have r6:=R4.out.cellAt (n*7+6) (by omega);have hlen:(thsV ths).length=L*7:=by rw[thsV_length,HL.out]
 have ex:∀j,j<7→∃v,(thsV ths)[n*7+j]?=some v:=fun j hj=>⟨_,List.getElem?_eq_getElem (by omega)⟩
 obtain⟨v0,x0⟩:=ex 0 (by decide);obtain⟨v1,x1⟩:=ex 1 (by decide);obtain⟨v2,x2⟩:=ex 2 (by decide);obtain⟨v3,x3⟩:=ex 3 (by decide);obtain⟨v4,x4⟩:=ex 4 (by decide);obtain⟨v5,x5⟩:=ex 5 (by decide);obtain⟨v6,x6⟩:=ex 6 (by decide);rw[Nat.add_zero]at x0;rw[x0]at r0;rw[x1]at r1;rw[x2]at r2;rw[x3]at r3;rw[x4]at r4;rw[x5]at r5;rw[x6]at r6;have f0:=R4.out.frozenAt (n*7);have f1:=R4.out.frozenAt (n*7+1);have f2:=R4.out.frozenAt (n*7+2);have f3:=R4.out.frozenAt (n*7+3);have f4:=R4.out.frozenAt (n*7+4);have f5:=R4.out.frozenAt (n*7+5);have f6:=R4.out.frozenAt (n*7+6);have hg4:g<w4.heap.size:=(R4.out.lt g rfl).2;have k40:=k4.cell 0 _ rfl;have k41:=k4.cell 1 _ rfl;have k42:=k4.cell 2 _ rfl;have k43:=k4.cell 3 _ rfl;have k44:=k4.cell 4 _ rfl;have k45:=k4.cell 5 _ rfl;have k46:=k4.cell 6 _ rfl;have m41:=m4.cell 1 _ rfl;have M4:Hid (Blk w4 b (mV vs (.slice (some ⟨g,0,none⟩) L ct) vp' o.1.gl o.1.lk o.1.raced) 128):=m4;have P4:Hid (w4.ownsRow Bp 5 1 vp' o.1.pr.length (bysV o.1.pr)):=p4;have D4:Hid (Chg (b::w.heap.size::vp.ownBlock.toList) w3 w4):=d4;have HV:Hid (vp'.ownBlock=vp.ownBlock∨∃x,vp'.ownBlock=some x∧w3.heap.size≤x):=hvp;clear x0 x1 x2 x3 x4 x5 x6 ex hlen m4 k4 p4 d4 hvp hsl;have PF:Hid (∀(n a0 a1 a2 a3 a4 a5 a6:Nat),n<L→a0=n*7→a1=n*7+1→a2=n*7+2→a3=n*7+3→a4=n*7+4→a5=n*7+5→a6=n*7+6→PickOut w b Bt Bp vs (.slice (some ⟨g,0,none⟩) L ct) vp F (ths.set n o.2.1,o.1,o.2.2) (.returned (.int .u8 o.2.2.toNat)) (set7 w4 g a0 a1 a2 a3 a4 a5 a6 o.2.1).drew):=
  fun n a0 a1 a2 a3 a4 a5 a6 hn x0 x1 x2 x3 x4 x5 x6=>pick_fin a0 a1 a2 a3 a4 a5 a6 x0 x1 x2 x3 x4 x5 x6 HL.out hn M4.out R4.out S4.out P4.out D3.out D4.out HV.out npg hglt ngb ho3 ho5 HM0.out.bp
 clear npg hs1 hs2 hgne K3';rcases four (show n<4 by omega)with rfl|rfl|rfl|rfl
 ·dsimp at r0 r1 r2 r3 r4 r5 r6 f0 f1 f2 f3 f4 f5 f6;have PG:Hid (PickOut w b Bt Bp vs (.slice (some ⟨g,0,none⟩) L ct) vp F (ths.set 0 o.2.1,o.1,o.2.2) (.returned (.int .u8 o.2.2.toNat)) (set7 w4 g 0 1 2 3 4 5 6 o.2.1).drew):=PF.out 0 0 1 2 3 4 5 6 hnl rfl rfl rfl rfl rfl rfl rfl;clear PF;go_wp2
  go_region
  all_goals
   go_wp2;go_ret;exact PG.out
 ·dsimp at r0 r1 r2 r3 r4 r5 r6 f0 f1 f2 f3 f4 f5 f6;have PG:Hid (PickOut w b Bt Bp vs (.slice (some ⟨g,0,none⟩) L ct) vp F (ths.set 1 o.2.1,o.1,o.2.2) (.returned (.int .u8 o.2.2.toNat)) (set7 w4 g 7 8 9 10 11 12 13 o.2.1).drew):=PF.out 1 7 8 9 10 11 12 13 hnl rfl rfl rfl rfl rfl rfl rfl;clear PF;go_wp2
  go_region
  all_goals
   go_wp2;go_ret;exact PG.out
 ·dsimp at r0 r1 r2 r3 r4 r5 r6 f0 f1 f2 f3 f4 f5 f6;have PG:Hid (PickOut w b Bt Bp vs (.slice (some ⟨g,0,none⟩) L ct) vp F (ths.set 2 o.2.1,o.1,o.2.2) (.returned (.int .u8 o.2.2.toNat)) (set7 w4 g 14 15 16 17 18 19 20 o.2.1).drew):=PF.out 2 14 15 16 17 18 19 20 hnl rfl rfl rfl rfl rfl rfl rfl;clear PF;go_wp2
  go_region
  all_goals
   go_wp2;go_ret;exact PG.out
 ·dsimp at r0 r1 r2 r3 r4 r5 r6 f0 f1 f2 f3 f4 f5 f6;have PG:Hid (PickOut w b Bt Bp vs (.slice (some ⟨g,0,none⟩) L ct) vp F (ths.set 3 o.2.1,o.1,o.2.2) (.returned (.int .u8 o.2.2.toNat)) (set7 w4 g 21 22 23 24 25 26 27 o.2.1).drew):=PF.out 3 21 22 23 24 25 26 27 hnl rfl rfl rfl rfl rfl rfl rfl;clear PF;go_wp2
  go_region
  all_goals
   go_wp2;go_ret;exact PG.out
end Go.Proofs.YtdgkpkdinfklaabGreat
