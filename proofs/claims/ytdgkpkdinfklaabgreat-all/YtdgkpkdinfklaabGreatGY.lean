import Derived.Test.YtdgkpkdinfklaabGreatGX
import Derived.Deep.RegionLaw
import Derived.Test.YtdgkpkdinfklaabGreatGE
import Derived.Laws.ResultCell
namespace Go.Proofs.YtdgkpkdinfklaabGreat
open Go.RowKit
theorem does_any{P:PS}{N:Nat}(h:P.Ok N)(hN:N≤100000)(hpr:P.pr.length≤100000){t:Nat}{s l:List UInt8}{x:Int}(ha:At P t s l x)(hs:Sh l s)(hl:s.length≤N)(htd:TD [] l.reverse s)(h0:0≤x)(h9:x≤9)(w:World)(B:Nat)(hp:PM w B P) :
  Calls Tryz.prog 73 #[.pointer (some ⟨B+1,0,none⟩),.int .i64 t] w fun e w'=>e=.returned (.tuple #[.int .u8 (P.does t).2.1.toNat,.int .u8 (P.does t).2.2.toNat])∧PM w' B (P.does t).1∧Fr B w w':=by
 have hll:l.length≤100000:=by have:=htd.held_len;simp at this;omega
 have hsl:s.length≤100000:=by omega
 cases hs with
 | get v r hv hr=>
  rw[doesP_get ha];obtain⟨z,hz,hz',_⟩:=glob_at h hv;rw[hz'];exact does_get v r l t x z w B P hp ha.s ha.l ha.x hsl hv hz
 | put v r hv hr=>
  rw[doesP_put ha];obtain⟨z,hz,hz',_⟩:=glob_at h hv;exact does_put v r l t x z w B P hp ha.s ha.l ha.x hsl hv hz
 | add v r hv hr=>
  rw[doesP_add ha];exact does_add v r l t x w B P hp ha.s ha.l ha.x hsl hv ⟨h0,h9⟩
 | out r hr=>
  rw[doesP_out ha];obtain⟨n,rfl⟩:∃n:Nat,x=n:=⟨x.toNat,by omega⟩;exact does_out r l t n w B P hp ha.s ha.l ha.x hsl (by omega) hpr
 | opens v r _ _ hr=>
  rw[doesP_opens ha];exact does_open v r l t x w B P hp ha.s ha.l ha.x hsl hll
 | mended v r _ _ hr=>
  rw[doesP_mended ha];exact does_mended v r l t x w B P hp ha.s ha.l ha.x hsl hll
 | shut v m r e hr=>
  subst e;rw[doesP_shut ha];exact does_shut v r m t x w B P hp ha.s ha.l ha.x hsl hll
 | mend v m r e hr=>
  subst e;rw[doesP_mend ha];exact does_mend v r m t x w B P hp ha.s ha.l ha.x hsl hll
 | branch a b r hta htb hr=>
  rw[doesP_test (.inl rfl) ha];refine(does_branch hta htb r l t x w B P hp ha.s ha.l ha.x hsl _ rfl _ rfl).mono ?_;rintro e w' ⟨rfl,h1,h2⟩;refine⟨?_,h1,h2⟩
  split<;>rfl
 | loop a r hm hta hr=>
  rw[doesP_test (.inr rfl) ha];refine(does_loop hta r l t x w B P hp ha.s ha.l ha.x hsl _ rfl _ rfl).mono ?_;rintro e w' ⟨rfl,h1,h2⟩;refine⟨?_,h1,h2⟩
  split<;>rfl
theorem Tryz.infoDid:(Tryz.prog.info? 136).map (fun i=>(i.zero,i.size,i.bytes))=some (some (.agg #[.int .i64 0,.int .i64 0,.int .u8 0,.int .u8 0]),4,24):=by kernel_rfl
theorem PD.steps{w w1:World}{B:Nat}{P:PS}{at' ah ar as':Option Addr}{ct ch cr cs:Nat}(h:PD w B P at' ah ar as' ct ch cr cs){g cap:Nat}{l:List Did}(hg:w.grownBy w1 (Value.slice as' P.st.length cs).ownBlock)
  (hown:w1.ownsRow (B+2) 136 4 (.slice (some ⟨g,0,none⟩) l.length cap) l.length (l.flatMap didV)) :
  PD (w1.setCell ⟨B+1,5,none⟩ (.slice (some ⟨g,0,none⟩) l.length cap)) B { P with st:=l } at' ah ar (some ⟨g,0,none⟩) ct ch cr cap∧Fr B w (w1.setCell ⟨B+1,5,none⟩ (.slice (some ⟨g,0,none⟩) l.length cap)):=by
 obtain⟨hb,c0,c1,c2,c3,c4,c5,fz,r0,r1,r2,r3,r5,ap⟩:=h;have hne:some (B+1)≠(Value.slice as' P.st.length cs).ownBlock:=fun e=>by have:=(r5.lt _ e.symm).1;omega
 have K:=fun i=>hg.cell_far ⟨B+1,i,none⟩ hb hne
 have Z:=fun i=>(hg.frozen_far ⟨B+1,i,none⟩ hb hne).trans (fz i)
 have k0:=(K 0).trans c0;have k1:=(K 1).trans c1;have k2:=(K 2).trans c2;have k3:=(K 3).trans c3;have k4:=(K 4).trans c4;have k5:=(K 5).trans c5;have q0:=r0.kept hg (rows_apart r0 r5 (by decide));have q1:=r1.kept hg (rows_apart r1 r5 (by decide));have q2:=r2.kept hg (rows_apart r2 r5 (by decide));have q3:=r3.kept hg (rows_apart r3 r5 (by decide));have hsz:=hg.size;refine⟨⟨by simp[World.setCell];omega,by go_simp,by go_simp,by go_simp,by go_simp,by go_simp,cell_same k5,fun i=>by have:=Z i;go_simp,ownsRow_setCell_below q0 (by simp) _,ownsRow_setCell_below q1 (by simp) _,ownsRow_setCell_below q2 (by simp) _,ownsRow_setCell_other q3 (by simp[Value.ownBlock]) _,ownsRow_setCell_below hown (by simp) _,ap⟩,?_⟩;exact(Fr.ofRow r5 (by omega) (by decide) hg hb).trans (fr_low w1 _)
theorem PD.alloc{w B P at' ah ar as' ct ch cr cs}(h:PD w B P at' ah ar as' ct ch cr cs)(o:Obj):PD (w.alloc o) B P at' ah ar as' ct ch cr cs:=
 have hb:=h.hb
 ⟨by simp;omega,(World.cell?_alloc_past _ _ _ hb).trans h.c0,(World.cell?_alloc_past _ _ _ hb).trans h.c1,(World.cell?_alloc_past _ _ _ hb).trans h.c2,(World.cell?_alloc_past _ _ _ hb).trans h.c3,(World.cell?_alloc_past _ _ _ hb).trans h.c4,(World.cell?_alloc_past _ _ _ hb).trans h.c5,
  fun i=>(World.frozen?_alloc_past _ _ _ hb).trans (h.fz i),h.r0.alloc o,h.r1.alloc o,h.r2.alloc o,h.r3.alloc o,h.r5.alloc o,h.ap⟩
theorem pickP_no{P:PS}{n:Int}{c:UInt8}(h:(c.toNat:Int)-49<0∨P.todo.length≤(c.toNat:Int)-49∨P.todo.getD ((c.toNat:Int)-49).toNat []=[]):P.pick n c=(P,46):=by
 rw[PS.pick];simp only[];rw[if_pos h]
set_option maxHeartbeats 1600000 in
set_option maxRecDepth 100000 in
theorem pick_out{P:PS}{N:Nat}(hok:P.Ok N)(n:Int)(c:UInt8)(w:World)(B:Nat)(hp:PM w B P)(hc:(c.toNat:Int)-49<0∨P.todo.length≤(c.toNat:Int)-49) :
  Calls Tryz.prog 49 #[.pointer (some ⟨B+1,0,none⟩),.int .i64 n,.int .u8 c.toNat] w fun e w'=>e=.returned (.int .u8 46)∧w'=w:=by
 obtain⟨at',ah,ar,as',ct,ch,cr,cs,h⟩:=hp;have c0:=h.c0;have hb:=h.hb;have h4:=hok.n4;clear h hok;obtain⟨nt,hnt⟩:∃nt,nt=P.todo.length:=⟨_,rfl⟩;rw[←hnt]at c0 hc h4;clear hnt;have h256:c.toNat<256:=c.toNat_lt;rcases hc with hc|hc
 ·go_enter Tryz.func49,Tryz.ntmps49
  go_wp2;go_ret;exact⟨rfl,rfl⟩
 ·have hc':¬((c.toNat:Int)-49<0):=by omega
  go_enter Tryz.func49,Tryz.ntmps49
  go_wp2;go_ret;exact⟨rfl,rfl⟩
set_option maxHeartbeats 1600000 in
set_option maxRecDepth 100000 in
theorem pick_in{P:PS}{N:Nat}(hok:P.Ok N)(hN:N≤100000)(hpr:P.pr.length≤100000)(hst:P.st.length≤1000)(n:Int)(c:UInt8)(t:Nat)(htc:(c.toNat:Int)=49+t)(s:List UInt8)(hs:P.todo[t]?=some s)(w:World)(B:Nat)(hp:PM w B P) :
  Calls Tryz.prog 49 #[.pointer (some ⟨B+1,0,none⟩),.int .i64 n,.int .u8 c.toNat] w fun e w'=>e=.returned (.int .u8 (P.pick n c).2.toNat)∧PM w' B (P.pick n c).1∧Fr B w w':=by
 have ht49:(c.toNat:Int)-49=t:=by omega
 have htl:t<P.todo.length:=(List.getElem?_eq_some_iff.1 hs).1;have hgd:P.todo.getD t []=s:=by rw[List.getD_eq_getElem?_getD,hs];rfl
 obtain⟨l,x,hat,htd,hsN,h0,h9⟩:=hok.at hs;have PMh:Hid (PM w B P):=hp;obtain⟨at',ah,ar,as',ct,ch,cr,cs,h⟩:=hp;obtain⟨g,rfl,hcell,_⟩:=rowAt h.r0 t (sv s) (by rw[List.getElem?_map,hs];rfl);have H:Hid (PD w B P (some ⟨g,0,none⟩) ah ar as' ct ch cr cs):=h;have c0:=h.c0;have hb:=h.hb;have h4:=hok.n4;have OK:Hid (P.Ok N):=hok;clear h hok;obtain⟨nt,hnt⟩:∃nt,nt=P.todo.length:=⟨_,rfl⟩;rw[←hnt]at c0 h4;have hlt:t<nt:=by omega
 by_cases hse:s=[]
 ·have HPK:Hid (P.pick n c=(P,46)):=pickP_no (.inr (.inr (by rw[ht49,Int.toNat_natCast,hgd];exact hse)));subst hse;rw[sv]at hcell;clear hnt htl hgd htd hsN hat hs htc
  go_enter Tryz.func49,Tryz.ntmps49
  go_wp2;go_ret;rw[HPK.out];exact⟨rfl,PMh.out,Fr.refl _ _⟩
 ·have hsh:=sh_of hse htd;have hin:¬((c.toNat:Int)-49<0∨P.todo.length≤(c.toNat:Int)-49∨P.todo.getD ((c.toNat:Int)-49).toNat []=[]):=by
   rw[ht49,Int.toNat_natCast,hgd];rintro(h|h|h)
   ·omega
   ·omega
   ·exact hse h
  have hheld:∀y∈P.held,y.length≤100000:=by
   intro y hy;obtain⟨i,hi⟩:=List.mem_iff_getElem?.1 hy;have hil:i<P.todo.length:=by rw[←OK.out.nh];exact(List.getElem?_eq_some_iff.1 hi).1
   obtain⟨k,hk,htd',hn'⟩:=OK.out.td i _ (List.getElem?_eq_getElem hil);rw[hi]at hk;have:=Option.some.inj hk;subst this;have:=htd'.held_len;simp at this;omega
  have HWT:Hid (P.waits t=waitsL P.held s):=by show P.waits t=_;rw[PS.waits,hgd]
  obtain⟨y,hy⟩:∃y:ByteArray,y=⟨s.toArray⟩:=⟨_,rfl⟩;have hyd:y.data.toList=s:=by rw[hy]
  rw[sv,←hy]at hcell;have hy0:0<y.size:=by
   rw[←len_eq,hyd];exact List.length_pos_iff.2 hse
  have hyne:=ne_empty y hy0;have HA:Hid (At P t s l x):=hat;have HTD:Hid (TD [] l.reverse s):=htd;have HSH:Hid (Sh l s):=hsh;have HIN:Hid (¬((c.toNat:Int)-49<0∨P.todo.length≤(c.toNat:Int)-49∨P.todo.getD ((c.toNat:Int)-49).toNat []=[])):=hin;have HHELD:Hid (∀y∈P.held,y.length≤100000):=hheld;have HS:Hid (P.todo[t]?=some s):=hs;have HSN:Hid (s.length≤N):=hsN;have HNT:Hid (nt=P.todo.length):=hnt;clear hy hyd hin hheld hat htd hsh hs hgd hnt htl hsN htc
  go_enter Tryz.func49,Tryz.ntmps49
  go_wp2_with fail
  refine(waits_any t s w B P _ ah ar as' ct ch cr cs H.out (by rw[OK.out.nh,←HNT.out];exact h4) HHELD.out HS.out (by have:=HSN.out;omega) HSH.out.two).mono ?_;rintro e w' ⟨rfl,rfl⟩;rw[←HWT.out]
  by_cases hwt:0≤P.waits t
  ·have HPK:Hid (P.pick n c=(P,46)):=by
    show P.pick n c=_;rw[PS.pick];simp only[];rw[if_neg HIN.out,ht49,Int.toNat_natCast,if_pos hwt]
   go_wp2;go_ret;rw[HPK.out];exact⟨rfl,PMh.out,Fr.refl _ _⟩
  ·have HPK:Hid (P.pick n c=({ (P.does t).1 with st:=(P.does t).1.st++[⟨n,t,(P.does t).2.1,(P.does t).2.2⟩] },(P.does t).2.1)):=by
    show P.pick n c=_;rw[PS.pick];simp only[];rw[if_neg HIN.out,ht49,Int.toNat_natCast,if_neg hwt]
   go_wp2_with fail
   refine(does_any OK.out hN hpr HA.out HSH.out HSN.out HTD.out h0 h9 _ B PMh.out).mono ?_;rintro e w2 ⟨rfl,hp2,hb2⟩;have hst2:=(does_pr HA.out HSH.out).2.1;have B2:Hid (Fr B w' w2):=hb2;clear hb2;obtain⟨Q,a,o,hD⟩:∃Q a o,P.does t=(Q,a,o):=⟨_,_,_,rfl⟩;have HPQ:Hid (P.pick n c=({ Q with st:=Q.st++[⟨n,t,a,o⟩] },a)):=by have:=HPK.out;rw[hD]at this;exact this
   rw[hD]at hp2 hst2 ⊢;clear HPK hD;simp only[]at hp2 hst2 ⊢;obtain⟨at2,ah2,ar2,as2,ct2,ch2,cr2,cs2,h2⟩:=hp2;have hsm:Q.st.length≤1000:=by rw[hst2];exact hst
   have c5:=h2.c5;have f5:=h2.fz 5;have hb2:=h2.hb;have H2:Hid (PD w2 B Q at2 ah2 ar2 as2 ct2 ch2 cr2 cs2):=h2;clear h2 hst2;obtain⟨m,hm⟩:∃m,m=Q.st.length:=⟨_,rfl⟩;have RO:Hid (w2.ownsRow (B+2) 136 4 (.slice as2 m cs2) m (Q.st.flatMap didV)):=by rw[hm];exact H2.out.r5
   rw[←hm]at c5 hsm;have HM:Hid (m=Q.st.length):=hm;clear hm;obtain⟨i0,hi,hz0,hz1,hz2⟩:=info_parts Tryz.infoDid
   go_wp2_with (at_builtin;refine wpList_append_lies _ (by rfl) (.tmp 50) (.tmp 56) 102 (by rfl) (B+2) 136 i0 _ 4 24 Tryz.underlying102 hi hz0 hz1 hz2 rfl (by decide) (.slice as2 m cs2) m (Q.st.flatMap didV) (by rfl) (RO.out.alloc _) ⟨w2.heap.size,0,none⟩ 1 1 [.int .i64 n,.int .i64 t,.int .u8 a.toNat,.int .u8 o.toNat] (by rfl) rfl ?hnews ?h1 (by decide) ?h63 ?hby ?hbase (w2.heap.size+1) ?hH ?next)
   case hnews=>exact World.news_of_block (heap_alloc_new _ _)
   case h1=>intro u hu;simp at hu;rcases hu with rfl|rfl|rfl|rfl<;>rfl
   case h63=>unfold maxLen;omega
   case hby=>omega
   case hbase=>simp;omega
   case hH=>simp
   case next=>
    intro g2 cap w3 hown hgrow hat hlt3;have hown':w3.ownsRow (B+2) 136 4 (.slice (some ⟨g2,0,none⟩) (Q.st++[(⟨n,t,a,o⟩:Did)]).length cap) (Q.st++[(⟨n,t,a,o⟩:Did)]).length ((Q.st++[(⟨n,t,a,o⟩:Did)]).flatMap didV):=by
     rw[List.flatMap_append,List.length_append,←HM.out];exact hown
    obtain⟨hp3,hb3⟩:=(H2.out.alloc _).steps (w1:=w3) (by rw[←HM.out];exact hgrow) hown';rw[List.length_append,←HM.out]at hp3 hb3;have hfar:=(hgrow.cell_far ⟨B+1,5,none⟩ (by simp;omega) (low_ne RO.out)).trans ((World.cell?_alloc_past _ _ _ hb2).trans c5);have hfarz:=(hgrow.frozen_far ⟨B+1,5,none⟩ (by simp;omega) (low_ne RO.out)).trans ((World.frozen?_alloc_past _ _ _ hb2).trans f5);have HP3:Hid _:=hp3;have HB3:Hid _:=hb3;clear hown hgrow hat hp3 hb3 hown' c5 f5;go_wp2;go_ret;rw[HPQ.out];refine⟨rfl,⟨_,_,_,_,_,_,_,_,HP3.out⟩,(B2.out.trans ((Fr.refl B w2).alloc (by omega) _)).trans HB3.out⟩
theorem ne_or{a b:Option Nat}(h:a=none∨a≠b):b=none∨b≠a:=by
 rcases h with rfl|h
 ·cases b with
  | none=>exact .inl rfl
  | some x=>exact .inr (by simp)
 ·exact .inr (fun e=>h e.symm)
theorem PD.moreTodo{w w1:World}{B:Nat}{P:PS}{at' ah ar as':Option Addr}{ct ch cr cs:Nat}(h:PD w B P at' ah ar as' ct ch cr cs){g cap:Nat}{l:List (List UInt8)}(hg:w.grownBy w1 (Value.slice at' P.todo.length ct).ownBlock)
  (hown:w1.ownsRow (B+2) 9 1 (.slice (some ⟨g,0,none⟩) l.length cap) l.length (l.map sv))(hat:(Value.slice at' P.todo.length ct).ownBlock=some g∨g=w.heap.size) :
  PD (w1.setCell ⟨B+1,0,none⟩ (.slice (some ⟨g,0,none⟩) l.length cap)) B { P with todo:=l } (some ⟨g,0,none⟩) ah ar as' cap ch cr cs∧Below B w (w1.setCell ⟨B+1,0,none⟩ (.slice (some ⟨g,0,none⟩) l.length cap)):=by
 obtain⟨hb,c0,c1,c2,c3,c4,c5,fz,r0,r1,r2,r3,r5,ap⟩:=h;have hne:some (B+1)≠(Value.slice at' P.todo.length ct).ownBlock:=fun e=>by have:=(r0.lt _ e.symm).1;omega
 have K:=fun i=>hg.cell_far ⟨B+1,i,none⟩ hb hne
 have Z:=fun i=>(hg.frozen_far ⟨B+1,i,none⟩ hb hne).trans (fz i)
 have k0:=(K 0).trans c0;have k1:=(K 1).trans c1;have k2:=(K 2).trans c2;have k3:=(K 3).trans c3;have k4:=(K 4).trans c4;have k5:=(K 5).trans c5;have hsz:=hg.size;have hown':=ownsRow_setCell_below (a:=⟨B+1,0,none⟩) hown (by simp) (.slice (some ⟨g,0,none⟩) l.length cap);have q3:=r3.kept hg (rows_apart r3 r0 (by decide));have apn:(Value.slice (some ⟨g,0,none⟩) l.length cap).ownBlock=none∨(Value.slice (some ⟨g,0,none⟩) l.length cap).ownBlock≠(Value.slice ah P.held.length ch).ownBlock:=by
  right;intro e;rcases hat with h|rfl
  ·rcases ap with a|a
   ·rw[h]at a;cases a
   ·exact a (h.trans e)
  ·have:w.heap.size<w.heap.size:=(r1.lt _ e.symm).2;omega
 refine⟨⟨by simp[World.setCell];omega,cell_same k0,by go_simp,by go_simp,by go_simp,by go_simp,by go_simp,fun i=>by have:=Z i;go_simp,hown',ownsRow_setCell_below (r1.kept hg (ne_or ap)) (by simp) _,ownsRow_setCell_below (r2.kept hg (rows_apart r2 r0 (by decide))) (by simp) _,ownsRow_setCell_other q3 (by simp[Value.ownBlock]) _,ownsRow_setCell_below (r5.kept hg (rows_apart r5 r0 (by decide))) (by simp) _,apn⟩,?_⟩;exact((Below.refl B w).grown hg (by omega) (fun k hk=>by have:=(r0.lt k hk).1;omega)).setCell (by simp) _
theorem PD.moreHeld{w w1:World}{B:Nat}{P:PS}{at' ah ar as':Option Addr}{ct ch cr cs:Nat}(h:PD w B P at' ah ar as' ct ch cr cs){g cap:Nat}{l:List (List UInt8)}(hg:w.grownBy w1 (Value.slice ah P.held.length ch).ownBlock)
  (hown:w1.ownsRow (B+2) 9 1 (.slice (some ⟨g,0,none⟩) l.length cap) l.length (l.map sv))(hat:(Value.slice ah P.held.length ch).ownBlock=some g∨g=w.heap.size) :
  PD (w1.setCell ⟨B+1,1,none⟩ (.slice (some ⟨g,0,none⟩) l.length cap)) B { P with held:=l } at' (some ⟨g,0,none⟩) ar as' ct cap cr cs∧Below B w (w1.setCell ⟨B+1,1,none⟩ (.slice (some ⟨g,0,none⟩) l.length cap)):=by
 obtain⟨hb,c0,c1,c2,c3,c4,c5,fz,r0,r1,r2,r3,r5,ap⟩:=h;have hne:some (B+1)≠(Value.slice ah P.held.length ch).ownBlock:=fun e=>by have:=(r1.lt _ e.symm).1;omega
 have K:=fun i=>hg.cell_far ⟨B+1,i,none⟩ hb hne
 have Z:=fun i=>(hg.frozen_far ⟨B+1,i,none⟩ hb hne).trans (fz i)
 have k0:=(K 0).trans c0;have k1:=(K 1).trans c1;have k2:=(K 2).trans c2;have k3:=(K 3).trans c3;have k4:=(K 4).trans c4;have k5:=(K 5).trans c5;have hsz:=hg.size;have hown':=ownsRow_setCell_below (a:=⟨B+1,1,none⟩) hown (by simp) (.slice (some ⟨g,0,none⟩) l.length cap);have q3:=r3.kept hg (rows_apart r3 r1 (by decide));have apn:(Value.slice (some ⟨g,0,none⟩) l.length cap).ownBlock=none∨(Value.slice (some ⟨g,0,none⟩) l.length cap).ownBlock≠(Value.slice at' P.todo.length ct).ownBlock:=by
  right;intro e;rcases hat with h|rfl
  ·rcases ne_or ap with a|a
   ·rw[h]at a;cases a
   ·exact a (h.trans e)
  ·have:w.heap.size<w.heap.size:=(r0.lt _ e.symm).2;omega
 refine⟨⟨by simp[World.setCell];omega,by go_simp,cell_same k1,by go_simp,by go_simp,by go_simp,by go_simp,fun i=>by have:=Z i;go_simp,ownsRow_setCell_below (r0.kept hg ap) (by simp) _,hown',ownsRow_setCell_below (r2.kept hg (rows_apart r2 r1 (by decide))) (by simp) _,ownsRow_setCell_other q3 (by simp[Value.ownBlock]) _,ownsRow_setCell_below (r5.kept hg (rows_apart r5 r1 (by decide))) (by simp) _,ne_or apn⟩,?_⟩;exact((Below.refl B w).grown hg (by omega) (fun k hk=>by have:=(r1.lt k hk).1;omega)).setCell (by simp) _
theorem PD.moreRegs{w w1:World}{B:Nat}{P:PS}{at' ah ar as':Option Addr}{ct ch cr cs:Nat}(h:PD w B P at' ah ar as' ct ch cr cs){g cap:Nat}{l:List Int}(hg:w.grownBy w1 (Value.slice ar P.regs.length cr).ownBlock)
  (hown:w1.ownsRow (B+2) 3 1 (.slice (some ⟨g,0,none⟩) l.length cap) l.length (l.map iv)) :
  PD (w1.setCell ⟨B+1,2,none⟩ (.slice (some ⟨g,0,none⟩) l.length cap)) B { P with regs:=l } at' ah (some ⟨g,0,none⟩) as' ct ch cap cs∧Below B w (w1.setCell ⟨B+1,2,none⟩ (.slice (some ⟨g,0,none⟩) l.length cap)):=by
 obtain⟨hb,c0,c1,c2,c3,c4,c5,fz,r0,r1,r2,r3,r5,ap⟩:=h;have hne:some (B+1)≠(Value.slice ar P.regs.length cr).ownBlock:=fun e=>by have:=(r2.lt _ e.symm).1;omega
 have K:=fun i=>hg.cell_far ⟨B+1,i,none⟩ hb hne
 have Z:=fun i=>(hg.frozen_far ⟨B+1,i,none⟩ hb hne).trans (fz i)
 have k0:=(K 0).trans c0;have k1:=(K 1).trans c1;have k2:=(K 2).trans c2;have k3:=(K 3).trans c3;have k4:=(K 4).trans c4;have k5:=(K 5).trans c5;have hsz:=hg.size;have hown':=ownsRow_setCell_below (a:=⟨B+1,2,none⟩) hown (by simp) (.slice (some ⟨g,0,none⟩) l.length cap);have q3:=r3.kept hg (.inr (fun e=>by have:B+2≤B:=(r2.lt _ e.symm).1;omega));refine⟨⟨by simp[World.setCell];omega,by go_simp,by go_simp,cell_same k2,by go_simp,by go_simp,by go_simp,fun i=>by have:=Z i;go_simp,ownsRow_setCell_below (r0.kept hg (rows_apart r0 r2 (by decide))) (by simp) _,ownsRow_setCell_below (r1.kept hg (rows_apart r1 r2 (by decide))) (by simp) _,hown',ownsRow_setCell_other q3 (by simp[Value.ownBlock]) _,ownsRow_setCell_below (r5.kept hg (rows_apart r5 r2 (by decide))) (by simp) _,ap⟩,?_⟩;exact((Below.refl B w).grown hg (by omega) (fun k hk=>by have:=(r2.lt k hk).1;omega)).setCell (by simp) _
theorem pickRef_any{P:PS}{N:Nat}(hok:P.Ok N)(hN:N≤100000)(hpr:P.pr.length≤100000)(hst:P.st.length≤1000)(n:Int)(c:UInt8)(w:World)(B:Nat)(hp:PM w B P) :
  Calls Tryz.prog 49 #[.pointer (some ⟨B+1,0,none⟩),.int .i64 n,.int .u8 c.toNat] w fun e w'=>e=.returned (.int .u8 (P.pick n c).2.toNat)∧PM w' B (P.pick n c).1∧Fr B w w':=by
 by_cases hc:(c.toNat:Int)-49<0∨P.todo.length≤(c.toNat:Int)-49
 ·rw[pickP_no (by rcases hc with h|h;exact .inl h;exact .inr (.inl h))];refine(pick_out hok n c w B hp hc).mono ?_;rintro e w' ⟨rfl,rfl⟩;exact⟨rfl,hp,Fr.refl _ _⟩
 ·obtain⟨t,ht⟩:∃t:Nat,(c.toNat:Int)=49+t:=⟨((c.toNat:Int)-49).toNat,by omega⟩;have hlt:t<P.todo.length:=by omega
  exact pick_in hok hN hpr hst n c t ht _ (List.getElem?_eq_getElem hlt) w B hp
theorem PS.Ok.mono{P:PS}{N M:Nat}(h:P.Ok N)(hNM:N≤M):P.Ok M:=
 ⟨h.n4,h.nh,h.nr,h.ng,fun t s hs=>by obtain⟨l,h1,h2,h3⟩:=h.td t s hs;exact⟨l,h1,h2,by omega⟩,h.rg,h.gg⟩
theorem pick_ok{P:PS}{N:Nat}(hok:P.Ok N)(n:Int)(c:UInt8):(P.pick n c).1.Ok (N+240)∧(P.pick n c).1.pr.length≤P.pr.length+1∧(P.pick n c).1.st.length≤P.st.length+1∧(P.pick n c).1.todo.length=P.todo.length:=by
 rw[PS.pick];simp only[]
 split
 ·exact⟨hok.mono (by omega),by simp,by simp,rfl⟩
 ·rename_i hc
  split
  ·exact⟨hok.mono (by omega),by simp,by simp,rfl⟩
  ·simp only[not_or]at hc;obtain⟨t,ht⟩:∃t:Nat,(c.toNat:Int)-49=t:=⟨((c.toNat:Int)-49).toNat,by omega⟩;have hlt:t<P.todo.length:=by omega
   have hs:P.todo[t]?=some P.todo[t]:=List.getElem?_eq_getElem hlt;rw[ht,Int.toNat_natCast]at hc ⊢;have hne:P.todo[t]≠[]:=by
    have:=hc.2.2;rw[List.getD_eq_getElem?_getD,hs]at this;exact this
   obtain⟨l,x,hat,htd,hsN,h0,h9⟩:=hok.at hs;have hsh:=sh_of hne htd;have h1:=does_ok hok hat hsh hsN h0 h9;have h2:=does_pr hat hsh;refine⟨⟨h1.n4,h1.nh,h1.nr,h1.ng,h1.td,h1.rg,h1.gg⟩,h2.1,by simp[h2.2.1],h2.2.2⟩
theorem Tryz.infoString:(Tryz.prog.info? 9).map (fun i=>(i.zero,i.size,i.bytes))=some (some (.string ⟨#[]⟩),1,16):=by kernel_rfl
theorem Tryz.infoInt:(Tryz.prog.info? 3).map (fun i=>(i.zero,i.size,i.bytes))=some (some (.int .i64 0),1,8):=by kernel_rfl
def PS.base(td:List (List UInt8)):PS:=⟨td,td.map fun _=>[],td.map fun _=>0,[0,0,0],[],[]⟩
def SplitAt(p:List UInt8)(k f:Nat)(td:List (List UInt8)):Prop:=
 (k≤p.length∧f≤k∧splitBar p=td++splitBar (p.drop f)∧124∉(p.drop f).take (k-f))∨(k=p.length+1∧splitBar p=td)
theorem SplitAt.cut{p:List UInt8}{k f:Nat}{td:List (List UInt8)}(h:SplitAt p k f td)(hk:k<p.length)(hc:p[k]?=some 124):SplitAt p (k+1) (k+1) (td++[(p.drop f).take (k-f)]):=by
 rcases h with⟨_,hf,hs,hn⟩|⟨h,_⟩
 ·left;refine⟨hk,Nat.le_refl _,?_,by simp⟩;have e:p.drop f=(p.drop f).take (k-f)++124::p.drop (k+1):=by
   conv=>lhs;rw[←List.take_append_drop (k-f) (p.drop f)]
   rw[List.drop_drop,show f+(k-f)=k by omega,drop_at hc]
  rw[hs]
  conv=>lhs;rw[e]
  rw[split_bar hn,List.append_assoc];rfl
 ·omega
theorem SplitAt.done{p:List UInt8}{k f:Nat}{td:List (List UInt8)}(h:SplitAt p k f td)(hk:k=p.length):SplitAt p (k+1) (k+1) (td++[(p.drop f).take (k-f)]):=by
 rcases h with⟨_,hf,hs,hn⟩|⟨h,_⟩
 ·right;refine⟨by omega,?_⟩;have e:(p.drop f).take (k-f)=p.drop f:=List.take_of_length_le (by simp;omega);rw[e]at hn ⊢;rw[hs,split_none hn]
 ·omega
theorem SplitAt.next{p:List UInt8}{k f:Nat}{td:List (List UInt8)}{c:UInt8}(h:SplitAt p k f td)(hk:k<p.length)(hc:p[k]?=some c)(hne:c≠124):SplitAt p (k+1) f td:=by
 rcases h with⟨_,hf,hs,hn⟩|⟨h,_⟩
 ·left;refine⟨hk,by omega,hs,?_⟩;have hlt:k-f<(p.drop f).length:=by simp;omega
  rw[show k+1-f=(k-f)+1 by omega,List.take_succ_eq_append_getElem hlt];have:(p.drop f)[k-f]=c:=by
   obtain⟨_,rfl⟩:=List.getElem?_eq_some_iff.1 hc;simp[show f+(k-f)=k by omega]
  rw[this];simp only[List.mem_append,List.mem_singleton,not_or];exact⟨hn,fun e=>hne e.symm⟩
 ·omega
theorem SplitAt.len{p:List UInt8}{k f:Nat}{td:List (List UInt8)}(h:SplitAt p k f td)(h4:(splitBar p).length≤4):td.length≤4:=by
 rcases h with⟨_,_,hs,_⟩|⟨_,hs⟩
 ·rw[hs,List.length_append]at h4;omega
 ·rw[hs]at h4;omega
theorem pd_base(w:World):PD ((w.alloc (.cells #[.int .i64 0,.int .i64 0,.int .i64 0] 3)).alloc (.cells #[.slice none 0 0,.slice none 0 0,.slice none 0 0,.slice (some ⟨w.heap.size,0,none⟩) 3 3,.string ⟨#[]⟩,.slice none 0 0] 104)) w.heap.size (PS.base []) none none none none 0 0 0 0:=by
 refine⟨by simp,?_,?_,?_,?_,?_,?_,?_,World.ownsRow_nil ..,World.ownsRow_nil ..,World.ownsRow_nil ..,?_,World.ownsRow_nil ..,.inl rfl⟩
 case refine_7=>exact fun i=>World.frozen?_alloc_at _ _ _ _ (by simp)
 case refine_8=>exact(World.ownsRow_lit w #[.int .i64 0,.int .i64 0,.int .i64 0] 3 (Nat.le_refl _) (by decide) rfl).alloc _
 all_goals (rw[World.cell?_alloc_at _ _ _ _ (by simp)];rfl)
set_option maxHeartbeats 1600000 in
set_option maxRecDepth 100000 in
theorem begin_any(s:ByteArray)(w:World)(hs:s.size≤240)(h4:(splitBar s.data.toList).length≤4) :
  Calls Tryz.prog 48 #[.string s] w fun e w'=>e=.returned (.pointer (some ⟨w.heap.size+1,0,none⟩))∧PM w' w.heap.size (PS.start s.data.toList)∧Below w.heap.size w w':=by
 obtain⟨i0,hi0,hz0,hz1,hz2⟩:=info_parts Tryz.infoString;obtain⟨j0,gi0,gz0,gz1,gz2⟩:=info_parts Tryz.infoInt;have H4:Hid ((splitBar s.data.toList).length≤4):=h4;clear h4;obtain⟨B,hB⟩:∃B,B=w.heap.size:=⟨_,rfl⟩
 go_enter Tryz.func48,Tryz.ntmps48
 go_wp2
 go_loopw [4,5] (fun fv i wr=>∃(k f:Nat) (td:List (List UInt8)),k≤s.size+1∧f≤k∧fv=.int .i64 f∧i=.int .i64 k∧PM wr w.heap.size (PS.base td)∧Below w.heap.size w wr∧SplitAt s.data.toList k f td) (fun _ i _=>s.size+1-(intOf i).toNat)
 case atStart=>exact⟨0,0,[],by omega,Nat.le_refl _,rfl,rfl,⟨_,_,_,_,_,_,_,_,pd_base w⟩,((Below.refl _ w).alloc (Nat.le_refl _) _).alloc (by simp) _,.inl ⟨by omega,Nat.le_refl _,rfl,by simp⟩⟩
 case round=>
  obtain⟨k,f,td,hk,hf,rfl,rfl,hp,hb,hsp⟩:=hrel;have HB:Hid (Below w.heap.size w wr):=hb;have HSP:Hid (SplitAt s.data.toList k f td):=hsp;have htd:td.length≤4:=hsp.len H4.out;clear hsp hb;obtain⟨at',ah,ar,as',ct,ch,cr,cs,h⟩:=hp;have H:Hid (PD wr w.heap.size (PS.base td) at' ah ar as' ct ch cr cs):=h;have c0:=h.c0;have hbb:=h.hb;have z00:=h.fz 0;obtain⟨n,hn⟩:∃n,n=td.length:=⟨_,rfl⟩;have R0:Hid (wr.ownsRow (w.heap.size+2) 9 1 (.slice at' n ct) n (td.map sv)):=by rw[hn];exact h.r0
  have c0':wr.cell? ⟨w.heap.size+1,0,none⟩=some (.slice at' n ct):=by rw[hn];exact c0
  have n0:some (w.heap.size+1)≠(Value.slice at' n ct).ownBlock:=low_ne R0.out;have HN:Hid (n=td.length):=hn;have hn4:n≤4:=by omega
  clear h c0 hn htd hB;have hblk:∀o,(wr.alloc o).drew.heap[wr.heap.size]?=some o:=fun o=>heap_alloc_new wr o
  by_cases hk0:k=s.size+1
  ·subst hk0;have HT:Hid (splitBar s.data.toList=td):=by
    rcases HSP.out with⟨h,_⟩|⟨_,h⟩
    ·rw[len_eq]at h;omega
    ·exact h
   go_wp2;go_ret;refine⟨rfl,⟨at',ah,ar,as',ct,ch,cr,cs,?_⟩,HB.out⟩;have:=H.out;rw[←HT.out]at this;exact this
  ·by_cases hk1:k=s.size
   ·obtain⟨seg,hseg⟩:∃seg,seg=s.extract f k:=⟨_,rfl⟩;obtain⟨sg,hsg⟩:∃sg,sg=(s.data.toList.drop f).take (k-f):=⟨_,rfl⟩;have HNX:Hid (SplitAt s.data.toList (k+1) (k+1) (td++[sg])):=by rw[hsg];exact HSP.out.done (by rw[len_eq];exact hk1)
    have HSV:Hid (Value.string seg=sv sg):=sv_eq (by rw[hseg,hsg,ByteArray.data_extract,Array.toList_extract]);clear hsg;have hkk:k≤s.size:=by omega
    have hke:((k:Int)==(s.size:Int))=true:=by rw[hk1];simp
    clear hk1 hk0;have hfs:s.extract f k=seg:=hseg.symm;clear hseg;go_wp2
    go_region_law ((refine step_append_lies _ (by rfl) _ _ _ (by rfl) (w.heap.size+2) 9 i0 _ 1 16 Tryz.underlying101 hi0 hz0 hz1 hz2 rfl (by omega) (.slice at' n ct) n (td.map sv) (by rfl) ((R0.out.alloc _).drew) ⟨wr.heap.size,0,none⟩ 1 1 [.string seg] (by rfl) (by rfl) (World.news_of_block (cs:=#[.string seg]) (t:=9) (fr:=(0,0)) (hblk _)) (by simp[Value.oneCell']) (by omega) (by unfold maxLen;omega) (by omega) (by simp;omega) (wr.heap.size+1) (by simp) ?_;intro g1 cap1 w1 hown1 hgrow1 hat1 hlt1;have k0:=(hgrow1.cell_far ⟨w.heap.size+1,0,none⟩ (by simp;omega) n0).trans ((H.out.alloc _).drewN 1).c0;have z0:=(hgrow1.frozen_far ⟨w.heap.size+1,0,none⟩ (by simp;omega) n0).trans (((H.out.alloc _).drewN 1).fz 0)))
    all_goals
     have hown1':w1.ownsRow (w.heap.size+2) 9 1 (.slice (some ⟨g1,0,none⟩) (td++[sg]).length cap1) (td++[sg]).length ((td++[sg]).map sv):=by
      rw[List.map_append,List.length_append,←HN.out,List.map_singleton,←HSV.out];exact hown1
     obtain⟨hp1,hb1⟩:=((H.out.alloc (.cells #[.string seg] 9)).drewN 1).moreTodo (w1:=w1) (by have:=hgrow1;rw[HN.out]at this;exact this) hown1' (by have:=hat1;rw[HN.out]at this;simpa[PS.base]using this);rw[List.length_append,←HN.out]at hp1 hb1;clear hown1' hown1 hgrow1 hat1;simp only[List.length_singleton]at hp1 hb1;obtain⟨W1,hW1⟩:∃W1,W1=w1.setCell ⟨w.heap.size+1,0,none⟩ (.slice (some ⟨g1,0,none⟩) (n+1) cap1):=⟨_,rfl⟩;rw[←hW1]at hp1 hb1 ⊢;have HB1:Hid (Below w.heap.size w W1):=(HB.out.trans (((Below.refl _ wr).alloc (by omega) _).drew)).trans hb1;have c1:W1.cell? ⟨w.heap.size+1,1,none⟩=some (.slice ah n ch):=by have:=hp1.c1;simp only[PS.base,List.length_map]at this;rw[HN.out];exact this
     have z1:=hp1.fz 1;have c2:W1.cell? ⟨w.heap.size+1,2,none⟩=some (.slice ar n cr):=by have:=hp1.c2;simp only[PS.base,List.length_map]at this;rw[HN.out];exact this
     have z2:=hp1.fz 2;have R1:Hid (W1.ownsRow (w.heap.size+2) 9 1 (.slice ah n ch) n ((td.map fun _=>([]:List UInt8)).map sv)):=by have:=hp1.r1;simp only[PS.base,List.length_map]at this;rw[HN.out];exact this
     have hbb1:=hp1.hb;have HP1:Hid (PD W1 w.heap.size { PS.base td with todo:=td++[sg] } (some ⟨g1,0,none⟩) ah ar as' cap1 ch cr cs):=hp1;clear hp1 hb1 hW1 k0 z0 hlt1
     go_wp2_with (at_builtin;refine wpList_append_lies _ (by rfl) (.tmp 42) (.tmp 43) 101 (by rfl) (w.heap.size+2) 9 i0 _ 1 16 Tryz.underlying101 hi0 hz0 hz1 hz2 rfl (by decide) (.slice ah n ch) n ((td.map fun _=>([]:List UInt8)).map sv) (by rfl) (R1.out.alloc _) ⟨W1.heap.size,0,none⟩ 1 1 [.string ⟨#[]⟩] (by rfl) rfl (World.news_of_block (heap_alloc_new _ _)) (by intro u hu;simp at hu;subst hu;rfl) (by decide) (by unfold maxLen;omega) (by omega) (by simp;omega) (W1.heap.size+1) (by simp) ?next)
     case next=>
      intro g2 cap2 w2 hown2 hgrow2 hat2 hlt2;have k1:=(hgrow2.cell_far ⟨w.heap.size+1,1,none⟩ (by simp;omega) (low_ne R1.out)).trans ((World.cell?_alloc_past _ _ _ hbb1).trans c1);have y1:=(hgrow2.frozen_far ⟨w.heap.size+1,1,none⟩ (by simp;omega) (low_ne R1.out)).trans ((World.frozen?_alloc_past _ _ _ hbb1).trans z1);have k2:=(hgrow2.cell_far ⟨w.heap.size+1,2,none⟩ (by simp;omega) (low_ne R1.out)).trans ((World.cell?_alloc_past _ _ _ hbb1).trans c2);have y2:=(hgrow2.frozen_far ⟨w.heap.size+1,2,none⟩ (by simp;omega) (low_ne R1.out)).trans ((World.frozen?_alloc_past _ _ _ hbb1).trans z2);have hsz2:=hgrow2.size;have hown2':w2.ownsRow (w.heap.size+2) 9 1 (.slice (some ⟨g2,0,none⟩) ((td.map fun _=>([]:List UInt8))++[[]]).length cap2) ((td.map fun _=>([]:List UInt8))++[[]]).length (((td.map fun _=>([]:List UInt8))++[[]]).map sv):=by
       rw[List.map_append,List.length_append,List.length_map,←HN.out,List.map_map];exact hown2
      obtain⟨hp2,hb2⟩:=(HP1.out.alloc (.cells #[.string ⟨#[]⟩] 9)).moreHeld (w1:=w2) (by have:=hgrow2;rw[HN.out]at this;simpa[PS.base]using this) hown2' (by have:=hat2;rw[HN.out]at this;simpa[PS.base]using this);rw[List.length_append,List.length_map,←HN.out]at hp2 hb2;clear hown2' hown2 hgrow2 hat2;simp only[List.length_singleton]at hp2 hb2;have HB2:Hid (Below w.heap.size w (w2.setCell ⟨w.heap.size+1,1,none⟩ (.slice (some ⟨g2,0,none⟩) (n+1) cap2))):=(HB1.out.trans ((Below.refl _ W1).alloc (by omega) _)).trans hb2;have HP2:Hid (PD (w2.setCell ⟨w.heap.size+1,1,none⟩ (.slice (some ⟨g2,0,none⟩) (n+1) cap2)) w.heap.size { PS.base td with todo:=td++[sg],held:=(td.map fun _=>([]:List UInt8))++[[]] } (some ⟨g1,0,none⟩) (some ⟨g2,0,none⟩) ar as' cap1 cap2 cr cs):=hp2;clear hp2 hb2 hlt2;obtain⟨W2,hW2⟩:∃W2,W2=w2.setCell ⟨w.heap.size+1,1,none⟩ (.slice (some ⟨g2,0,none⟩) (n+1) cap2):=⟨_,rfl⟩;have hW2s:W2.heap.size=w2.heap.size:=by rw[hW2];simp
      rw[←hW2]at HP2 HB2;have HW2:Hid (W2=w2.setCell ⟨w.heap.size+1,1,none⟩ (.slice (some ⟨g2,0,none⟩) (n+1) cap2)):=hW2;have c3:W2.cell? ⟨w.heap.size+1,2,none⟩=some (.slice ar n cr):=by have:=HP2.out.c2;simp only[PS.base,List.length_map]at this;rw[HN.out];exact this
      have z3:=HP2.out.fz 2;have hbb2:=HP2.out.hb;have R2:Hid (W2.ownsRow (w.heap.size+2) 3 1 (.slice ar n cr) n ((td.map fun _=>(0:Int)).map iv)):=by have:=HP2.out.r2;simp only[PS.base,List.length_map]at this;rw[HN.out];exact this
      clear hW2;have hsz:w.heap.size+1<w2.heap.size:=by omega
      go_wp2_with (at_builtin;rw[←HW2.out];refine wpList_append_lies _ (by rfl) (.tmp 51) (.tmp 52) 30 (by rfl) (w.heap.size+2) 3 j0 _ 1 8 Tryz.underlying30 gi0 gz0 gz1 gz2 rfl (by decide) (.slice ar n cr) n ((td.map fun _=>(0:Int)).map iv) (by rfl) (R2.out.alloc _) ⟨w2.heap.size,0,none⟩ 1 1 [.int .i64 0] (by rfl) rfl (by rw[←hW2s];exact World.news_of_block (heap_alloc_new _ _)) (by intro u hu;simp at hu;subst hu;rfl) (by decide) (by unfold maxLen;omega) (by omega) (by simp;omega) (W2.heap.size+1) (by simp) ?next)
      case next=>
       intro g3 cap3 w3 hown3 hgrow3 hat3 hlt3;have k3:=(hgrow3.cell_far ⟨w.heap.size+1,2,none⟩ (by simp;omega) (low_ne R2.out)).trans ((World.cell?_alloc_past _ _ _ hbb2).trans c3);have y3:=(hgrow3.frozen_far ⟨w.heap.size+1,2,none⟩ (by simp;omega) (low_ne R2.out)).trans ((World.frozen?_alloc_past _ _ _ hbb2).trans z3);have hown3':w3.ownsRow (w.heap.size+2) 3 1 (.slice (some ⟨g3,0,none⟩) ((td.map fun _=>(0:Int))++[0]).length cap3) ((td.map fun _=>(0:Int))++[0]).length (((td.map fun _=>(0:Int))++[0]).map iv):=by
        rw[List.map_append,List.length_append,List.length_map,←HN.out,List.map_map];exact hown3
       obtain⟨hp3,hb3⟩:=(HP2.out.alloc (.cells #[.int .i64 0] 3)).moreRegs (w1:=w3) (by have:=hgrow3;rw[HN.out]at this;simpa[PS.base]using this) hown3';rw[List.length_append,List.length_map,←HN.out]at hp3 hb3;clear hown3' hown3 hgrow3 hat3;simp only[List.length_singleton]at hp3 hb3;have HB3:Hid (Below w.heap.size w (w3.setCell ⟨w.heap.size+1,2,none⟩ (.slice (some ⟨g3,0,none⟩) (n+1) cap3))):=(HB2.out.trans ((Below.refl _ W2).alloc (by omega) _)).trans hb3;have HP3:Hid (PM (w3.setCell ⟨w.heap.size+1,2,none⟩ (.slice (some ⟨g3,0,none⟩) (n+1) cap3)) w.heap.size (PS.base (td++[sg]))):=by
        have e:PS.base (td++[sg])={ PS.base td with todo:=td++[sg],held:=(td.map fun _=>([]:List UInt8))++[[]],regs:=(td.map fun _=>(0:Int))++[0] }:=by simp[PS.base]
        show PM _ _ _;rw[e];exact⟨_,_,_,_,_,_,_,_,hp3⟩
       clear hp3 hb3 hlt3 c3 z3 k2 y2;go_wp2
       go_roundw
       case rel=>exact⟨k+1,k+1,td++[sg],by omega,by omega,by go_num,by go_num,HP3.out,HB3.out,HNX.out⟩
       case measure=>simp[intOf];omega
   ·have hlt:k<s.size:=by omega
    by_cases hc:(s[k].toNat:Int)=124
    ·have hc124:s[k]=124:=u8t (b:=124) (by rw[hc];rfl);obtain⟨seg,hseg⟩:∃seg,seg=s.extract f k:=⟨_,rfl⟩;obtain⟨sg,hsg⟩:∃sg,sg=(s.data.toList.drop f).take (k-f):=⟨_,rfl⟩;have HNX:Hid (SplitAt s.data.toList (k+1) (k+1) (td++[sg])):=by rw[hsg];exact HSP.out.cut (by rw[len_eq];exact hlt) (by rw[byteAt s k hlt,hc124])
     have HSV:Hid (Value.string seg=sv sg):=sv_eq (by rw[hseg,hsg,ByteArray.data_extract,Array.toList_extract]);clear hsg hc124;have hkk:k≤s.size:=by omega
     have hke:((k:Int)==(s.size:Int))=false:=by simp;omega
     clear hk1 hk0;have hfs:s.extract f k=seg:=hseg.symm;clear hseg;go_wp2
     go_region_law ((refine step_append_lies _ (by rfl) _ _ _ (by rfl) (w.heap.size+2) 9 i0 _ 1 16 Tryz.underlying101 hi0 hz0 hz1 hz2 rfl (by omega) (.slice at' n ct) n (td.map sv) (by rfl) ((R0.out.alloc _).drew) ⟨wr.heap.size,0,none⟩ 1 1 [.string seg] (by rfl) (by rfl) (World.news_of_block (cs:=#[.string seg]) (t:=9) (fr:=(0,0)) (hblk _)) (by simp[Value.oneCell']) (by omega) (by unfold maxLen;omega) (by omega) (by simp;omega) (wr.heap.size+1) (by simp) ?_;intro g1 cap1 w1 hown1 hgrow1 hat1 hlt1;have k0:=(hgrow1.cell_far ⟨w.heap.size+1,0,none⟩ (by simp;omega) n0).trans ((H.out.alloc _).drewN 1).c0;have z0:=(hgrow1.frozen_far ⟨w.heap.size+1,0,none⟩ (by simp;omega) n0).trans (((H.out.alloc _).drewN 1).fz 0)))
     all_goals
      have hown1':w1.ownsRow (w.heap.size+2) 9 1 (.slice (some ⟨g1,0,none⟩) (td++[sg]).length cap1) (td++[sg]).length ((td++[sg]).map sv):=by
       rw[List.map_append,List.length_append,←HN.out,List.map_singleton,←HSV.out];exact hown1
      obtain⟨hp1,hb1⟩:=((H.out.alloc (.cells #[.string seg] 9)).drewN 1).moreTodo (w1:=w1) (by have:=hgrow1;rw[HN.out]at this;exact this) hown1' (by have:=hat1;rw[HN.out]at this;simpa[PS.base]using this);rw[List.length_append,←HN.out]at hp1 hb1;clear hown1' hown1 hgrow1 hat1;simp only[List.length_singleton]at hp1 hb1;obtain⟨W1,hW1⟩:∃W1,W1=w1.setCell ⟨w.heap.size+1,0,none⟩ (.slice (some ⟨g1,0,none⟩) (n+1) cap1):=⟨_,rfl⟩;rw[←hW1]at hp1 hb1 ⊢;have HB1:Hid (Below w.heap.size w W1):=(HB.out.trans (((Below.refl _ wr).alloc (by omega) _).drew)).trans hb1;have c1:W1.cell? ⟨w.heap.size+1,1,none⟩=some (.slice ah n ch):=by have:=hp1.c1;simp only[PS.base,List.length_map]at this;rw[HN.out];exact this
      have z1:=hp1.fz 1;have c2:W1.cell? ⟨w.heap.size+1,2,none⟩=some (.slice ar n cr):=by have:=hp1.c2;simp only[PS.base,List.length_map]at this;rw[HN.out];exact this
      have z2:=hp1.fz 2;have R1:Hid (W1.ownsRow (w.heap.size+2) 9 1 (.slice ah n ch) n ((td.map fun _=>([]:List UInt8)).map sv)):=by have:=hp1.r1;simp only[PS.base,List.length_map]at this;rw[HN.out];exact this
      have hbb1:=hp1.hb;have HP1:Hid (PD W1 w.heap.size { PS.base td with todo:=td++[sg] } (some ⟨g1,0,none⟩) ah ar as' cap1 ch cr cs):=hp1;clear hp1 hb1 hW1 k0 z0 hlt1
      go_wp2_with (at_builtin;refine wpList_append_lies _ (by rfl) (.tmp 42) (.tmp 43) 101 (by rfl) (w.heap.size+2) 9 i0 _ 1 16 Tryz.underlying101 hi0 hz0 hz1 hz2 rfl (by decide) (.slice ah n ch) n ((td.map fun _=>([]:List UInt8)).map sv) (by rfl) (R1.out.alloc _) ⟨W1.heap.size,0,none⟩ 1 1 [.string ⟨#[]⟩] (by rfl) rfl (World.news_of_block (heap_alloc_new _ _)) (by intro u hu;simp at hu;subst hu;rfl) (by decide) (by unfold maxLen;omega) (by omega) (by simp;omega) (W1.heap.size+1) (by simp) ?next)
      case next=>
       intro g2 cap2 w2 hown2 hgrow2 hat2 hlt2;have k1:=(hgrow2.cell_far ⟨w.heap.size+1,1,none⟩ (by simp;omega) (low_ne R1.out)).trans ((World.cell?_alloc_past _ _ _ hbb1).trans c1);have y1:=(hgrow2.frozen_far ⟨w.heap.size+1,1,none⟩ (by simp;omega) (low_ne R1.out)).trans ((World.frozen?_alloc_past _ _ _ hbb1).trans z1);have k2:=(hgrow2.cell_far ⟨w.heap.size+1,2,none⟩ (by simp;omega) (low_ne R1.out)).trans ((World.cell?_alloc_past _ _ _ hbb1).trans c2);have y2:=(hgrow2.frozen_far ⟨w.heap.size+1,2,none⟩ (by simp;omega) (low_ne R1.out)).trans ((World.frozen?_alloc_past _ _ _ hbb1).trans z2);have hsz2:=hgrow2.size;have hown2':w2.ownsRow (w.heap.size+2) 9 1 (.slice (some ⟨g2,0,none⟩) ((td.map fun _=>([]:List UInt8))++[[]]).length cap2) ((td.map fun _=>([]:List UInt8))++[[]]).length (((td.map fun _=>([]:List UInt8))++[[]]).map sv):=by
        rw[List.map_append,List.length_append,List.length_map,←HN.out,List.map_map];exact hown2
       obtain⟨hp2,hb2⟩:=(HP1.out.alloc (.cells #[.string ⟨#[]⟩] 9)).moreHeld (w1:=w2) (by have:=hgrow2;rw[HN.out]at this;simpa[PS.base]using this) hown2' (by have:=hat2;rw[HN.out]at this;simpa[PS.base]using this);rw[List.length_append,List.length_map,←HN.out]at hp2 hb2;clear hown2' hown2 hgrow2 hat2;simp only[List.length_singleton]at hp2 hb2;have HB2:Hid (Below w.heap.size w (w2.setCell ⟨w.heap.size+1,1,none⟩ (.slice (some ⟨g2,0,none⟩) (n+1) cap2))):=(HB1.out.trans ((Below.refl _ W1).alloc (by omega) _)).trans hb2;have HP2:Hid (PD (w2.setCell ⟨w.heap.size+1,1,none⟩ (.slice (some ⟨g2,0,none⟩) (n+1) cap2)) w.heap.size { PS.base td with todo:=td++[sg],held:=(td.map fun _=>([]:List UInt8))++[[]] } (some ⟨g1,0,none⟩) (some ⟨g2,0,none⟩) ar as' cap1 cap2 cr cs):=hp2;clear hp2 hb2 hlt2;obtain⟨W2,hW2⟩:∃W2,W2=w2.setCell ⟨w.heap.size+1,1,none⟩ (.slice (some ⟨g2,0,none⟩) (n+1) cap2):=⟨_,rfl⟩;have hW2s:W2.heap.size=w2.heap.size:=by rw[hW2];simp
       rw[←hW2]at HP2 HB2;have HW2:Hid (W2=w2.setCell ⟨w.heap.size+1,1,none⟩ (.slice (some ⟨g2,0,none⟩) (n+1) cap2)):=hW2;have c3:W2.cell? ⟨w.heap.size+1,2,none⟩=some (.slice ar n cr):=by have:=HP2.out.c2;simp only[PS.base,List.length_map]at this;rw[HN.out];exact this
       have z3:=HP2.out.fz 2;have hbb2:=HP2.out.hb;have R2:Hid (W2.ownsRow (w.heap.size+2) 3 1 (.slice ar n cr) n ((td.map fun _=>(0:Int)).map iv)):=by have:=HP2.out.r2;simp only[PS.base,List.length_map]at this;rw[HN.out];exact this
       clear hW2;have hsz:w.heap.size+1<w2.heap.size:=by omega
       go_wp2_with (at_builtin;rw[←HW2.out];refine wpList_append_lies _ (by rfl) (.tmp 51) (.tmp 52) 30 (by rfl) (w.heap.size+2) 3 j0 _ 1 8 Tryz.underlying30 gi0 gz0 gz1 gz2 rfl (by decide) (.slice ar n cr) n ((td.map fun _=>(0:Int)).map iv) (by rfl) (R2.out.alloc _) ⟨w2.heap.size,0,none⟩ 1 1 [.int .i64 0] (by rfl) rfl (by rw[←hW2s];exact World.news_of_block (heap_alloc_new _ _)) (by intro u hu;simp at hu;subst hu;rfl) (by decide) (by unfold maxLen;omega) (by omega) (by simp;omega) (W2.heap.size+1) (by simp) ?next)
       case next=>
        intro g3 cap3 w3 hown3 hgrow3 hat3 hlt3;have k3:=(hgrow3.cell_far ⟨w.heap.size+1,2,none⟩ (by simp;omega) (low_ne R2.out)).trans ((World.cell?_alloc_past _ _ _ hbb2).trans c3);have y3:=(hgrow3.frozen_far ⟨w.heap.size+1,2,none⟩ (by simp;omega) (low_ne R2.out)).trans ((World.frozen?_alloc_past _ _ _ hbb2).trans z3);have hown3':w3.ownsRow (w.heap.size+2) 3 1 (.slice (some ⟨g3,0,none⟩) ((td.map fun _=>(0:Int))++[0]).length cap3) ((td.map fun _=>(0:Int))++[0]).length (((td.map fun _=>(0:Int))++[0]).map iv):=by
         rw[List.map_append,List.length_append,List.length_map,←HN.out,List.map_map];exact hown3
        obtain⟨hp3,hb3⟩:=(HP2.out.alloc (.cells #[.int .i64 0] 3)).moreRegs (w1:=w3) (by have:=hgrow3;rw[HN.out]at this;simpa[PS.base]using this) hown3';rw[List.length_append,List.length_map,←HN.out]at hp3 hb3;clear hown3' hown3 hgrow3 hat3;simp only[List.length_singleton]at hp3 hb3;have HB3:Hid (Below w.heap.size w (w3.setCell ⟨w.heap.size+1,2,none⟩ (.slice (some ⟨g3,0,none⟩) (n+1) cap3))):=(HB2.out.trans ((Below.refl _ W2).alloc (by omega) _)).trans hb3;have HP3:Hid (PM (w3.setCell ⟨w.heap.size+1,2,none⟩ (.slice (some ⟨g3,0,none⟩) (n+1) cap3)) w.heap.size (PS.base (td++[sg]))):=by
         have e:PS.base (td++[sg])={ PS.base td with todo:=td++[sg],held:=(td.map fun _=>([]:List UInt8))++[[]],regs:=(td.map fun _=>(0:Int))++[0] }:=by simp[PS.base]
         show PM _ _ _;rw[e];exact⟨_,_,_,_,_,_,_,_,hp3⟩
        clear hp3 hb3 hlt3 c3 z3 k2 y2;go_wp2
        go_roundw
        case rel=>exact⟨k+1,k+1,td++[sg],by omega,by omega,by go_num,by go_num,HP3.out,HB3.out,HNX.out⟩
        case measure=>simp[intOf];omega
    ·have hc':((s[k].toNat:Int)==124)=false:=by simpa using hc
     have HNX:Hid (SplitAt s.data.toList (k+1) f td):=HSP.out.next (by rw[len_eq];exact hlt) (byteAt s k hlt) (u8f (b:=124) hc');go_wp2
     go_roundw
     case rel=>exact⟨k+1,f,td,by omega,by omega,rfl,by go_num,⟨_,_,_,_,_,_,_,_,H.out⟩,HB.out,HNX.out⟩
     case measure=>simp[intOf];omega
def PS.waitOk(P:PS)(set t:Nat):Bool:=!set.testBit t||(decide (0≤P.waits t)&&set.testBit (P.waits t).toNat)
def PS.waiting(P:PS)(set:Nat):Bool:=(List.range P.todo.length).all fun t=>P.waitOk set t
theorem held_small{P:PS}{N:Nat}(hok:P.Ok N)(hN:N≤100000):∀y∈P.held,y.length≤100000:=by
 intro y hy;obtain⟨i,hi⟩:=List.mem_iff_getElem?.1 hy;have hil:i<P.todo.length:=by rw[←hok.nh];exact(List.getElem?_eq_some_iff.1 hi).1
 obtain⟨k,hk,htd',hn'⟩:=hok.td i _ (List.getElem?_eq_getElem hil);rw[hi]at hk;have:=Option.some.inj hk;subst this;have:=htd'.held_len;simp at this;omega
theorem waitsRef_any{P:PS}{N:Nat}(hok:P.Ok N)(hN:N≤100000)(t:Nat)(ht:t<P.todo.length)(w:World)(B:Nat)(hp:PM w B P) :
  Calls Tryz.prog 72 #[.pointer (some ⟨B+1,0,none⟩),.int .i64 t] w fun e w'=>e=.returned (.int .i64 (P.waits t))∧w'=w:=by
 obtain⟨at',ah,ar,as',ct,ch,cr,cs,h⟩:=hp;have hs:P.todo[t]?=some P.todo[t]:=List.getElem?_eq_getElem ht;obtain⟨l,x,hat,htd,hsN,h0,h9⟩:=hok.at hs;have e:P.waits t=waitsL P.held P.todo[t]:=by rw[PS.waits,List.getD_eq_getElem?_getD,hs];rfl
 rw[e];refine waits_any t _ w B P at' ah ar as' ct ch cr cs h (by rw[hok.nh];exact hok.n4) (held_small hok hN) hs (by omega) ?_
 by_cases hse:P.todo[t]=[]
 ·rw[hse];simp
 ·exact(sh_of hse htd).two
theorem holder_range(held:List (List UInt8))(l:UInt8):holderP held l=-1∨∃j:Nat,j<held.length∧holderP held l=j:=by
 unfold holderP;cases h:held.findIdx? (fun h=>inU h l)with
 | none=>exact .inl rfl
 | some j=>
  rw[List.findIdx?_eq_some_iff_getElem]at h;exact .inr ⟨j,h.1,rfl⟩
theorem waits_range{P:PS}{N:Nat}(hok:P.Ok N)(t:Nat):P.waits t=-1∨∃j:Nat,j<P.todo.length∧P.waits t=j:=by
 rw[PS.waits,←hok.nh];unfold waitsL
 split
 ·split
  ·exact holder_range _ _
  ·exact .inl rfl
 ·exact .inl rfl
theorem bit_and(set k:Nat)(hs:set<16)(hk:k<4):(bits .and .i64 ((set:Int) / 2 ^ k) 1==0)=!set.testBit k:=by
 have h1:set=0∨set=1∨set=2∨set=3∨set=4∨set=5∨set=6∨set=7∨set=8∨set=9∨set=10∨set=11∨set=12∨set=13∨set=14∨set=15:=by omega
 have h2:k=0∨k=1∨k=2∨k=3:=by omega
 rcases h1 with rfl|rfl|rfl|rfl|rfl|rfl|rfl|rfl|rfl|rfl|rfl|rfl|rfl|rfl|rfl|rfl<;>rcases h2 with rfl|rfl|rfl|rfl<;>decide
theorem waiting_no{P:PS}{set k:Nat}(hk:k<P.todo.length)(h:P.waitOk set k=false):P.waiting set=false:=by
 rw[PS.waiting,List.all_eq_false];exact⟨k,by simpa using hk,by simp[h]⟩
set_option maxHeartbeats 800000 in
theorem waiting_any{P:PS}{N:Nat}(hok:P.Ok N)(hN:N≤100000)(set:Nat)(hset:set<16)(w:World)(B:Nat)(hp:PM w B P) :
  Calls Tryz.prog 75 #[.pointer (some ⟨B+1,0,none⟩),.int .i64 set] w fun e w'=>e=.returned (.bool (P.waiting set))∧w'=w:=by
 have HPM:Hid (PM w B P):=hp;obtain⟨at',ah,ar,as',ct,ch,cr,cs,h⟩:=hp;have c0:=h.c0;have hb:=h.hb;have h4:=hok.n4;have OK:Hid (P.Ok N):=hok;clear h hok;obtain⟨n,hn⟩:∃n,n=P.todo.length:=⟨_,rfl⟩;rw[←hn]at c0 h4;have HN:Hid (n=P.todo.length):=hn;clear hn
 go_enter Tryz.func75,Tryz.ntmps75
 go_wp2
 go_loop [5] (fun i=>∃k:Nat,k≤n∧i=.int .i64 k∧∀t,t<k→P.waitOk set t=true) (fun i=>n-(intOf i).toNat)
 case atStart=>exact⟨0,Nat.zero_le _,rfl,fun t ht=>absurd ht (Nat.not_lt_zero t)⟩
 case round=>
  obtain⟨k,hk,rfl,hr⟩:=hrel;have HR:Hid (∀t,t<k→P.waitOk set t=true):=hr;clear hr;have step:∀hb:P.waitOk set k=true,Hid (∀t,t<k+1→P.waitOk set t=true):=fun hb t ht=>by
   rcases Nat.lt_or_ge t k with h|h
   ·exact HR.out t h
   ·have:t=k:=by omega
    subst this;exact hb
  have STEP:Hid (P.waitOk set k=true→∀t,t<k+1→P.waitOk set t=true):=step;clear step
  by_cases hlt:k<n
  ·have hbk:=bit_and set k hset (by omega);cases hbit:set.testBit k with
   | false=>
    rw[hbit]at hbk;have HN2:Hid (∀t,t<k+1→P.waitOk set t=true):=STEP.out (by rw[PS.waitOk,hbit];rfl);simp only[Bool.not_false]at hbk;go_wp2
    go_round
    case rel=>exact⟨k+1,by omega,by go_num,HN2.out⟩
    case measure=>simp[intOf];omega
   | true=>
    rw[hbit]at hbk;simp only[Bool.not_true]at hbk;have HBIT:Hid (set.testBit k=true):=hbit;clear hbit
    go_wp2_with fail
    refine(waitsRef_any OK.out hN k (by rw[←HN.out];exact hlt) _ B HPM.out).mono ?_;rintro e w' ⟨rfl,rfl⟩;rcases waits_range OK.out k with hw|⟨j,hj,hw⟩
    ·have HF:Hid (P.waiting set=false):=waiting_no (k:=k) (by rw[←HN.out];exact hlt) (by rw[PS.waitOk,HBIT.out,hw];rfl);rw[hw];clear hw;go_wp2;go_ret;rw[HF.out];exact⟨rfl,rfl⟩
    ·have hj4:j<4:=by rw[←HN.out]at hj;omega
     have hbj:=bit_and set j hset hj4;cases hbit:set.testBit j with
     | false=>
      rw[hbit]at hbj;simp only[Bool.not_false]at hbj;have HF:Hid (P.waiting set=false):=waiting_no (k:=k) (by rw[←HN.out];exact hlt) (by rw[PS.waitOk,HBIT.out,hw,Int.toNat_natCast,hbit];simp);rw[hw];clear hw hbit hj;go_wp2;go_ret;rw[HF.out];exact⟨rfl,rfl⟩
     | true=>
      rw[hbit]at hbj;simp only[Bool.not_true]at hbj;have HN2:Hid (∀t,t<k+1→P.waitOk set t=true):=STEP.out (by rw[PS.waitOk,HBIT.out,hw,Int.toNat_natCast,hbit];simp);rw[hw];clear hw hbit hj;go_wp2
      go_round
      case rel=>exact⟨k+1,by omega,by go_num,HN2.out⟩
      case measure=>simp[intOf];omega
  ·have HF:Hid (P.waiting set=true):=by
    show P.waiting set=true;rw[PS.waiting,List.all_eq_true];intro t ht;have:t<P.todo.length:=by simpa using ht
    exact HR.out t (by rw[←HN.out]at this;omega)
   go_wp2;go_ret;rw[HF.out];exact⟨rfl,rfl⟩
def PS.all(P:PS):Nat→Nat
 | 0=>0
 | k+1=>if P.waiting k then P.all k ||| k else P.all k
def namesOf(A:Nat):Nat→List UInt8
 | 0=>[]
 | t+1=>namesOf A t++(if A.testBit t then [UInt8.ofNat (49+t)]else [])
def PS.stuck(P:PS):List UInt8:=namesOf (P.all (2 ^ P.todo.length)) P.todo.length
theorem all_lt(P:PS)(k:Nat)(hk:k≤16):P.all k<16:=by
 induction k with
 | zero=>rw[PS.all];decide
 | succ k ih=>
  rw[PS.all]
  split
  ·exact Nat.or_lt_two_pow (n:=4) (ih (by omega)) (by omega)
  ·exact ih (by omega)
theorem bit_or(a b:Nat)(ha:a<16)(hb:b<16):bits .or .i64 (a:Int) (b:Int)=((a ||| b:Nat):Int):=by
 have h1:a=0∨a=1∨a=2∨a=3∨a=4∨a=5∨a=6∨a=7∨a=8∨a=9∨a=10∨a=11∨a=12∨a=13∨a=14∨a=15:=by omega
 have h2:b=0∨b=1∨b=2∨b=3∨b=4∨b=5∨b=6∨b=7∨b=8∨b=9∨b=10∨b=11∨b=12∨b=13∨b=14∨b=15:=by omega
 rcases h1 with rfl|rfl|rfl|rfl|rfl|rfl|rfl|rfl|rfl|rfl|rfl|rfl|rfl|rfl|rfl|rfl<;>rcases h2 with rfl|rfl|rfl|rfl|rfl|rfl|rfl|rfl|rfl|rfl|rfl|rfl|rfl|rfl|rfl|rfl<;>decide
theorem bit_one(set k:Nat)(hs:set<16)(hk:k<4):(bits .and .i64 ((set:Int) / 2 ^ k) 1==1)=set.testBit k:=by
 have h1:set=0∨set=1∨set=2∨set=3∨set=4∨set=5∨set=6∨set=7∨set=8∨set=9∨set=10∨set=11∨set=12∨set=13∨set=14∨set=15:=by omega
 have h2:k=0∨k=1∨k=2∨k=3:=by omega
 rcases h1 with rfl|rfl|rfl|rfl|rfl|rfl|rfl|rfl|rfl|rfl|rfl|rfl|rfl|rfl|rfl|rfl<;>rcases h2 with rfl|rfl|rfl|rfl<;>decide
set_option maxHeartbeats 1600000 in
theorem stuck_any{P:PS}{N:Nat}(hok:P.Ok N)(hN:N≤100000)(w:World)(B:Nat)(hp:PM w B P) :
  Calls Tryz.prog 51 #[.pointer (some ⟨B+1,0,none⟩)] w fun e w'=>e=.returned (sv P.stuck)∧w'=w:=by
 have HPM:Hid (PM w B P):=hp;obtain⟨at',ah,ar,as',ct,ch,cr,cs,h⟩:=hp;have c0:=h.c0;have hb:=h.hb;have h4:=hok.n4;have OK:Hid (P.Ok N):=hok;clear h hok;obtain⟨n,hn⟩:∃n,n=P.todo.length:=⟨_,rfl⟩;rw[←hn]at c0 h4;have HN:Hid (n=P.todo.length):=hn;clear hn;obtain⟨m,hm⟩:∃m,m=2 ^ n:=⟨_,rfl⟩;have hp2:m≤16∧wrap64 ((2:Int) ^ n)=(m:Int):=by
  subst hm;have:n=0∨n=1∨n=2∨n=3∨n=4:=by omega
  rcases this with rfl|rfl|rfl|rfl|rfl<;>exact⟨by decide,by simp[wrap64]⟩
 obtain⟨hm16,hwrap⟩:=hp2;have HM:Hid (P.stuck=namesOf (P.all m) n):=by show P.stuck=_;rw[PS.stuck,←HN.out,hm]
 clear hm
 go_enter Tryz.func51,Tryz.ntmps51
 go_wp2
 go_loop [3,4] (fun a i=>∃k:Nat,k≤m∧i=.int .i64 k∧a=.int .i64 (P.all k)) (fun _ i=>m-(intOf i).toNat)
 case atStart=>exact⟨0,Nat.zero_le _,rfl,rfl⟩
 case round=>
  obtain⟨k,hk,rfl,rfl⟩:=hrel;have hal:=all_lt P k (by omega);obtain⟨A,hA⟩:∃A,A=P.all k:=⟨_,rfl⟩;have HA:Hid (A=P.all k):=hA;rw[←hA]at hal ⊢;clear hA
  by_cases hlt:k<m
  ·cases hwt:P.waiting k with
   | true=>
    have hor:=bit_or A k hal (by omega);have HE:Hid (P.all (k+1)=A ||| k):=by show P.all (k+1)=_;rw[PS.all,if_pos hwt,HA.out]
    go_wp2_with fail
    refine(waiting_any OK.out hN k (by omega) _ B HPM.out).mono ?_;rintro e w' ⟨rfl,rfl⟩;rw[hwt];clear hwt;go_wp2
    go_round
    case rel=>exact⟨k+1,by omega,by go_num,by rw[HE.out]⟩
    case measure=>simp[intOf];omega
   | false=>
    have HE:Hid (P.all (k+1)=A):=by show P.all (k+1)=_;rw[PS.all,hwt,HA.out];rfl
    go_wp2_with fail
    refine(waiting_any OK.out hN k (by omega) _ B HPM.out).mono ?_;rintro e w' ⟨rfl,rfl⟩;rw[hwt];clear hwt;go_wp2
    go_round
    case rel=>exact⟨k+1,by omega,by go_num,by rw[HE.out]⟩
    case measure=>simp[intOf];omega
  ·have hkm:k=m:=by omega
   subst hkm;rw[←HA.out]at HM;go_wp2
   go_loop [6,7] (fun ov i=>∃(q:Nat) (o:ByteArray),q≤n∧i=.int .i64 q∧ov=.string o∧o.size≤q∧o.data.toList=namesOf A q) (fun _ i=>n-(intOf i).toNat)
   case atStart=>exact⟨0,⟨#[]⟩,Nat.zero_le _,rfl,rfl,by decide,rfl⟩
   case round=>
    obtain⟨q,o,hq,rfl,rfl,hos,hon⟩:=hrel;have HO:Hid (o.data.toList=namesOf A q):=hon;clear hon
    by_cases hql:q<n
    ·have hb1:=bit_one A q hal (by omega);cases hbit:A.testBit q with
     | true=>
      rw[hbit]at hb1;obtain⟨dg,hdg⟩:∃dg:ByteArray,dg=(ByteArray.mk #[49,50,51,52]).extract q (q+1):=⟨_,rfl⟩;have hdd:dg.data.toList=[UInt8.ofNat (49+q)]:=by
       rw[hdg];have:q=0∨q=1∨q=2∨q=3:=by omega
       rcases this with rfl|rfl|rfl|rfl<;>rfl
      have hds:dg.size=1:=by rw[←len_eq,hdd];rfl
      have HNX:Hid ((o++dg).data.toList=namesOf A (q+1)):=by
       show(o++dg).data.toList=_;rw[cat_data,HO.out,namesOf,hbit,if_pos rfl,hdd]
      have hos2:(o++dg).size≤q+1:=by rw[ByteArray.size_append];omega
      have hdg':=hdg.symm;clear hdg hdd hbit;go_wp2
      go_round
      case rel=>exact⟨q+1,o++dg,by omega,by go_num,by rw[←hdg'],hos2,HNX.out⟩
      case measure=>simp[intOf];omega
     | false=>
      rw[hbit]at hb1;have HNX:Hid (o.data.toList=namesOf A (q+1)):=by
       show o.data.toList=_;rw[HO.out,namesOf,hbit];simp
      clear hbit;go_wp2
      go_round
      case rel=>exact⟨q+1,o,by omega,by go_num,rfl,by omega,HNX.out⟩
      case measure=>simp[intOf];omega
    ·have hqn:q=n:=by omega
     subst hqn;have HV:Hid (Value.string o=sv P.stuck):=sv_eq (by rw[HO.out,HM.out]);go_wp2;go_ret;rw[←HV.out];exact⟨rfl,rfl⟩
def toldP(a b:Did):Bool:=a.thread==b.thread||((a.what==93||a.what==62)&&(b.what==91||b.what==60)&&a.of==b.of)
def didG(d:Did):Value:=.agg #[.int .i64 d.pick,.int .i64 d.thread,.int .u8 d.what.toNat,.int .u8 d.of.toNat]
set_option maxHeartbeats 1600000 in
theorem told_any(a b:Did)(w:World) :
  Calls Tryz.prog 98 #[didG a,didG b] w fun e w'=>e=.returned (.bool (toldP a b))∧Below w.heap.size w w':=by
 obtain⟨p,t,x,o⟩:=a;obtain⟨p',t',x',o'⟩:=b;have HE:Hid (toldP ⟨p,t,x,o⟩ ⟨p',t',x',o'⟩=(t==t'||(((x.toNat:Int)==93||(x.toNat:Int)==62)&&((x'.toNat:Int)==91||(x'.toNat:Int)==60)&&(o.toNat:Int)==(o'.toNat:Int)))):=by
  show toldP _ _=_;rw[toldP,u8q o o'];show(t==t'||((x==93||x==62)&&(x'==91||x'==60)&&o==o'))=_;rw[←u8q x 93,←u8q x 62,←u8q x' 91,←u8q x' 60];rfl
 have BE:Hid (Below w.heap.size w ((w.alloc (.cells #[.int .i64 p,.int .i64 t,.int .u8 x.toNat,.int .u8 o.toNat] 136)).alloc (.cells #[.int .i64 p',.int .i64 t',.int .u8 x'.toNat,.int .u8 o'.toNat] 136))):=((Below.refl _ w).alloc (Nat.le_refl _) _).alloc (by simp) _;unfold didG;generalize toldP ⟨p,t,x,o⟩ ⟨p',t',x',o'⟩=r at *;generalize (x.toNat:Int)=X at *;generalize (x'.toNat:Int)=X' at *;generalize (o.toNat:Int)=O at *;generalize (o'.toNat:Int)=O' at *;cases h1:(t==t')<;>cases h2:(X==93)<;>cases h3:(X==62)<;>cases h4:(X'==91)<;>cases h5:(X'==60)<;>cases h6:(O==O')
 all_goals
  rw[h1,h2,h3,h4,h5,h6]at HE;have HF:Hid (r=_):=HE
  go_enter Tryz.func98,Tryz.ntmps98
  go_wp2;go_ret;rw[HF.out];exact⟨rfl,BE.out⟩
theorem split_len(p:List UInt8):∀a∈splitBar p,a.length≤p.length:=by
 induction p with
 | nil=>simp[splitBar]
 | cons c s ih=>
  intro a ha;rw[splitBar]at ha
  split at ha
  ·rcases List.mem_cons.1 ha with rfl|ha
   ·simp
   ·have:=ih a ha;simp;omega
  ·cases hs:splitBar s with
   | nil=>rw[hs]at ha;simp at ha;subst ha;simp
   | cons h t=>
    rw[hs]at ha ih;rcases List.mem_cons.1 ha with rfl|ha
    ·have:=ih h (by simp);simp;omega
    ·have:=ih a (by simp[ha]);simp;omega
theorem start_ok{p:List UInt8}{mks:List MK}(ha:Acc p mks)(hl:p.length≤240)(hn:mks.find? nestB=none):(PS.start p).Ok 240:=by
 obtain⟨h4,htd⟩:=acc_threads ha hl hn;refine⟨h4,by simp[PS.start],by simp[PS.start],rfl,?_,?_,?_⟩
 ·intro t s hs;have hm:s∈splitBar p:=List.mem_of_getElem? hs;refine⟨[],?_,htd s hm,by have:=split_len p s hm;omega⟩;have hs':(splitBar p)[t]?=some s:=hs;simp only[PS.start,List.getElem?_map,hs'];rfl
 ·intro r hr;simp only[PS.start,List.mem_map]at hr;obtain⟨_,_,rfl⟩:=hr;omega
 ·intro r hr;simp only[PS.start,List.mem_cons,List.not_mem_nil,or_false]at hr;rcases hr with rfl|rfl|rfl<;>omega
def PS.upto(P:PS)(picks:List UInt8):Nat→PS
 | 0=>P
 | k+1=>match picks[k]? with
  | some c=>((P.upto picks k).pick (k+1) c).1
  | none=>P.upto picks k
def PS.done(P:PS)(picks:List UInt8):Nat→List UInt8
 | 0=>[]
 | k+1=>match picks[k]? with
  | some c=>P.done picks k++[((P.upto picks k).pick (k+1) c).2]
  | none=>P.done picks k
theorem upto_ok{P:PS}{N:Nat}(h:P.Ok N)(picks:List UInt8)(k:Nat):(P.upto picks k).Ok (N+240*k)∧(P.upto picks k).pr.length≤P.pr.length+k∧(P.upto picks k).st.length≤P.st.length+k∧(P.upto picks k).todo.length=P.todo.length∧(P.done picks k).length≤k:=by
 induction k with
 | zero=>exact⟨h,by simp[PS.upto],by simp[PS.upto],rfl,by simp[PS.done]⟩
 | succ k ih=>
  obtain⟨h1,h2,h3,h4,h5⟩:=ih;rw[PS.upto,PS.done]
  split
  ·rename_i c _;obtain⟨g1,g2,g3,g4⟩:=pick_ok h1 (k+1) c;refine⟨?_,by omega,by omega,by omega,by simp;omega⟩;have e:N+240*(k+1)=N+240*k+240:=by omega
   rw[e];exact g1
  ·exact⟨h1.mono (by omega),by omega,by omega,h4,by omega⟩
def res0:Value:=.agg #[.string ⟨#[]⟩,.string ⟨#[]⟩,.slice none 0 0,.slice none 0 0,.int .i64 0,.string ⟨#[]⟩]
set_option maxHeartbeats 800000 in
theorem refRun_err(s q:ByteArray)(a b:Int)(w:World)(hs:s.size≤maxLen)(hc:ChkIs s a b)(ha:a≠0) :
  Calls Tryz.prog 33 #[.string s,.string q] w fun e w'=>e=.returned (.tuple #[res0,.int .i64 a])∧Below w.heap.size w w':=by
 have HC:Hid (ChkIs s a b):=hc;have ha':(a != 0)=true:=by simpa using ha
 unfold res0;have BE:Hid (∀o,Below w.heap.size w (w.alloc o)):=fun o=>(Below.refl _ w).alloc (Nat.le_refl _) _
 clear hc
 go_enter Tryz.func33,Tryz.ntmps33
 go_wp2_with fail
 refine(refCheck_any s _ hs).mono ?_;rintro e w' ⟨a',b',rfl,hc',rfl⟩;obtain⟨rfl,rfl⟩:=HC.out.unique hc';clear hc';go_wp2
 (try simp only[Exit.inBlock,Exit.then])
 refine bodyPost_ret (v:=.tuple #[.agg #[.string ⟨#[]⟩,.string ⟨#[]⟩,.slice none 0 0,.slice none 0 0,.int .i64 0,.string ⟨#[]⟩],.int .i64 a]) ?_ rfl ⟨rfl,BE.out _⟩;rw[results_cell_tmp rfl]
 go_simp
set_option maxHeartbeats 800000 in
theorem refRun_picks(s q:ByteArray)(b:Int)(w:World)(hs:s.size≤maxLen)(hq:q.size≤maxLen)(hc:ChkIs s 0 b)(h4:400<q.size) :
  Calls Tryz.prog 33 #[.string s,.string q] w fun e w'=>e=.returned (.tuple #[res0,.int .i64 4])∧Below w.heap.size w w':=by
 have HC:Hid (ChkIs s 0 b):=hc;unfold res0;have BE:Hid (∀o,Below w.heap.size w (w.alloc o)):=fun o=>(Below.refl _ w).alloc (Nat.le_refl _) _
 clear hc;unfold maxLen at hq
 go_enter Tryz.func33,Tryz.ntmps33
 go_wp2_with fail
 refine(refCheck_any s _ hs).mono ?_;rintro e w' ⟨a',b',rfl,hc',rfl⟩;obtain⟨rfl,rfl⟩:=HC.out.unique hc';clear hc';go_wp2
 (try simp only[Exit.inBlock,Exit.then])
 refine bodyPost_ret (v:=.tuple #[.agg #[.string ⟨#[]⟩,.string ⟨#[]⟩,.slice none 0 0,.slice none 0 0,.int .i64 0,.string ⟨#[]⟩],.int .i64 4]) ?_ rfl ⟨rfl,BE.out _⟩;rw[results_cell_tmp rfl]
 go_simp
theorem PM.later{w w':World}{B:Nat}{P:PS}(h:PM w B P)(hb:Below w.heap.size w w'):PM w' B P:=by
 obtain⟨at',ah,ar,as',ct,ch,cr,cs,h⟩:=h;have K:∀i,w'.cell? ⟨B+1,i,none⟩=w.cell? ⟨B+1,i,none⟩:=fun i=>World.cell?_of_block (hb.block (B+1) h.hb)
 have Z:∀i,w'.frozen? ⟨B+1,i,none⟩=w.frozen? ⟨B+1,i,none⟩:=fun i=>World.frozen?_of_block (hb.block (B+1) h.hb)
 have R:∀{base e size n:Nat} {v:Value} {xs:List Value},w.ownsRow base e size v n xs→w'.ownsRow base e size v n xs:=fun r=>by
  refine⟨r.1,?_⟩;rcases r.2 with h|⟨g,cap,cur,hv,hg,hh,rest⟩
  ·exact .inl h
  ·exact .inr ⟨g,cap,cur,hv,hg,by rw[hb.block g (Array.getElem?_eq_some_iff.1 hh).1];exact hh,rest⟩
 exact⟨at',ah,ar,as',ct,ch,cr,cs,by have:=hb.size;have:=h.hb;omega,(K 0).trans h.c0,(K 1).trans h.c1,(K 2).trans h.c2,(K 3).trans h.c3,(K 4).trans h.c4,(K 5).trans h.c5,fun i=>(Z i).trans (h.fz i),R h.r0,R h.r1,R h.r2,R h.r3,R h.r5,h.ap⟩
theorem Fr.bytes{B n:Nat}{w w':World}{v:Value}{xs:List Value}(h:Fr B w w')(r:w.ownsRow (B+2) 5 1 v n xs):w'.ownsRow (B+2) 5 1 v n xs:=by
 refine⟨r.1,?_⟩;rcases r.2 with h'|⟨g,cap,cur,hv,hg,hh,rest⟩
 ·exact .inl h'
 ·exact .inr ⟨g,cap,cur,hv,hg,h.keep g cur (0,0) (by omega) hh,rest⟩
theorem PM.kept{w w1:World}{B n:Nat}{P:PS}{v:Value}{xs:List Value}(h:PM w B P)(r:w.ownsRow (B+2) 5 1 v n xs)(hg:w.grownBy w1 v.ownBlock):PM w1 B P:=by
 obtain⟨at',ah,ar,as',ct,ch,cr,cs,h⟩:=h;have hne:some (B+1)≠v.ownBlock:=fun e=>by have:=(r.lt _ e.symm).1;omega
 have K:=fun i=>hg.cell_far ⟨B+1,i,none⟩ h.hb hne
 have Z:=fun i=>hg.frozen_far ⟨B+1,i,none⟩ h.hb hne
 exact⟨at',ah,ar,as',ct,ch,cr,cs,by have:=hg.size;have:=h.hb;omega,(K 0).trans h.c0,(K 1).trans h.c1,(K 2).trans h.c2,(K 3).trans h.c3,(K 4).trans h.c4,(K 5).trans h.c5,fun i=>(Z i).trans (h.fz i),
  h.r0.kept hg (rows_apart h.r0 r (by decide)),h.r1.kept hg (rows_apart h.r1 r (by decide)),h.r2.kept hg (rows_apart h.r2 r (by decide)),h.r3.kept hg (rows_apart h.r3 r (by decide)),h.r5.kept hg (rows_apart h.r5 r (by decide)),h.ap⟩
end Go.Proofs.YtdgkpkdinfklaabGreat
