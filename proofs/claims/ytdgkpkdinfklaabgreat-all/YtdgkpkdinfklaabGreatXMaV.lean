import Derived.Test.YtdgkpkdinfklaabGreatGQ
namespace Go.Proofs.YtdgkpkdinfklaabGreat
open Go.RowKit
def resN:Value:=.agg #[.string ⟨#[]⟩,.string ⟨#[]⟩,.slice none 0 0,.slice none 0 0,.int .i64 0,.string ⟨#[]⟩]
def RunIs(w w':World)(s q:ByteArray)(v:Value)(a:Int):Prop:=
 ∃c b,ChkIs s c b∧((c≠0∧a=c∧v=resN)∨(c=0∧s.size≤240∧400<q.size∧a=4∧v=resN) ∨
  (c=0∧s.size≤240∧q.size≤400∧a=0∧∃F ts,StepsOf s.data.toList F∧F.find? nestS=none∧Prog s.data.toList F ts∧RunOut w F q.data.toList v w'))
theorem RunOut.lower{w0 w w':World}{F:List ST}{p:List UInt8}{v:Value}(h:RunOut w F p v w')(hw:w0.heap.size≤w.heap.size):RunOut w0 F p v w':=by
 obtain⟨a3,c3,a4,c4,h1,h2,h3,h4⟩:=h;exact⟨a3,c3,a4,c4,h1,row_lower h2 hw,row_lower h3 hw,h4⟩
theorem steps_four{p:List UInt8}{F:List ST}(h:StepsOf p F)(hn:F.find? nestS=none)(hp:p.length≤240):(splitBar p).length≤4:=by
 have hf:=(nest_find F).1;rw[hn,Option.bind_none]at hf;exact(acc_threads h.acc hp hf).1
set_option maxHeartbeats 3200000 in
set_option maxRecDepth 100000 in
theorem Run_any(s q:ByteArray)(w:World)(hs:s.size≤maxLen)(hq:q.size≤maxLen) :
  Calls Tryz.prog 32 #[.string s,.string q] w fun e w'=>∃v a,e=.returned (.tuple #[v,.int .i64 a])∧RunIs w w' s q v a∧Below w.heap.size w w':=by
 unfold maxLen at hq;have BE:Hid (∀o,Below w.heap.size w (w.alloc o)):=fun o=>(Below.refl _ w).alloc (Nat.le_refl _) _
 go_enter Tryz.func32,Tryz.ntmps32
 go_wp2_with fail
 refine(read_any s _ hs).mono ?_;intro e w1 hout;obtain⟨hb,v,a,b,rfl,hc,hcase⟩:=hout.says;clear hout;have RB:Blk w1 w.heap.size [.string ⟨#[]⟩,.string ⟨#[]⟩,.slice none 0 0,.slice none 0 0,.int .i64 0,.string ⟨#[]⟩] 71:=
  (Blk.new (w:=w) (l:=[.string ⟨#[]⟩,.string ⟨#[]⟩,.slice none 0 0,.slice none 0 0,.int .i64 0,.string ⟨#[]⟩]) (ty:=71)).chg (chg_of_below hb []) (by simp)
 have hw1:w.heap.size+1≤w1.heap.size:=by have:=hb.size;simp at this;exact this
 have BB:Hid (Below w.heap.size w w1):=(BE.out _).trans (hb.mono (by simp));have z0:=RB.cell 0 _ rfl;have z1:=RB.cell 1 _ rfl;have z2:=RB.cell 2 _ rfl;have z3:=RB.cell 3 _ rfl;have z4:=RB.cell 4 _ rfl;have z5:=RB.cell 5 _ rfl;have f0:=RB.fz 0;have f1:=RB.fz 1;have f2:=RB.fz 2;have f3:=RB.fz 3;have f4:=RB.fz 4;have f5:=RB.fz 5;have HB:Hid (Blk w1 w.heap.size [.string ⟨#[]⟩,.string ⟨#[]⟩,.slice none 0 0,.slice none 0 0,.int .i64 0,.string ⟨#[]⟩] 71):=RB;obtain⟨WS,hWS⟩:∃WS:World,WS=(((((w1.setCell ⟨w.heap.size,0,none⟩ (.string ⟨#[]⟩)).setCell ⟨w.heap.size,1,none⟩ (.string ⟨#[]⟩)).setCell ⟨w.heap.size,2,none⟩ (.slice none 0 0)).setCell ⟨w.heap.size,3,none⟩ (.slice none 0 0)).setCell ⟨w.heap.size,4,none⟩ (.int .i64 0)).setCell ⟨w.heap.size,5,none⟩ (.string ⟨#[]⟩):=⟨_,rfl⟩;have WB:Hid (Blk WS w.heap.size [.string ⟨#[]⟩,.string ⟨#[]⟩,.slice none 0 0,.slice none 0 0,.int .i64 0,.string ⟨#[]⟩] 71):=by
  have:=(((((RB.set 0 (.string ⟨#[]⟩)).set 1 (.string ⟨#[]⟩)).set 2 (.slice none 0 0)).set 3 (.slice none 0 0)).set 4 (.int .i64 0)).set 5 (.string ⟨#[]⟩);show Blk WS _ _ _;rw[hWS];exact this
 have WC:Hid (Below w.heap.size w WS):=by
  show Below _ _ _;rw[hWS];exact((((((BB.out.setCell (p:=⟨w.heap.size,0,none⟩) (Nat.le_refl _) _).setCell (p:=⟨w.heap.size,1,none⟩) (Nat.le_refl _) _).setCell (p:=⟨w.heap.size,2,none⟩) (Nat.le_refl _) _).setCell (p:=⟨w.heap.size,3,none⟩) (Nat.le_refl _) _).setCell (p:=⟨w.heap.size,4,none⟩) (Nat.le_refl _) _).setCell (p:=⟨w.heap.size,5,none⟩) (Nat.le_refl _) _)
 have HW:Hid (WS=(((((w1.setCell ⟨w.heap.size,0,none⟩ (.string ⟨#[]⟩)).setCell ⟨w.heap.size,1,none⟩ (.string ⟨#[]⟩)).setCell ⟨w.heap.size,2,none⟩ (.slice none 0 0)).setCell ⟨w.heap.size,3,none⟩ (.slice none 0 0)).setCell ⟨w.heap.size,4,none⟩ (.int .i64 0)).setCell ⟨w.heap.size,5,none⟩ (.string ⟨#[]⟩)):=hWS;clear hWS RB;rcases hcase with⟨ha,rfl⟩|⟨rfl,hz,am,cm,F,rfl,hst,hnest,hown⟩
 ·have ha':(a != 0)=true:=by simpa using ha
  have HI:Hid (∀w',RunIs w w' s q resN a):=fun w'=>⟨a,b,hc,.inl ⟨ha,rfl,rfl⟩⟩
  clear hc ha hb;go_wp2
  (try simp only[Exit.inBlock,Exit.then])
  rw[←HW.out];refine bodyPost_ret (v:=.tuple #[resN,.int .i64 a]) ?_ rfl ⟨resN,a,rfl,HI.out _,WC.out⟩;have y0:=WB.out.cell 0 _ rfl;have y1:=WB.out.cell 1 _ rfl;have y2:=WB.out.cell 2 _ rfl;have y3:=WB.out.cell 3 _ rfl;have y4:=WB.out.cell 4 _ rfl;have y5:=WB.out.cell 5 _ rfl;rw[results_cell_tmp rfl];unfold resN
  go_simp
 ·by_cases h4:400<q.size
  ·have HI:Hid (∀w',RunIs w w' s q resN 4):=fun w'=>⟨0,b,hc,.inr (.inl ⟨rfl,hz,h4,rfl,rfl⟩)⟩
   clear hc hb hst hnest hown;go_wp2
   (try simp only[Exit.inBlock,Exit.then])
   rw[←HW.out];refine bodyPost_ret (v:=.tuple #[resN,.int .i64 4]) ?_ rfl ⟨resN,4,rfl,HI.out _,WC.out⟩;have y0:=WB.out.cell 0 _ rfl;have y1:=WB.out.cell 1 _ rfl;have y2:=WB.out.cell 2 _ rfl;have y3:=WB.out.cell 3 _ rfl;have y4:=WB.out.cell 4 _ rfl;have y5:=WB.out.cell 5 _ rfl;rw[results_cell_tmp rfl];unfold resN
   go_simp
  ·have hpl:s.data.toList.length≤240:=by rw[len_eq];exact hz
   obtain⟨ts,hprog⟩:=hst.prog (steps_four hst hnest hpl);have hFl:=hst.len;rw[len_eq]at hFl;have HR:Hid (∀w2 v2,RunOut w1 F q.data.toList v2 w2→RunIs w w2 s q v2 0):=fun w2 v2 h=>⟨0,b,hc,.inr (.inr ⟨rfl,hz,by omega,rfl,F,ts,hst,hnest,hprog,h.lower (by omega)⟩)⟩
   have FT:Hid (∀k,k≤q.size→Fit F (runU F q.data.toList k).ths (runU F q.data.toList k).c):=fun k hk=>hprog.fit _ k (by omega)
   have SR:Hid (SRow w1 (.slice am F.length cm) F):=⟨_,am,cm,rfl,hown⟩;clear hc hst hprog hown hpl hnest WB WC HW WS z0 z1 z2 z3 z4 z5 f0 f1 f2 f3 f4 f5 hb
   go_wp2_with fail
   refine(mrun_any _ F q w1 SR.out (by omega) (by omega) FT.out).mono ?_;rintro e w2 ⟨v2,rfl,hro,hc2⟩;have HI:Hid (RunIs w w2 s q v2 0):=HR.out w2 v2 hro;obtain⟨sd,sp,x3,x4,xr,ss,hv2,ho3,ho4⟩:∃(sd sp:ByteArray) (x3 x4:Value) (xr:Int) (ss:ByteArray),v2=.agg #[.string sd,.string sp,x3,x4,.int .i64 xr,.string ss]∧(∃a n c,x3=.slice a n c)∧(∃a n c,x4=.slice a n c):=by
    obtain⟨a3,c3,a4,c4,e,_⟩:=hro;exact⟨_,_,_,_,_,_,e,⟨_,_,_,rfl⟩,⟨_,_,_,rfl⟩⟩
   obtain⟨a3,n3,c3,rfl⟩:=ho3;obtain⟨a4,n4,c4,rfl⟩:=ho4;have B2:=HB.out.chg hc2 (by simp);have z0:=B2.cell 0 _ rfl;have z1:=B2.cell 1 _ rfl;have z2:=B2.cell 2 _ rfl;have z3:=B2.cell 3 _ rfl;have z4:=B2.cell 4 _ rfl;have z5:=B2.cell 5 _ rfl;have f0:=B2.fz 0;have f1:=B2.fz 1;have f2:=B2.fz 2;have f3:=B2.fz 3;have f4:=B2.fz 4;have f5:=B2.fz 5;have hw2:w1.heap.size≤w2.heap.size:=hc2.size;obtain⟨WS,hWS⟩:∃WS:World,WS=(((((w2.setCell ⟨w.heap.size,0,none⟩ (.string sd)).setCell ⟨w.heap.size,1,none⟩ (.string sp)).setCell ⟨w.heap.size,2,none⟩ (.slice a3 n3 c3)).setCell ⟨w.heap.size,3,none⟩ (.slice a4 n4 c4)).setCell ⟨w.heap.size,4,none⟩ (.int .i64 xr)).setCell ⟨w.heap.size,5,none⟩ (.string ss):=⟨_,rfl⟩;have WB:Hid (Blk WS w.heap.size [.string sd,.string sp,.slice a3 n3 c3,.slice a4 n4 c4,.int .i64 xr,.string ss] 71):=by
    have:=(((((B2.set 0 (.string sd)).set 1 (.string sp)).set 2 (.slice a3 n3 c3)).set 3 (.slice a4 n4 c4)).set 4 (.int .i64 xr)).set 5 (.string ss);show Blk WS _ _ _;rw[hWS];exact this
   have WCh:Chg [w.heap.size] w2 WS:=by
    rw[hWS];exact(((((((Chg.refl [w.heap.size] w2).set (a:=⟨w.heap.size,0,none⟩) (.inl (by simp)) _).set (a:=⟨w.heap.size,1,none⟩) (.inl (by simp)) _).set (a:=⟨w.heap.size,2,none⟩) (.inl (by simp)) _).set (a:=⟨w.heap.size,3,none⟩) (.inl (by simp)) _).set (a:=⟨w.heap.size,4,none⟩) (.inl (by simp)) _).set (a:=⟨w.heap.size,5,none⟩) (.inl (by simp)) _)
   have WC:Hid (Below w.heap.size w WS):=((BB.out.trans (hc2.below (B:=w.heap.size) (by simp) (by omega)))).trans (WCh.below (B:=w.heap.size) (by simp) (by omega));have WI:Hid (RunIs w WS s q v2 0):=by
    refine HR.out WS v2 ?_;obtain⟨b3,d3,b4,d4,e,r1,r2,r3⟩:=hro;refine⟨b3,d3,b4,d4,e,row_chg r1 WCh (fun g hg=>?_),row_chg r2 WCh (fun g hg=>?_),r3⟩
    ·have:=(r1.lt g hg).1;simp;omega
    ·have:=(r2.lt g hg).1;simp;omega
   have HW:Hid (WS=(((((w2.setCell ⟨w.heap.size,0,none⟩ (.string sd)).setCell ⟨w.heap.size,1,none⟩ (.string sp)).setCell ⟨w.heap.size,2,none⟩ (.slice a3 n3 c3)).setCell ⟨w.heap.size,3,none⟩ (.slice a4 n4 c4)).setCell ⟨w.heap.size,4,none⟩ (.int .i64 xr)).setCell ⟨w.heap.size,5,none⟩ (.string ss)):=hWS;have HV:Hid (v2=.agg #[.string sd,.string sp,.slice a3 n3 c3,.slice a4 n4 c4,.int .i64 xr,.string ss]):=hv2;rw[hv2];clear hro hc2 B2 hWS WCh hv2 HI;go_wp2
   (try simp only[Exit.inBlock,Exit.then])
   rw[←HW.out];refine bodyPost_ret (v:=.tuple #[.agg #[.string sd,.string sp,.slice a3 n3 c3,.slice a4 n4 c4,.int .i64 xr,.string ss],.int .i64 0]) ?_ rfl ⟨v2,0,by rw[HV.out],WI.out,WC.out⟩;have y0:=WB.out.cell 0 _ rfl;have y1:=WB.out.cell 1 _ rfl;have y2:=WB.out.cell 2 _ rfl;have y3:=WB.out.cell 3 _ rfl;have y4:=WB.out.cell 4 _ rfl;have y5:=WB.out.cell 5 _ rfl;rw[results_cell_tmp rfl]
   go_simp
end Go.Proofs.YtdgkpkdinfklaabGreat
