import Derived.Test.YtdgkpkdinfklaabGreatGW
import Derived.Test.YtdgkpkdinfklaabGreatGV
namespace Go.Proofs.YtdgkpkdinfklaabGreat
open Go.RowKit
theorem BB.storedA{w w':World}{bk:Nat}{gs ga gc fs aa ca}(h:BB w bk gs ga gc fs aa ca){g B c n:Nat}{x:Nat}{xs:List Value}(hg:w.grownBy w' (some g))(hr:w.ownsRow B 47 5 (.slice (some ⟨g,x,none⟩) n c) n xs)(hB:bk<B)
  (hap:∀f∈fs,∀k,(Value.slice f.1 f.2 f.2).ownBlock=some k→k<B):BB w' bk gs ga gc fs aa ca:=by
 have hob:(Value.slice (some ⟨g,x,none⟩) n c).ownBlock=some g:=rfl;have hgB:B≤g:=(hr.lt g hob).1;have flip:∀{v:Value},(v.ownBlock=none∨v.ownBlock≠(Value.slice (some ⟨g,x,none⟩) n c).ownBlock)→(v.ownBlock=none∨v.ownBlock≠some g):=fun h=>by rw[hob]at h;exact h
 refine⟨by have:=hg.size;have:=h.lt;omega,?_,?_,?_,?_,?_,?_,?_,?_⟩
 ·exact(hg.cell_far ⟨bk,0,none⟩ h.lt (by simp;omega)).trans h.c0
 ·exact(hg.cell_far ⟨bk,1,none⟩ h.lt (by simp;omega)).trans h.c1
 ·exact(hg.frozen_far ⟨bk,0,none⟩ h.lt (by simp;omega)).trans h.f0
 ·exact(hg.frozen_far ⟨bk,1,none⟩ h.lt (by simp;omega)).trans h.f1
 ·exact h.irow.kept hg (flip (rows_apart h.irow hr (by decide)))
 ·exact h.arow.kept hg (flip (rows_apart h.arow hr (by decide)))
 ·intro k f hf;exact(h.ieach k f hf).kept hg (flip (rows_apart (h.ieach k f hf) hr (by decide)))
 ·intro k f hf;refine(h.aeach k f hf).kept hg (.inr ?_);intro e;have:=hap f (List.mem_of_getElem? hf) g e;omega
theorem BB.addedA{W w1:World}{bk:Nat}{gs:List (Option Addr×Nat)}{ga:Option Addr}{gc:Nat}{fs:List (Option Addr×Nat)}{aa:Option Addr}{ca:Nat}{x:Option Addr}{c g cap:Nat}{o:Obj}(h:BB W bk gs ga gc fs aa ca)
  (hf:W.ownsRow (bk+1) 47 5 (.slice x c c) c (bmsV fs.length c))
  (hown:w1.ownsRow (bk+1) 45 1 (.slice (some ⟨g,0,none⟩) (fs.length+1) cap) (fs.length+1) ((fs.map fun f=>.slice f.1 f.2 f.2)++[.slice x c c]))
  (hgrow:(W.alloc o).grownBy w1 (Value.slice aa fs.length ca).ownBlock) :
  BB (w1.setCell ⟨bk,1,none⟩ (.slice (some ⟨g,0,none⟩) (fs.length+1) cap)) bk gs ga gc (fs++[(x,c)]) (some ⟨g,0,none⟩) cap:=by
 have hlt:=h.lt;have hne:some bk≠(Value.slice aa fs.length ca).ownBlock:=low_ne h.arow;have k0:=(hgrow.cell_far ⟨bk,0,none⟩ (by simp;omega) hne).trans ((World.cell?_alloc_past _ _ _ hlt).trans h.c0);have k1:=(hgrow.cell_far ⟨bk,1,none⟩ (by simp;omega) hne).trans ((World.cell?_alloc_past _ _ _ hlt).trans h.c1);have z0:=(hgrow.frozen_far ⟨bk,0,none⟩ (by simp;omega) hne).trans ((World.frozen?_alloc_past _ _ _ hlt).trans h.f0);have z1:=(hgrow.frozen_far ⟨bk,1,none⟩ (by simp;omega) hne).trans ((World.frozen?_alloc_past _ _ _ hlt).trans h.f1);have hb1:bk<w1.heap.size:=by have:=hgrow.size;simp at this;omega
 have hel:∀k f,(fs++[(x,c)])[k]?=some f→w1.ownsRow (bk+1) 47 5 (.slice f.1 f.2 f.2) f.2 (bmsV k f.2):=by
  intro k f hk;have hW:W.ownsRow (bk+1) 47 5 (.slice f.1 f.2 f.2) f.2 (bmsV k f.2):=by
   by_cases hkl:k<fs.length
   ·rw[List.getElem?_append_left hkl]at hk;exact h.aeach k f hk
   ·rw[List.getElem?_append_right (by omega)]at hk;have hk0:k-fs.length=0:=by
     have:=(List.getElem?_eq_some_iff.1 hk).1;simp at this;omega
    rw[hk0]at hk;simp at hk;subst hk;have:k=fs.length:=by omega
    subst this;exact hf
  exact(hW.alloc o).kept hgrow (rows_apart hW h.arow (by decide))
 have har:w1.ownsRow (bk+1) 30 1 (.slice ga gs.length gc) gs.length (gs.map fun f=>.slice f.1 f.2 f.2):=(h.irow.alloc o).kept hgrow (rows_apart h.irow h.arow (by decide));have hie:∀k f,gs[k]?=some f→w1.ownsRow (bk+1) 3 1 (.slice f.1 f.2 f.2) f.2 (imsV k f.2):=fun k f hk=>((h.ieach k f hk).alloc o).kept hgrow (rows_apart (h.ieach k f hk) h.arow (by decide))
 clear hgrow hf h;refine⟨by simpa[World.setCell]using hb1,by go_simp,?_,by go_simp,by go_simp,?_,?_,?_,?_⟩
 ·rw[List.length_append];exact cell_same k1
 ·exact ownsRow_setCell_below har (by simp) _
 ·rw[List.length_append,List.map_append];exact ownsRow_setCell_below hown (by simp) _
 ·intro k f hk;exact ownsRow_setCell_below (hie k f hk) (by simp) _
 ·intro k f hk;exact ownsRow_setCell_below (hel k f hk) (by simp) _
set_option maxHeartbeats 3200000 in
set_option maxRecDepth 100000 in
theorem bookKeep_nil(bk:Nat)(gs:List (Option Addr×Nat))(ga:Option Addr)(gc:Nat)(fs:List (Option Addr×Nat))(aa:Option Addr)(ca:Nat)(w:World)(h:BB w bk gs ga gc fs aa ca)(hb:(fs.length+1)*24≤140737488355328) :
  Calls Tryz.prog 27 #[.pointer (some ⟨bk,0,none⟩),.slice none 0 0] w fun e w'=>e=.returned (.tuple #[])∧(∃aa' ca',BB w' bk gs ga gc (fs++[(none,0)]) aa' ca')∧Below bk w w':=by
 obtain⟨i0,hi,hz0,hz1,hz2⟩:=info_parts Tryz.infoAccs;have HK:Hid (BB w bk gs ga gc fs aa ca):=h;have c1:=h.c1;have f1:=h.f1;have hlt:=h.lt;clear h;obtain⟨n,hn⟩:∃n,n=fs.length:=⟨_,rfl⟩;have HN:Hid (n=fs.length):=hn;rw[←hn]at c1 hb;have HR:Hid (w.ownsRow (bk+1) 45 1 (.slice aa n ca) n (fs.map fun f=>.slice f.1 f.2 f.2)):=by rw[hn];exact HK.out.arow
 clear hn
 go_enter Tryz.func27,Tryz.ntmps27
 go_wp2;refine wp_loop_rounds 1 ?_;rw[rounds_succ]
 go_wp2_with (at_builtin;refine wpList_append_lies _ (by rfl) (.tmp 29) (.tmp 31) 27 (by rfl) (bk+1) 45 i0 _ 1 24 Tryz.underlying27 hi hz0 hz1 hz2 rfl (by decide) (.slice aa n ca) n (fs.map fun f=>.slice f.1 f.2 f.2) (by rfl) (HR.out.alloc _) ⟨w.heap.size,0,none⟩ 1 1 [.slice none 0 0] (by rfl) rfl ?hnews ?h1 (by decide) ?h63 ?hby ?hbase (w.heap.size+1) ?hH ?next)
 case hnews=>exact World.news_of_block (heap_alloc_new _ _)
 case h1=>intro u hu;simp at hu;subst hu;rfl
 case h63=>unfold maxLen;omega
 case hby=>omega
 case hbase=>simp;omega
 case hH=>simp
 case next=>
  intro g cap w1 hown hgrow hat hlt1;have nb:some bk≠(Value.slice aa n ca).ownBlock:=low_ne HR.out;have k1:=(hgrow.cell_far ⟨bk,1,none⟩ (by simp;omega) nb).trans ((World.cell?_alloc_past _ _ _ hlt).trans c1);have z1:=(hgrow.frozen_far ⟨bk,1,none⟩ (by simp;omega) nb).trans ((World.frozen?_alloc_past _ _ _ hlt).trans f1);have hbel:Hid (Below bk w w1):=((Below.refl bk w).alloc (by omega) _).grown hgrow (by simp;omega) (fun q hq=>by have:=(HR.out.lt q hq).1;omega);have BQ:Hid (BB (w1.setCell ⟨bk,1,none⟩ (.slice (some ⟨g,0,none⟩) (n+1) cap)) bk gs ga gc (fs++[(none,0)]) (some ⟨g,0,none⟩) cap):=by
   show BB (w1.setCell ⟨bk,1,none⟩ (.slice (some ⟨g,0,none⟩) (n+1) cap)) bk gs ga gc (fs++[(none,0)]) (some ⟨g,0,none⟩) cap;rw[HN.out]at hown hgrow ⊢;exact HK.out.addedA (World.ownsRow_nil _ _ _ _) hown hgrow
  clear hown hgrow hat nb;go_wp2;go_end0;exact⟨rfl,⟨_,_,BQ.out⟩,hbel.out.setCell (by simp) _⟩
set_option maxHeartbeats 3200000 in
set_option maxRecDepth 100000 in
theorem bookKeep_some(bk B g n0 c:Nat)(xs:List Value)(gs:List (Option Addr×Nat))(ga:Option Addr)(gc:Nat)(fs:List (Option Addr×Nat))(aa:Option Addr)(ca:Nat)(w:World)(h:BB w bk gs ga gc fs aa ca)(hb:(fs.length+1)*24≤140737488355328)
  (hl:w.ownsRow B 47 5 (.slice (some ⟨g,0,none⟩) n0 c) n0 xs)(hB:bk<B)(hfB:∀f∈fs,∀k,(Value.slice f.1 f.2 f.2).ownBlock=some k→k<B) :
  Calls Tryz.prog 27 #[.pointer (some ⟨bk,0,none⟩),.slice (some ⟨g,0,none⟩) n0 c] w fun e w'=>e=.returned (.tuple #[])∧(∃aa' ca',BB w' bk gs ga gc (fs++[(some ⟨g,0,none⟩,c)]) aa' ca')∧Below bk w w':=by
 obtain⟨i0,hi,hz0,hz1,hz2⟩:=info_parts Tryz.infoAccs;have HK:Hid (BB w bk gs ga gc fs aa ca):=h;obtain⟨ys,hys,hn0⟩:=row_full hl;have hgB:B≤g:=(hl.lt g rfl).1;have hcm:=row_cap hys;unfold maxLen at hcm;clear hl h;have HFB:Hid (∀f∈fs,∀k,(Value.slice f.1 f.2 f.2).ownBlock=some k→k<B):=hfB;clear hfB;obtain⟨n,hn⟩:∃n,n=fs.length:=⟨_,rfl⟩;have HN:Hid (n=fs.length):=hn;rw[←hn]at hb;have hn24:n≤140737488355328:=by omega
 clear hn;have HYS:Hid (w.ownsRow B 47 5 (.slice (some ⟨g,0,none⟩) c c) c ys):=hys;clear hys
 go_enter Tryz.func27,Tryz.ntmps27
 go_wp2
 go_loopw [5] (fun i wr=>∃(k:Nat) (zs:List Value),k≤c∧i=.int .i64 k∧wr.ownsRow B 47 5 (.slice (some ⟨g,0,none⟩) c c) c zs∧Filled zs n k∧BB wr bk gs ga gc fs aa ca∧Below bk w wr) (fun i _=>c-(intOf i).toNat)
 case atStart=>exact⟨0,ys,Nat.zero_le _,rfl,HYS.out,fun i j hi=>by omega,HK.out,Below.refl _ _⟩
 case round=>
  obtain⟨k,zs,hk,rfl,hzs,hfill,hbk,hbe⟩:=hrel;have c1:=hbk.c1;have f1:=hbk.f1;have hlt:=hbk.lt;rw[←HN.out]at c1
  by_cases hkc:k<c
  ·have hzl:zs.length=c*5:=hzs.1;obtain⟨e0,y0⟩:∃v,wr.cell? ⟨g,k*5,none⟩=some v:=⟨_,(hzs.cellAt (k*5) (by omega)).trans (List.getElem?_eq_getElem (by omega))⟩;obtain⟨e1,y1⟩:∃v,wr.cell? ⟨g,k*5+1,none⟩=some v:=⟨_,(hzs.cellAt (k*5+1) (by omega)).trans (List.getElem?_eq_getElem (by omega))⟩;obtain⟨e2,y2⟩:∃v,wr.cell? ⟨g,k*5+2,none⟩=some v:=⟨_,(hzs.cellAt (k*5+2) (by omega)).trans (List.getElem?_eq_getElem (by omega))⟩;obtain⟨e3,y3⟩:∃v,wr.cell? ⟨g,k*5+3,none⟩=some v:=⟨_,(hzs.cellAt (k*5+3) (by omega)).trans (List.getElem?_eq_getElem (by omega))⟩;obtain⟨e4,y4⟩:∃v,wr.cell? ⟨g,k*5+4,none⟩=some v:=⟨_,(hzs.cellAt (k*5+4) (by omega)).trans (List.getElem?_eq_getElem (by omega))⟩;have x0:=hzs.frozenAt (k*5);have x1:=hzs.frozenAt (k*5+1);have x2:=hzs.frozenAt (k*5+2);have x3:=hzs.frozenAt (k*5+3);have x4:=hzs.frozenAt (k*5+4);obtain⟨st,gr⟩:=row_stored (k*5) (.int .i64 (-1)) (.int .i64 n) (.int .i64 0) (.bool false) (.string ⟨#[110,111,110,101]⟩) hzs;have hbk2:=hbk.storedA gr hzs hB HFB.out;have hbe2:=hbe.trans (Below.trans_grown gr (show bk≤g by omega) (by omega));have hf2:=filled_step (N:=n) hfill hzl hkc;have ST:Hid (_∧_):=⟨st,hf2⟩;have BK2:Hid (_∧_):=⟨hbk2,hbe2⟩;clear st gr hbk2 hbe2 hf2 hzs hfill hbk hbe hzl;go_wp2;exact⟨⟨k+1,_,by omega,by go_num,ST.out.1,ST.out.2,BK2.out.1,BK2.out.2⟩,by simp[intOf];omega⟩
  ·have hkc':k=c:=by omega
   subst hkc';have hzz:=filled_all hfill hzs.1;have HF:Hid (wr.ownsRow (bk+1) 47 5 (.slice (some ⟨g,0,none⟩) k k) k (bmsV fs.length k)):=by
    show wr.ownsRow (bk+1) 47 5 (.slice (some ⟨g,0,none⟩) k k) k (bmsV fs.length k);rw[←HN.out,←hzz];exact ownsRow_lower hzs (by omega)
   have HBK:Hid (BB wr bk gs ga gc fs aa ca):=hbk;have HBE:Hid (Below bk w wr):=hbe;have HR:Hid (wr.ownsRow (bk+1) 45 1 (.slice aa n ca) n (fs.map fun f=>.slice f.1 f.2 f.2)):=by
    show wr.ownsRow (bk+1) 45 1 (.slice aa n ca) n (fs.map fun f=>.slice f.1 f.2 f.2);rw[HN.out];exact hbk.arow
   clear hzz hzs hfill hbk hbe
   go_wp2_with (at_builtin;refine wpList_append_lies _ (by rfl) (.tmp 29) (.tmp 31) 27 (by rfl) (bk+1) 45 i0 _ 1 24 Tryz.underlying27 hi hz0 hz1 hz2 rfl (by decide) (.slice aa n ca) n (fs.map fun f=>.slice f.1 f.2 f.2) (by rfl) (HR.out.alloc _) ⟨wr.heap.size,0,none⟩ 1 1 [.slice (some ⟨g,0,none⟩) k k] (by rfl) rfl ?hnews ?h1 (by decide) ?h63 ?hby ?hbase (wr.heap.size+1) ?hH ?next)
   case hnews=>exact World.news_of_block (heap_alloc_new _ _)
   case h1=>intro u hu;simp at hu;subst hu;rfl
   case h63=>unfold maxLen;omega
   case hby=>omega
   case hbase=>simp;omega
   case hH=>simp
   case next=>
    intro g2 cap w1 hown hgrow hat hlt1;have nb:some bk≠(Value.slice aa n ca).ownBlock:=low_ne HR.out;have k1:=(hgrow.cell_far ⟨bk,1,none⟩ (by simp;omega) nb).trans ((World.cell?_alloc_past _ _ _ hlt).trans c1);have z1:=(hgrow.frozen_far ⟨bk,1,none⟩ (by simp;omega) nb).trans ((World.frozen?_alloc_past _ _ _ hlt).trans f1);have hbel:Hid (Below bk w w1):=(HBE.out.alloc (by omega) _).grown hgrow (by simp;omega) (fun q hq=>by have:=(HR.out.lt q hq).1;omega);have BQ:Hid (BB (w1.setCell ⟨bk,1,none⟩ (.slice (some ⟨g2,0,none⟩) (n+1) cap)) bk gs ga gc (fs++[(some ⟨g,0,none⟩,k)]) (some ⟨g2,0,none⟩) cap):=by
     show BB (w1.setCell ⟨bk,1,none⟩ (.slice (some ⟨g2,0,none⟩) (n+1) cap)) bk gs ga gc (fs++[(some ⟨g,0,none⟩,k)]) (some ⟨g2,0,none⟩) cap;rw[HN.out]at hown hgrow ⊢;exact HBK.out.addedA HF.out hown hgrow
    clear hown hgrow hat nb;go_wp2;go_end0;exact⟨rfl,⟨_,_,BQ.out⟩,hbel.out.setCell (by simp) _⟩
theorem bookKeep_any(bk B n0 c:Nat)(x:Option Addr)(xs:List Value)(gs:List (Option Addr×Nat))(ga:Option Addr)(gc:Nat)(fs:List (Option Addr×Nat))(aa:Option Addr)(ca:Nat)(w:World)(h:BB w bk gs ga gc fs aa ca)(hb:(fs.length+1)*24≤140737488355328)
  (hl:w.ownsRow B 47 5 (.slice x n0 c) n0 xs)(hB:bk<B)(hfB:∀f∈fs,∀k,(Value.slice f.1 f.2 f.2).ownBlock=some k→k<B) :
  Calls Tryz.prog 27 #[.pointer (some ⟨bk,0,none⟩),.slice x n0 c] w fun e w'=>e=.returned (.tuple #[])∧(∃fs' aa' ca',BB w' bk gs ga gc fs' aa' ca'∧fs'.length=fs.length+1)∧Below bk w w':=by
 have hl':=hl;rcases hl.2 with⟨hv,hn⟩|⟨g,cap,cur,hv,_⟩
 ·cases hv;refine(bookKeep_nil bk gs ga gc fs aa ca w h hb).mono ?_;rintro e w' ⟨he,⟨aa',ca',hk⟩,hbe⟩;exact⟨he,⟨_,aa',ca',hk,by simp⟩,hbe⟩
 ·cases hv;refine(bookKeep_some bk B g n0 c xs gs ga gc fs aa ca w h hb hl' hB hfB).mono ?_;rintro e w' ⟨he,⟨aa',ca',hk⟩,hbe⟩;exact⟨he,⟨_,aa',ca',hk,by simp⟩,hbe⟩
set_option maxHeartbeats 3200000 in
set_option maxRecDepth 100000 in
theorem listsA_any(bk:Nat)(s t:ByteArray)(la:Option Addr)(ln lc:Nat)(gs:List (Option Addr×Nat))(ga:Option Addr)(gc:Nat)(fs:List (Option Addr×Nat))(aa:Option Addr)(ca:Nat)(w:World)(hs:s.size≤maxLen)(h:BB w bk gs ga gc fs aa ca)(hb:(fs.length+1)*24≤140737488355328) :
  Calls Tryz.prog 12 #[.pointer (some ⟨bk,0,none⟩),.agg #[.int .i64 3,.string s,.string t,.slice la ln lc]] w fun e w'=>e=.returned (.bool true)∧(∃fs' aa' ca',BB w' bk gs ga gc fs' aa' ca'∧fs'.length=fs.length+1)∧Below bk w w':=by
 have B1:Hid (∀o,Below w.heap.size w (w.alloc o)):=fun o=>(Below.refl _ _).alloc (Nat.le_refl _) o
 have HK:Hid (BB w bk gs ga gc fs aa ca):=h;have hlt:=h.lt;clear h
 go_enter Tryz.func12,Tryz.ntmps12
 go_wp2_with fail
 refine(Accesses_any s _ hs).mono ?_;rintro e w1 ⟨v,a,rfl,hl1,hb1⟩;have hcell:=(hb1.cell (p:=⟨w.heap.size,1,none⟩) (by simp));have HL1:Hid (ListIs _ w1 s v a):=hl1;have HB1:Hid (Below _ _ w1):=hb1;clear hl1 hb1
 go_wp2_with fail
 refine(refAccesses_any s _ hs).mono ?_;rintro e w2 ⟨v',a',rfl,hl2,hb2⟩;obtain⟨ea,l,x,x',n,c,c',hn,hn1,rfl,rfl,ho1,ho2⟩:=HL1.out.both hl2;subst ea;have HB2:Hid (Below w1.heap.size w1 w2):=hb2;have HN:Hid (n=l.length):=hn;have HO1:Hid (w2.ownsRow (w.heap.size+1) 47 5 (.slice x n c) n (accsV l)):=by
  have:=ownsRow_later ho1 hb2;exact ownsRow_lower this (by simp)
 have HO2:Hid (w2.ownsRow w1.heap.size 47 5 (.slice x' n c') n (accsV l)):=ho2;clear hl2 hb2 ho1 ho2 HL1 hn
 go_wp2_with fail
 refine(same_any _ _ x x' c c' n l _ HN.out hn1 HO1.out HO2.out).mono ?_;rintro e w3 ⟨rfl,q,rfl⟩;have hbw:Below w.heap.size w (w2.drewN q):=((B1.out _).trans (HB1.out.mono (by simp))).trans ((HB2.out.mono (by have:=HB1.out.size;simp at this;omega)).trans (below_drewN' _ _ _));have HBW:Hid (Below w.heap.size w (w2.drewN q)):=hbw;clear hbw
 go_wp2_with fail
 refine(bookKeep_any bk (w.heap.size+1) n c x (accsV l) gs ga gc fs aa ca _ (HK.out.below HBW.out) hb HO1.out (by omega) (fun f hf k hk=>by
  obtain⟨i,hi⟩:=List.getElem?_of_mem hf;have:=((HK.out.aeach i f hi).lt k hk).2
  omega)).mono ?_
 rintro e w4 ⟨rfl,hk4,hb4⟩;have HK4:Hid (∃fs' aa' ca',BB w4 bk gs ga gc fs' aa' ca'∧fs'.length=fs.length+1):=hk4;have HB4:Hid (Below bk w w4):=(HBW.out.mono (by omega)).trans hb4;clear hk4 hb4
 go_wp2_with fail
 refine(num_any a _).mono ?_;rintro e w5 ⟨rfl,hw5⟩;rw[hw5];clear hw5;go_wp2;go_ret;exact⟨rfl,HK4.out,HB4.out⟩
set_option maxHeartbeats 1600000 in
set_option maxRecDepth 100000 in
theorem plays_accs(bk:Nat)(s t:ByteArray)(la:Option Addr)(ln lc:Nat)(gs:List (Option Addr×Nat))(ga:Option Addr)(gc:Nat)(fs:List (Option Addr×Nat))(aa:Option Addr)(ca:Nat)(w:World)(hs:s.size≤maxLen)(h:BB w bk gs ga gc fs aa ca)(hb:(fs.length+1)*24≤140737488355328) :
  Calls Tryz.prog 5 #[.pointer (some ⟨bk,0,none⟩),.agg #[.int .i64 3,.string s,.string t,.slice la ln lc]] w fun e w'=>e=.returned (.bool true)∧(∃fs' aa' ca',BB w' bk gs ga gc fs' aa' ca'∧fs'.length=fs.length+1)∧Below bk w w':=by
 have B1:Hid (∀o,Below w.heap.size w (w.alloc o)):=fun o=>(Below.refl _ _).alloc (Nat.le_refl _) o
 have HK:Hid (BB w bk gs ga gc fs aa ca):=h;have hlt:=h.lt;clear h
 go_enter Tryz.func5,Tryz.ntmps5
 go_wp2_with fail
 refine(listsA_any bk s t la ln lc gs ga gc fs aa ca _ hs (HK.out.below (B1.out _)) hb).mono ?_;rintro e w1 ⟨rfl,hk1,hb1⟩;have HK1:Hid (∃fs' aa' ca',BB w1 bk gs ga gc fs' aa' ca'∧fs'.length=fs.length+1):=hk1;have HB1:Hid (Below bk w w1):=((B1.out _).mono (by omega)).trans hb1;clear hk1 hb1;go_wp2;go_ret;exact⟨rfl,HK1.out,HB1.out⟩
end Go.Proofs.YtdgkpkdinfklaabGreat
