import Derived.Test.YtdgkpkdinfklaabGreatGY
import Derived.Test.YtdgkpkdinfklaabGreatGTA
import Derived.OwnWalk
import Derived.Test.YtdgkpkdinfklaabGreatXMaV
import Derived.Test.YtdgkpkdinfklaabGreatGF
import Derived.BigRegion
import Derived.Test.YtdgkpkdinfklaabGreatGV
namespace Go.Proofs.YtdgkpkdinfklaabGreat
open Go.RowKit
open Classical
theorem Tryz.infoBool:(Tryz.prog.info? 4).map (fun i=>(i.zero,i.size,i.bytes))=some (some (.bool false),1,1):=by kernel_rfl
theorem Tryz.infoBools:(Tryz.prog.info? 139).map (fun i=>(i.zero,i.size,i.bytes))=some (some (.slice none 0 0),1,24):=by kernel_rfl
def KP(l:List Did)(j i h:Nat):Prop:=∃(g:Nat) (a b:Did),i≤g∧g<j∧l[g]?=some a∧l[j]?=some b∧tellD a b=true∧(h=g∨Kn l h g)
theorem KP.all{l:List Did}{j h:Nat}{b:Did}(hb:l[j]?=some b):KP l j 0 h↔Kn l h j:=by
 rw[Kn.row hb];constructor
 ·rintro⟨g,a,b',_,h2,h3,h4,h5,h6⟩;rw[hb]at h4;cases h4;exact⟨g,a,h2,h3,h5,h6⟩
 ·rintro⟨g,a,h2,h3,h5,h6⟩;exact⟨g,a,b,Nat.zero_le _,h2,h3,hb,h5,h6⟩
theorem KP.step{l:List Did}{j i h:Nat}{a b:Did}(ha:l[i]?=some a)(hb:l[j]?=some b)(hi:i<j):KP l j i h↔KP l j (i+1) h∨(tellD a b=true∧(h=i∨Kn l h i)):=by
 constructor
 ·rintro⟨g,a',b',h1,h2,h3,h4,h5,h6⟩
  by_cases e:g=i
  ·subst e;rw[ha]at h3;rw[hb]at h4;cases h3;cases h4;exact .inr ⟨h5,h6⟩
  ·exact .inl ⟨g,a',b',by omega,h2,h3,h4,h5,h6⟩
 ·rintro(⟨g,a',b',h1,h2,h3,h4,h5,h6⟩|⟨h5,h6⟩)
  ·exact⟨g,a',b',by omega,h2,h3,h4,h5,h6⟩
  ·exact⟨i,a,b,Nat.le_refl _,hi,ha,hb,h5,h6⟩
theorem KP.none{l:List Did}{j h:Nat}:¬KP l j j h:=fun⟨_,_,_,h1,h2,_⟩=>by omega
def KQ(l:List Did)(j i h x:Nat):Prop:=KP l j (i+1) x∨x=i∨(x<h∧Kn l x i)
noncomputable def truV (f:Nat→Prop) (n:Nat):List Value:=(List.range n).map fun h=>.bool (decide (f h))
theorem truV_get{f:Nat→Prop}{n h:Nat}(hh:h<n):(truV f n)[h]?=some (.bool (decide (f h))):=by
 simp[truV,hh]
theorem truV_len(f:Nat→Prop)(n:Nat):(truV f n).length=n:=by simp[truV]
theorem truV_set{f g:Nat→Prop}{n i:Nat}(x:Bool)(hx:x=decide (g i))(hg:∀h,h<n→h≠i→(g h↔f h)):(truV f n).set i (.bool x)=truV g n:=by
 apply List.ext_getElem?;intro h
 by_cases hh:h<n
 ·rw[List.getElem?_set,truV_get hh]
  by_cases e:i=h
  ·subst e;rw[if_pos rfl,if_pos (by rw[truV_len];exact hh),hx,truV_get hh]
  ·rw[if_neg e,truV_get hh]
   congr 2
   exact decide_eq_decide.2 (hg h hh (fun e'=>e e'.symm)).symm
 ·rw[List.getElem?_eq_none (by simp[truV];omega),List.getElem?_eq_none (by simp[truV];omega)]
theorem truV_congr{f g:Nat→Prop}{n:Nat}(hg:∀h,h<n→(g h↔f h)):truV f n=truV g n:=by
 apply List.ext_getElem?;intro h
 by_cases hh:h<n
 ·rw[truV_get hh,truV_get hh]
  congr 2
  exact decide_eq_decide.2 (hg h hh).symm
 ·rw[List.getElem?_eq_none (by simp[truV];omega),List.getElem?_eq_none (by simp[truV];omega)]
def KR(w:World)(B:Nat)(l:List Did)(ks:List Value):Prop:=∀i v,ks[i]?=some v→∃a,v=.slice a i i∧w.ownsRow B 4 1 v i (truV (fun h=>Kn l h i) i)
theorem rowLater{w w':World}{B e size n:Nat}{v:Value}{xs:List Value}(h:w.ownsRow B e size v n xs)(hb:Below w.heap.size w w'):w'.ownsRow B e size v n xs:=by
 refine⟨h.1,?_⟩;rcases h.2 with h0|⟨g,cap,cur,hv,hg,hh,r⟩
 ·exact .inl h0
 ·exact .inr ⟨g,cap,cur,hv,hg,by rw[hb.block g ((Array.getElem?_eq_some_iff.1 hh).1)];exact hh,r⟩
theorem didsV_get(l:List Did)(i:Nat)(m:Did)(h:l[i]?=some m)(j:Nat)(hj:j<4):(l.flatMap didV)[i*4+j]?=(didV m)[j]?:=by
 induction l generalizing i with
 | nil=>simp at h
 | cons y r ih=>
  have e:(y::r).flatMap didV=didV y++r.flatMap didV:=by simp
  have hl:(didV y).length=4:=rfl;cases i with
  | zero=>
   simp at h;subst h;rw[e,List.getElem?_append_left (by omega)];simp
  | succ i=>
   have:=ih i (by simpa using h);rw[e,List.getElem?_append_right (by omega),←this]
   congr 1
   omega
theorem didAt{w:World}{B g n cm:Nat}{l:List Did}(h:w.ownsRow B 136 4 (.slice (some ⟨g,0,none⟩) n cm) n (l.flatMap didV))(hn:n=l.length)(i:Nat)(m:Did)(hx:l[i]?=some m)(j:Nat)(hj:j<4)(v:Value)(hv:(didV m)[j]?=some v) :
  w.cell? ⟨g,i*4+j,none⟩=some v:=by
 have hi:i<l.length:=(List.getElem?_eq_some_iff.1 hx).1;exact(h.cellAt (i*4+j) (by omega)).trans ((didsV_get l i m hx j hj).trans hv)
theorem KR.later{w w':World}{B:Nat}{l:List Did}{ks:List Value}(h:KR w B l ks)(hb:Below w.heap.size w w'):KR w' B l ks:=fun i v hv=>by
 obtain⟨a,e,r⟩:=h i v hv;exact⟨a,e,rowLater r hb⟩
theorem KR.kept{w w':World}{B b' e' s' n':Nat}{l:List Did}{ks:List Value}{u:Value}{ys:List Value}(h:KR w B l ks)(hr:w.ownsRow b' e' s' u n' ys)(hne:4≠e')(hg:w.grownBy w' u.ownBlock):KR w' B l ks:=fun i v hv=>by
 obtain⟨a,e,r⟩:=h i v hv;exact⟨a,e,r.kept hg (rows_apart r hr hne)⟩
set_option maxHeartbeats 3200000 in
set_option maxRecDepth 100000 in
theorem known_any(Bl:Nat)(al:Option Addr)(cl:Nat)(l:List Did)(w:World)(h:w.ownsRow Bl 136 4 (.slice al l.length cl) l.length (l.flatMap didV))(hlen:l.length≤400) :
  Calls Tryz.prog 74 #[.slice al l.length cl] w fun e w'=>(∃x c ks,e=.returned (.slice x l.length c)∧ks.length=l.length∧w'.ownsRow w.heap.size 139 1 (.slice x l.length c) l.length ks∧KR w' w.heap.size l ks)∧Below w.heap.size w w':=by
 obtain⟨i0,hi0,hz0,hz1,hz2⟩:=info_parts Tryz.infoBool;obtain⟨j0,hj0,jz0,jz1,jz2⟩:=info_parts Tryz.infoBools;have HM:Hid (w.ownsRow Bl 136 4 (.slice al l.length cl) l.length (l.flatMap didV)):=h;clear h;obtain⟨n,hn⟩:∃n,n=l.length:=⟨_,rfl⟩;have HN:Hid (n=l.length):=hn;rw[←hn]at hlen ⊢;clear hn
 go_enter Tryz.func74,Tryz.ntmps74
 go_wp2
 go_loopw [3,4] (fun v jv wr=>∃(j:Nat) (ks:List Value),j≤n∧jv=.int .i64 j∧ks.length=j∧wr.ownsRow w.heap.size 139 1 v j ks∧KR wr w.heap.size l ks∧Below w.heap.size w wr) (fun _ jv _=>n-(intOf jv).toNat)
 case atStart=>exact⟨0,[],Nat.zero_le _,rfl,rfl,World.ownsRow_nil _ _ _ _,fun i v hv=>by simp at hv,Below.refl _ _⟩
 case round=>
  obtain⟨j,ks,hj,rfl,hkl,hown,hkr,hbe⟩:=hrel;have HO:Hid (wr.ownsRow w.heap.size 139 1 u3 j ks):=hown;have HKR:Hid (KR wr w.heap.size l ks):=hkr;have HB:Hid (Below w.heap.size w wr):=hbe;have HKL:Hid (ks.length=j):=hkl;have hsz:=hbe.size;clear hown hkr hbe hkl
  by_cases hlt:j<n
  ·obtain⟨b,hb⟩:∃m,l[j]?=some m:=⟨l[j]'(by rw[←HN.out];exact hlt),List.getElem?_eq_getElem _⟩;have HLB:Hid (l[j]?=some b):=hb;clear hb;have hjj:decide ((j:Int)<(n:Int))=true:=by simp;omega
   obtain⟨wa,rfl⟩:∃wa,wa=wr:=⟨_,rfl⟩
   go_wp2_with (at_make;refine wpList_make_full wa (by rfl) _ _ 139 (by rfl) w.heap.size 4 i0 (.bool false) 1 Tryz.underlying139 hi0 hz0 hz1 _ _ (j:Int) (j:Int) j (by rfl) (by rfl) rfl rfl ?b2 ?b3 ?b4 ?next)
   case b2=>rw[hz2];omega
   case b3=>unfold maxLen;omega
   case b4=>exact hsz
   case next=>
    intro w1 hmade hgr;obtain⟨G,hG⟩:∃G,G=wa.heap.size:=⟨_,rfl⟩;have hb1:Below wa.heap.size wa w1:=(Below.refl _ _).grown hgr (Nat.le_refl _) (fun q hq=>by cases hq);have HB1:Hid (Below wa.heap.size wa w1):=hb1;have HK1:Hid (w1.ownsRow w.heap.size 4 1 (.slice (some ⟨G,0,none⟩) j j) j (truV (KP l j j) j)):=by
     show World.ownsRow _ _ _ _ _ _ _;rw[toList_madeCells_one]at hmade;rw[hG];have:truV (KP l j j) j=List.replicate j (.bool false):=by
      apply List.ext_getElem?;intro q
      by_cases hq:q<j
      ·rw[truV_get hq,List.getElem?_replicate,if_pos hq];have:decide (KP l j j q)=false:=decide_eq_false KP.none;rw[this]
      ·rw[List.getElem?_eq_none (by rw[truV_len];omega),List.getElem?_eq_none (by simp;omega)]
     rw[this];exact hmade
    have HG:Hid (G=wa.heap.size):=hG;rw[←hG];clear hmade hgr hb1 hG;go_wp2
    go_loopw [6] (fun iv wr=>∃i':Nat,i'≤j∧iv=.int .i64 ((i':Int)-1)∧wr.ownsRow w.heap.size 4 1 (.slice (some ⟨G,0,none⟩) j j) j (truV (KP l j i') j)∧Below wa.heap.size wa wr) (fun iv _=>(intOf iv+1).toNat)
    case atStart=>exact⟨j,Nat.le_refl _,rfl,HK1.out,HB1.out⟩
    case round=>
     obtain⟨i',hi',rfl,hrow,hbe⟩:=hrel;have HR:Hid (wr.ownsRow w.heap.size 4 1 (.slice (some ⟨G,0,none⟩) j j) j (truV (KP l j i') j)):=hrow;have HBW:Hid (Below wa.heap.size wa wr):=hbe;have hszw:=hbe.size;clear hrow;cases i' with
     | zero=>
      have HKJ:Hid (KR wr w.heap.size l (ks++[.slice (some ⟨G,0,none⟩) j j])):=fun q v hq=>by
       by_cases hqj:q<ks.length
       ·rw[List.getElem?_append_left hqj]at hq;exact HKR.out.later hbe q v hq
       ·rw[List.getElem?_append_right (by omega)]at hq;have h0:q-ks.length=0:=by
         have:=(List.getElem?_eq_some_iff.1 hq).1;simp at this;omega
        rw[h0]at hq;simp at hq;have hqe:q=j:=by rw[←HKL.out];omega
        subst hqe;refine⟨some ⟨G,0,none⟩,hq.symm,?_⟩;rw[←hq,←truV_congr (f:=KP l q 0) (fun x _=>(KP.all HLB.out).symm)];exact HR.out
      have HO4:Hid (wr.ownsRow w.heap.size 139 1 u3 j ks):=rowLater HO.out hbe;have hw4:w.heap.size≤wr.heap.size:=by omega
      have HBx:Hid (Below w.heap.size w wr):=HB.out.trans (hbe.mono hsz);clear hbe
      go_wp2_with (at_builtin;refine wpList_append_own _ rfl (.tmp 58) (.tmp 60) 137 rfl w.heap.size 139 j0 _ 1 24 Tryz.underlying137 hj0 jz0 jz1 jz2 rfl (by decide) u3 j ks rfl (HO4.out.alloc _) ⟨wr.heap.size,0,none⟩ 1 1 [.slice (some ⟨G,0,none⟩) j j] rfl rfl ?hnews ?h1 ?h63 ?hby ?hbase ?next)
      case hnews=>exact World.news_of_block (heap_alloc_new _ _)
      case h1=>intro u hu;simp at hu;subst hu;rfl
      case h63=>unfold maxLen;omega
      case hby=>omega
      case hbase=>simp;omega
      case next=>
       intro v' w2 hown2 hgrow2 _;have HB4:Hid (Below w.heap.size w w2):=(HBx.out.alloc (by omega) _).grown hgrow2 (by simp;omega) (fun q hq=>(HO4.out.lt q hq).1);have HO5:Hid (w2.ownsRow w.heap.size 139 1 v' (j+1) (ks++[.slice (some ⟨G,0,none⟩) j j])):=hown2;have HKJ2:Hid (KR w2 w.heap.size l (ks++[.slice (some ⟨G,0,none⟩) j j])):=(HKJ.out.later ((Below.refl _ _).alloc (Nat.le_refl _) _)).kept (HO4.out.alloc _) (by decide) hgrow2;clear hown2 hgrow2;go_wp2
       go_roundw
       case rel=>exact⟨j+1,_,by omega,by go_num,by simp[HKL.out],HO5.out,HKJ2.out,HB4.out⟩
       case measure=>simp[intOf];omega
     | succ i=>
      have hij:i<j:=by omega
      obtain⟨a,ha⟩:∃m,l[i]?=some m:=⟨l[i]'(by rw[←HN.out];omega),List.getElem?_eq_getElem _⟩;have hdr:=rowLater HM.out (HB.out.trans (hbe.mono hsz));obtain⟨g,cap',hv,_,_⟩:=HM.out.form (by rw[←HN.out];omega);rw[←HN.out]at hv;cases hv;rw[←HN.out]at hdr;have p0:=didAt hdr HN.out i a ha 0 (by decide) _ rfl;have p1:=didAt hdr HN.out i a ha 1 (by decide) _ rfl;have p2:=didAt hdr HN.out i a ha 2 (by decide) _ rfl;have p3:=didAt hdr HN.out i a ha 3 (by decide) _ rfl;have r0:=didAt hdr HN.out j b HLB.out 0 (by decide) _ rfl;have r1:=didAt hdr HN.out j b HLB.out 1 (by decide) _ rfl;have r2:=didAt hdr HN.out j b HLB.out 2 (by decide) _ rfl;have r3:=didAt hdr HN.out j b HLB.out 3 (by decide) _ rfl;rw[Nat.add_zero]at p0 r0;have HLA:Hid (l[i]?=some a):=ha;have HST:Hid (∀h,KP l j i h↔KP l j (i+1) h∨(tellD a b=true∧(h=i∨Kn l h i))):=fun h=>KP.step ha HLB.out hij
      clear hdr hbe ha;have TA:Hid (∀wx,Calls Tryz.prog 98 #[.agg #[.int .i64 a.pick,.int .i64 a.thread,.int .u8 a.what.toNat,.int .u8 a.of.toNat],.agg #[.int .i64 b.pick,.int .i64 b.thread,.int .u8 b.what.toNat,.int .u8 b.of.toNat]] wx fun e w'=>e=.returned (.bool (tellD a b))∧Below wx.heap.size wx w'):=fun wx=>told_any a b wx
      obtain⟨R,hR⟩:∃R,R=tellD a b:=⟨_,rfl⟩;rw[←hR]at TA HST;clear hR;have hii:(((i+1:Nat):Int)-1)=(i:Int):=by omega
      rw[hii];clear hii;have hin':(i:Int)<(n:Int):=by omega
      have hjn':(j:Int)<(n:Int):=by omega
      go_wp2_with fail
      go_region_with (
       go_at_call 98
       refine(TA.out _).mono ?_
       rintro e w2 ⟨rfl,hb2⟩)
      all_goals
       have HB2:Hid (Below wa.heap.size wa w2):=HBW.out.trans ((below_drewN' _ _ 1).trans (hb2.mono (by simp;omega)));have HR2:Hid (w2.ownsRow w.heap.size 4 1 (.slice (some ⟨G,0,none⟩) j j) j (truV (KP l j (i+1)) j)):=rowLater (rowLater HR.out (below_drewN' _ _ 1)) hb2;have hsz2:=HB2.out.size;clear hb2 p0 p1 p2 p3 r0 r1 r2 r3 TA;cases R with
       | false=>
        have HN2:Hid (w2.ownsRow w.heap.size 4 1 (.slice (some ⟨G,0,none⟩) j j) j (truV (KP l j i) j)):=by
         show World.ownsRow _ _ _ _ _ _ _;rw[←truV_congr (f:=KP l j (i+1)) (fun h _=>by rw[HST.out];simp)];exact HR2.out
        go_wp2;exact⟨⟨i,by omega,by go_num,HN2.out,HB2.out⟩,by simp[intOf]⟩
       | true=>
        obtain⟨st,gr⟩:=HR2.out.stored i (.bool true);obtain⟨c0,hc0⟩:∃v,w2.cell? ⟨G,i,none⟩=some v:=⟨_,(HR2.out.cellAt i (by omega)).trans (truV_get hij)⟩;have fz0:=HR2.out.frozenAt i;have HGB:Hid (Below wa.heap.size wa (w2.setCell ⟨G,i,none⟩ (.bool true))):=HB2.out.setCell (by simp[HG.out]) _;have HR3:Hid ((w2.setCell ⟨G,i,none⟩ (.bool true)).ownsRow w.heap.size 4 1 (.slice (some ⟨G,0,none⟩) j j) j (truV (KQ l j i (0)) j)):=by
         show World.ownsRow _ _ _ _ _ _ _;rw[truV_set (f:=KP l j (i+1)) (g:=KQ l j i (0)) true (by symm;exact decide_eq_true (.inr (.inl rfl))) (fun h hh hne=>by simp[KQ,hne])]at st;exact st
        clear st gr;obtain⟨wb,hwb⟩:∃wb,wb=w2:=⟨_,rfl⟩;go_wp2
        go_loopw [8] (fun hv wr=>∃h:Nat,h≤i∧hv=.int .i64 h∧wr.ownsRow w.heap.size 4 1 (.slice (some ⟨G,0,none⟩) j j) j (truV (KQ l j i (h)) j)∧Below wa.heap.size wa wr) (fun hv _=>i-(intOf hv).toNat)
        case atStart=>first|exact⟨0,Nat.zero_le _,rfl,HR3.out,HGB.out⟩|exact⟨0,Nat.zero_le _,rfl,rowLater HR3.out (below_drewN' _ _ 1),HGB.out.trans (below_drewN' _ _ 1)⟩
        case round=>
         obtain⟨h,hh,rfl,hrow,hbe⟩:=hrel;have HR4:Hid (wr.ownsRow w.heap.size 4 1 (.slice (some ⟨G,0,none⟩) j j) j (truV (KQ l j i (h)) j)):=hrow;have HB4:Hid (Below wa.heap.size wa wr):=hbe;clear hrow hc0 fz0
         by_cases hhi:h<i
         ·have horow:=rowLater HO.out hbe;obtain⟨vi,hvi⟩:∃v,ks[i]?=some v:=⟨ks[i]'(by rw[HKL.out];exact hij),List.getElem?_eq_getElem _⟩;obtain⟨ai,rfl,hri⟩:=HKR.out i vi hvi;have hri':=rowLater hri hbe;obtain⟨go,co,hvo,_,_⟩:=horow.form (by omega);obtain⟨gi,ci,hvi2,_,_⟩:=hri.form (by omega);cases hvi2;subst hvo;have e1:wr.cell? ⟨go,i,none⟩=some (.slice (some ⟨gi,0,none⟩) i i):=(horow.cellAt i (by omega)).trans hvi;have e2:wr.cell? ⟨gi,h,none⟩=some (.bool (decide (Kn l h i))):=(hri'.cellAt h (by omega)).trans (truV_get hhi);have e3:wr.cell? ⟨G,h,none⟩=some (.bool (decide (KQ l j i (h) h))):=(HR4.out.cellAt h (by omega)).trans (truV_get (n:=j) (h:=h) (by omega));have e4:=HR4.out.frozenAt h;have NX:Hid (∀X:Bool,X=decide (KQ l j i (h+1) h)→(wr.setCell ⟨G,h,none⟩ (.bool X)).ownsRow w.heap.size 4 1 (.slice (some ⟨G,0,none⟩) j j) j (truV (KQ l j i (h+1)) j)):=fun X hX=>by
           obtain⟨st,_⟩:=HR4.out.stored h (.bool X)
           rw[truV_set (g:=KQ l j i (h+1)) X hX (fun x _ hne=>by
            have:x<h+1↔x<h:=by omega
            simp only[KQ,this])]at st
           exact st
          have HB5:Hid (∀v,Below wa.heap.size wa (wr.setCell ⟨G,h,none⟩ v)):=fun v=>HB4.out.setCell (by simp[HG.out]) _
          clear horow hri hri' hvi hbe;have hhj':(h:Int)<(j:Int):=by omega
          have hij':(i:Int)<(j:Int):=by omega
          have hhi':(h:Int)<(i:Int):=by omega
          cases hD:decide (KQ l j i (h) h)with
          | true=>
           rw[hD]at e3
           have X1:Hid ((wr.setCell ⟨G,h,none⟩ (.bool true)).ownsRow w.heap.size 4 1 (.slice (some ⟨G,0,none⟩) j j) j (truV (KQ l j i (h+1)) j)):=NX.out true (by
            have:=of_decide_eq_true hD
            symm
            apply decide_eq_true;rcases this with h1|h1|h1
            ·exact .inl h1
            ·exact .inr (.inl h1)
            ·exact absurd h1.1 (by omega))
           clear hD NX;go_wp2;exact⟨⟨h+1,by omega,by go_num,X1.out,HB5.out _⟩,by simp[intOf];omega⟩
          | false=>
           rw[hD]at e3;obtain⟨X,hX⟩:∃X,X=decide (Kn l h i):=⟨_,rfl⟩;rw[←hX]at e2
           have X1:Hid ((wr.setCell ⟨G,h,none⟩ (.bool X)).ownsRow w.heap.size 4 1 (.slice (some ⟨G,0,none⟩) j j) j (truV (KQ l j i (h+1)) j)):=NX.out X (by
            have:=of_decide_eq_false hD;rw[hX];refine decide_eq_decide.2 ⟨fun h1=>.inr (.inr ⟨by omega,h1⟩),fun h1=>?_⟩;rcases h1 with h1|h1|h1
            ·exact(this (.inl h1)).elim
            ·exact(this (.inr (.inl h1))).elim
            ·exact h1.2)
           clear hD NX hX;go_wp2;exact⟨⟨h+1,by omega,by go_num,X1.out,HB5.out _⟩,by simp[intOf];omega⟩
         ·have hhi':h=i:=by omega
          subst hhi';have HN2:Hid (wr.ownsRow w.heap.size 4 1 (.slice (some ⟨G,0,none⟩) j j) j (truV (KP l j h) j)):=by
           show World.ownsRow _ _ _ _ _ _ _
           rw[←truV_congr (f:=KQ l j h h) (fun x _=>by
            rw[HST.out];constructor
            ·rintro(h1|⟨_,h1|h1⟩)
             ·exact .inl h1
             ·exact .inr (.inl h1)
             ·exact .inr (.inr ⟨h1.lt.1,h1⟩)
            ·rintro(h1|h1|h1)
             ·exact .inl h1
             ·exact .inr ⟨trivial,.inl h1⟩
             ·exact .inr ⟨trivial,.inr h1.2⟩)]
           exact HR4.out
          clear hbe;go_wp2;exact⟨⟨h,by omega,by go_num,HN2.out,HB4.out⟩,by simp[intOf]⟩
  ·have hjn:j=n:=by omega
   subst hjn;have hform:∃a c,u3=.slice a j c:=by
    rcases HO.out.2 with⟨hv,h0⟩|⟨g,cap,cur,hv,_⟩
    ·exact⟨none,0,by rw[hv,h0]⟩
    ·exact⟨_,_,hv⟩
   obtain⟨a',c',rfl⟩:=hform;go_wp2;go_ret;exact⟨⟨a',c',ks,rfl,HKL.out,HO.out,HKR.out⟩,HB.out⟩
set_option maxHeartbeats 3200000 in
set_option maxRecDepth 100000 in
theorem race_any (Bl : Nat) (al : Option Addr) (cl : Nat) (l : List Did) (w : World) (h : w.ownsRow Bl 136 4 (.slice al l.length cl) l.length (l.flatMap didV)) (hlen : l.length ≤ 400) (hpk : ∀ d ∈ l, 1 ≤ d.pick) :
    Calls Tryz.prog 50 #[.slice al l.length cl] w fun e w' => (∃ r, e = .returned (.int .i64 r) ∧ RaceNo l r) ∧ Below w.heap.size w w' := by
  have HM : Hid (w.ownsRow Bl 136 4 (.slice al l.length cl) l.length (l.flatMap didV)) := h
  have HPK : Hid (∀ d ∈ l, 1 ≤ d.pick) := hpk
  clear hpk
  go_enter Tryz.func50, Tryz.ntmps50
  go_wp2_with fail
  refine (known_any Bl al cl l w h hlen).mono ?_
  rintro e w1 ⟨⟨x, c, ks, rfl, hkl, hown, hkr⟩, hb1⟩
  obtain ⟨n, hn⟩ : ∃ n, n = l.length := ⟨_, rfl⟩
  have HN : Hid (n = l.length) := hn
  rw [← hn] at hlen hown hkl ⊢
  have HO : Hid (w1.ownsRow w.heap.size 139 1 (.slice x n c) n ks) := hown
  have HKR : Hid (KR w1 w.heap.size l ks) := hkr
  have HKL : Hid (ks.length = n) := hkl
  have HB1 : Hid (Below w.heap.size w w1) := hb1
  have hs1 := hb1.size
  clear hn hown hkr hkl hb1 h
  go_wp2
  go_loopw [4] (fun jv wr => ∃ j : Nat, j ≤ n ∧ jv = .int .i64 j ∧ (∀ j', j' < j → ¬ RaceAt l j') ∧ Below w1.heap.size w1 wr) (fun jv _ => n - (intOf jv).toNat)
  case atStart => exact ⟨0, Nat.zero_le _, rfl, fun _ h => by omega, Below.refl _ _⟩
  case round =>
    obtain ⟨j, hj, rfl, hno, hbe⟩ := hrel
    have HNO : Hid (∀ j', j' < j → ¬ RaceAt l j') := hno
    have HB : Hid (Below w1.heap.size w1 wr) := hbe
    have hsz := hbe.size
    clear hno
    by_cases hlt : j < n
    · obtain ⟨b, hb⟩ : ∃ m, l[j]? = some m := ⟨l[j]'(by rw [← HN.out]; exact hlt), List.getElem?_eq_getElem _⟩
      have HLB : Hid (l[j]? = some b) := hb
      have hjj : decide ((j : Int) < (n : Int)) = true := by simp; omega
      obtain ⟨wa, rfl⟩ : ∃ wa, wa = wr := ⟨_, rfl⟩
      have hdr := rowLater HM.out (HB1.out.trans (hbe.mono hs1))
      obtain ⟨g, cap', hv, _, _⟩ := HM.out.form (by rw [← HN.out]; omega)
      rw [← HN.out] at hv
      cases hv
      rw [← HN.out] at hdr
      have r0 := didAt hdr HN.out j b hb 0 (by decide) _ rfl
      have r1 := didAt hdr HN.out j b hb 1 (by decide) _ rfl
      have r2 := didAt hdr HN.out j b hb 2 (by decide) _ rfl
      have r3 := didAt hdr HN.out j b hb 3 (by decide) _ rfl
      rw [Nat.add_zero] at r0
      clear hb hbe hdr
      by_cases hgp : b.what = 103 ∨ b.what = 112
      · have YC : (((b.what.toNat : Int) == 103) = true ∧ ((b.what.toNat : Int) != 103) = false ∧ ((b.what.toNat : Int) == 112) = false ∧ ((b.what.toNat : Int) != 112) = true) ∨ (((b.what.toNat : Int) == 103) = false ∧ ((b.what.toNat : Int) != 103) = true ∧ ((b.what.toNat : Int) == 112) = true ∧ ((b.what.toNat : Int) != 112) = false) := by
          rcases hgp with h | h <;> rw [h]
          · exact .inl ⟨rfl, rfl, rfl, rfl⟩
          · exact .inr ⟨rfl, rfl, rfl, rfl⟩
        have HGP : Hid (b.what = 103 ∨ b.what = 112) := hgp
        clear hgp
        rcases YC with ⟨y1, y2, y3, y4⟩ | ⟨y1, y2, y3, y4⟩
        all_goals
          go_wp2
          go_loopw [6] (fun iv wr => ∃ i : Nat, i ≤ j ∧ iv = .int .i64 i ∧ (∀ i' a, i' < i → l[i']? = some a → Confl a b → Kn l i' j) ∧ Below (wa.heap.size + 1) (wa.alloc (.cells #[.int .i64 b.pick, .int .i64 b.thread, .int .u8 b.what.toNat, .int .u8 b.of.toNat] 136)) wr) (fun iv _ => j - (intOf iv).toNat)
          case atStart => exact ⟨0, Nat.zero_le _, rfl, fun _ _ h => by omega, Below.refl _ _⟩
          case round =>
            obtain ⟨i, hi, rfl, hno2, hbe⟩ := hrel
            have HNO2 : Hid (∀ i' a, i' < i → l[i']? = some a → Confl a b → Kn l i' j) := hno2
            clear hno2
            have hbw : Below wa.heap.size wa wr := ((Below.refl _ wa).alloc (Nat.le_refl _) _).trans (hbe.mono (by omega))
            have HBW : Hid (Below w1.heap.size w1 wr) := HB.out.trans (hbw.mono hsz)
            have HBI : Hid (Below (wa.heap.size + 1) (wa.alloc (.cells #[.int .i64 b.pick, .int .i64 b.thread, .int .u8 b.what.toNat, .int .u8 b.of.toNat] 136)) wr) := hbe
            have hszw := hbe.size
            rw [show (wa.alloc (.cells #[.int .i64 b.pick, .int .i64 b.thread, .int .u8 b.what.toNat, .int .u8 b.of.toNat] 136)).heap.size = wa.heap.size + 1 by simp] at hszw
            have cb := fun (q : Nat) (v : Value) (hv : #[Value.int .i64 b.pick, .int .i64 b.thread, .int .u8 b.what.toNat, .int .u8 b.of.toNat][q]? = some v) => (hbe.cell (p := ⟨wa.heap.size, q, none⟩) (by simp)).trans ((World.cell?_alloc_at _ _ _ _ rfl).trans hv)
            have b0 := cb 0 _ rfl
            have b1 := cb 1 _ rfl
            have b2 := cb 2 _ rfl
            have b3 := cb 3 _ rfl
            clear cb hbe hbw
            by_cases hij : i < j
            · obtain ⟨a, ha⟩ : ∃ m, l[i]? = some m := ⟨l[i]'(by rw [← HN.out]; omega), List.getElem?_eq_getElem _⟩
              have hdr := rowLater HM.out (HB1.out.trans (HBW.out.mono hs1))
              rw [← HN.out] at hdr
              have p0 := didAt hdr HN.out i a ha 0 (by decide) _ rfl
              have p1 := didAt hdr HN.out i a ha 1 (by decide) _ rfl
              have p2 := didAt hdr HN.out i a ha 2 (by decide) _ rfl
              have p3 := didAt hdr HN.out i a ha 3 (by decide) _ rfl
              rw [Nat.add_zero] at p0
              have horow := rowLater HO.out HBW.out
              obtain ⟨vj, hvj⟩ : ∃ v, ks[j]? = some v := ⟨ks[j]'(by rw [HKL.out]; exact hlt), List.getElem?_eq_getElem _⟩
              obtain ⟨aj, rfl, hrj⟩ := HKR.out j vj hvj
              have hrj' := rowLater hrj HBW.out
              obtain ⟨go, co, hvo, _, _⟩ := horow.form (by omega)
              obtain ⟨gj, cj, hvj2, _, _⟩ := hrj.form (by omega)
              cases hvj2
              cases hvo
              have e1 : wr.cell? ⟨go, j, none⟩ = some (.slice (some ⟨gj, 0, none⟩) j j) := (horow.cellAt j (by omega)).trans hvj
              have e2 : wr.cell? ⟨gj, i, none⟩ = some (.bool (decide (Kn l i j))) := (hrj'.cellAt i (by omega)).trans (truV_get hij)
              have HLA : Hid (l[i]? = some a) := ha
              have hgo : go < wr.heap.size := (horow.lt go rfl).2
              have hgj : gj < wr.heap.size := (hrj'.lt gj rfl).2
              have hwaw : wa.heap.size < wr.heap.size := by omega
              have hij' : (i : Int) < (j : Int) := by omega
              have hin' : (i : Int) < (n : Int) := by omega
              have hjn' : (j : Int) < (n : Int) := by omega
              clear hdr horow hvj hrj hrj' ha r0 r1 r2 r3
              have HSK : Hid ((Confl a b → Kn l i j) → ∀ i' a', i' < i + 1 → l[i']? = some a' → Confl a' b → Kn l i' j) := fun hc i' a' h1 h2 h3 => by
                by_cases e : i' = i
                · subst e
                  rw [HLA.out] at h2
                  cases h2
                  exact hc h3
                · exact HNO2.out i' a' (by omega) h2 h3
              have HBA : Hid (∀ o, Below (wa.heap.size + 1) (wa.alloc (.cells #[.int .i64 b.pick, .int .i64 b.thread, .int .u8 b.what.toNat, .int .u8 b.of.toNat] 136)) (wr.alloc o)) := fun o => HBI.out.alloc (by omega) o
              have HBZ : Hid (∀ o, Below w.heap.size w (wr.alloc o)) := fun o => HB1.out.trans ((HBW.out.mono hs1).alloc (by omega) o)
              have OE : Hid (∀ q, ((a.of.toNat : Int) == (b.of.toNat : Int)) = q → (a.of == b.of) = q) := fun q h => by rw [← u8q]; exact h
              have XC : (((a.what.toNat : Int) == 112) = true ∧ ((a.what.toNat : Int) == 103) = false) ∨ (((a.what.toNat : Int) == 112) = false ∧ ((a.what.toNat : Int) == 103) = true) ∨ (((a.what.toNat : Int) == 112) = false ∧ ((a.what.toNat : Int) == 103) = false) := by
                by_cases h1 : a.what = 112
                · left; rw [h1]; exact ⟨rfl, rfl⟩
                · right
                  have h2 : ((a.what.toNat : Int) == 112) = false := u8g h1
                  by_cases h3 : a.what = 103
                  · left; rw [h3]; exact ⟨rfl, rfl⟩
                  · right; exact ⟨h2, u8g h3⟩
              have AW : Hid (∀ q, ((a.what.toNat : Int) == 112) = q → (a.what == 112) = q) := fun q h => by rw [← u8q]; exact h
              have AG : Hid (∀ q, ((a.what.toNat : Int) == 103) = q → (a.what == 103) = q) := fun q h => by rw [← u8q]; exact h
              have BW : Hid (∀ q, ((b.what.toNat : Int) == 112) = q → (b.what == 112) = q) := fun q h => by rw [← u8q]; exact h
              have SC : ((a.of.toNat : Int) == (b.of.toNat : Int)) = false ∨ (((a.of.toNat : Int) == (b.of.toNat : Int)) = true ∧ (a.thread != b.thread) = false) ∨ (((a.of.toNat : Int) == (b.of.toNat : Int)) = true ∧ (a.thread != b.thread) = true) := by
                cases ((a.of.toNat : Int) == (b.of.toNat : Int)) <;> cases (a.thread != b.thread) <;> simp
              rcases SC with s1 | ⟨s1, s2⟩ | ⟨s1, s2⟩
              · have CT : Hid (∀ i' a', i' < i + 1 → l[i']? = some a' → Confl a' b → Kn l i' j) := HSK.out fun hc => by
                  have := OE.out _ s1
                  rw [hc.1] at this
                  simp at this
                rcases XC with ⟨x1, x2⟩ | ⟨x1, x2⟩ | ⟨x1, x2⟩
                all_goals
                  go_wp2
                  exact ⟨⟨i + 1, by omega, by go_num, CT.out, HBA.out _⟩, by simp [intOf]; omega⟩
              · have CT : Hid (∀ i' a', i' < i + 1 → l[i']? = some a' → Confl a' b → Kn l i' j) := HSK.out fun hc => by
                  have := hc.2.1
                  simp at s2
                  exact absurd s2 this
                rcases XC with ⟨x1, x2⟩ | ⟨x1, x2⟩ | ⟨x1, x2⟩
                all_goals
                  go_wp2
                  exact ⟨⟨i + 1, by omega, by go_num, CT.out, HBA.out _⟩, by simp [intOf]; omega⟩
              · cases hD : decide (Kn l i j) with
                | true =>
                  rw [hD] at e2
                  have CT : Hid (∀ i' a', i' < i + 1 → l[i']? = some a' → Confl a' b → Kn l i' j) := HSK.out fun _ => of_decide_eq_true hD
                  clear hD
                  rcases XC with ⟨x1, x2⟩ | ⟨x1, x2⟩ | ⟨x1, x2⟩
                  all_goals
                    go_wp2
                    exact ⟨⟨i + 1, by omega, by go_num, CT.out, HBA.out _⟩, by simp [intOf]; omega⟩
                | false =>
                  rw [hD] at e2
                  have hnk : ¬ Kn l i j := of_decide_eq_false hD
                  clear hD
                  have HRC : Hid ((a.what = 112 ∧ (b.what = 103 ∨ b.what = 112) ∨ a.what = 103 ∧ b.what = 112) → RaceNo l b.pick) := fun hw => by
                    refine .inr ⟨HPK.out b (List.mem_of_getElem? HLB.out), j, b, HLB.out, rfl, ⟨i, a, b, hij, HLA.out, HLB.out, ⟨?_, ?_, hw⟩, hnk⟩, HNO.out⟩
                    · have := OE.out _ s1
                      simpa using this
                    · simpa using s2
                  have CT : Hid (¬ (a.what = 112 ∧ (b.what = 103 ∨ b.what = 112) ∨ a.what = 103 ∧ b.what = 112) → ∀ i' a', i' < i + 1 → l[i']? = some a' → Confl a' b → Kn l i' j) := fun hw => HSK.out fun hc => absurd hc.2.2 hw
                  clear hnk
                  by_cases ww : a.what = 112 ∧ (b.what = 103 ∨ b.what = 112) ∨ a.what = 103 ∧ b.what = 112
                  · have HW : Hid (RaceNo l b.pick) := HRC.out ww
                    clear CT HRC XC
                    rcases ww with ⟨w3, _⟩ | ⟨w3, w4⟩
                    · have x1 : ((a.what.toNat : Int) == 112) = true := by rw [w3]; rfl
                      have x2 : ((a.what.toNat : Int) == 103) = false := by rw [w3]; rfl
                      clear w3
                      go_wp2
                      go_ret
                      exact ⟨⟨_, rfl, HW.out⟩, HBZ.out _⟩
                    · have x1 : ((a.what.toNat : Int) == 112) = false := by rw [w3]; rfl
                      have x2 : ((a.what.toNat : Int) == 103) = true := by rw [w3]; rfl
                      have y5 := y3
                      rw [w4] at y5
                      clear w3 w4
                      first
                        | exact absurd y5 (by decide)
                        | (clear y5
                           go_wp2
                           go_ret
                           exact ⟨⟨_, rfl, HW.out⟩, HBZ.out _⟩)
                  · have CT2 : Hid (∀ i' a', i' < i + 1 → l[i']? = some a' → Confl a' b → Kn l i' j) := CT.out ww
                    have WW : Hid (¬ (a.what = 112 ∧ (b.what = 103 ∨ b.what = 112) ∨ a.what = 103 ∧ b.what = 112)) := ww
                    clear ww CT HRC
                    rcases XC with ⟨x1, x2⟩ | ⟨x1, x2⟩ | ⟨x1, x2⟩
                    · exact absurd (.inl ⟨by simpa using AW.out _ x1, HGP.out⟩) WW.out
                    · have y6 := BW.out _ y3
                      have a6 : a.what = 103 := by simpa using AG.out _ x2
                      have w6 := WW.out
                      rw [a6] at w6
                      first
                        | (have b6 : b.what = 112 := eq_of_beq y6
                           rw [b6] at w6
                           exact absurd (.inr ⟨rfl, rfl⟩) w6)
                        | (clear y6 a6 w6
                           go_wp2
                           exact ⟨⟨i + 1, by omega, by go_num, CT2.out, HBA.out _⟩, by simp [intOf]; omega⟩)
                    · go_wp2
                      exact ⟨⟨i + 1, by omega, by go_num, CT2.out, HBA.out _⟩, by simp [intOf]; omega⟩
            · have hij' : i = j := by omega
              subst hij'
              have HN3 : Hid (∀ j', j' < i + 1 → ¬ RaceAt l j') := fun j' h' => by
                by_cases e : j' = i
                · subst e
                  rintro ⟨q, a, b', h1, h2, h3, h4, h5⟩
                  rw [HLB.out] at h3
                  cases h3
                  exact h5 (HNO2.out q a h1 h2 h4)
                · exact HNO.out j' (by omega)
              go_wp2
              exact ⟨⟨i + 1, by omega, by go_num, HN3.out, HBW.out⟩, by simp [intOf]; omega⟩
      · have y1 : ((b.what.toNat : Int) != 103) = true := by
          have : b.what ≠ 103 := fun h => hgp (.inl h)
          have := u8g this
          simpa using this
        have y2 : ((b.what.toNat : Int) != 112) = true := by
          have : b.what ≠ 112 := fun h => hgp (.inr h)
          have := u8g this
          simpa using this
        have HNO2 : Hid (∀ j', j' < j + 1 → ¬ RaceAt l j') := fun j' h' => by
          by_cases e : j' = j
          · subst e
            rintro ⟨i, a, b', h1, h2, h3, h4, h5⟩
            rw [HLB.out] at h3
            cases h3
            rcases h4.2.2 with ⟨_, h6⟩ | ⟨_, h6⟩
            · exact hgp h6
            · exact hgp (.inr h6)
          · exact HNO.out j' (by omega)
        go_wp2
        go_roundw
        case rel => exact ⟨j + 1, by omega, by go_num, HNO2.out, HB.out.alloc (by omega) _⟩
        case measure => simp [intOf]; omega
    · have hjn : j = n := by omega
      subst hjn
      have HR : Hid (RaceNo l 0) := .inl ⟨rfl, fun j' h' => by
        by_cases hl : j' < j
        · exact HNO.out j' hl h'
        · have := h'.lt
          rw [← HN.out] at this
          omega⟩
      have HBF : Hid (Below w.heap.size w wr) := HB1.out.trans (hbe.mono hs1)
      clear hbe
      go_wp2
      go_ret
      exact ⟨⟨0, rfl, HR.out⟩, HBF.out⟩
theorem upto_upK(P:PS)(q:List UInt8)(k:Nat):P.upto q k=P.upK q k∧P.done q k=P.doneK q k:=by
 induction k with
 | zero=>exact⟨rfl,rfl⟩
 | succ k ih=>
  rw[PS.upto,PS.upK,PS.done,PS.doneK,ih.1,ih.2];cases q[k]?<;>exact⟨rfl,rfl⟩
def RefRunOut(w:World)(p q:List UInt8)(v:Value)(w':World):Prop:=
 ∃a3 a4 c4 r,v=.agg #[.string ⟨((PS.start p).done q q.length).toArray⟩,sv ((PS.start p).upto q q.length).pr,.slice a3 3 3,.slice a4 ((PS.start p).upto q q.length).regs.length c4,.int .i64 r,sv ((PS.start p).upto q q.length).stuck]∧RaceNo ((PS.start p).upto q q.length).st r ∧
  w'.ownsRow w.heap.size 3 1 (.slice a3 3 3) 3 (((PS.start p).upto q q.length).gl.map iv)∧w'.ownsRow w.heap.size 3 1 (.slice a4 ((PS.start p).upto q q.length).regs.length c4) ((PS.start p).upto q q.length).regs.length (((PS.start p).upto q q.length).regs.map iv)
theorem RefRunOut.drew{w w':World}{p q:List UInt8}{v:Value}(h:RefRunOut w p q v w'):RefRunOut w p q v w'.drew:=by
 obtain⟨a3,a4,c4,r,h1,h2,h3,h4⟩:=h;exact⟨a3,a4,c4,r,h1,h2,rowLater h3 (below_drewN' _ _ 1),rowLater h4 (below_drewN' _ _ 1)⟩
theorem picks_pos(P:PS)(h:∀d∈P.st,1≤d.pick)(q:List UInt8)(k:Nat):∀d∈(P.upto q k).st,1≤d.pick:=by
 induction k with
 | zero=>exact h
 | succ k ih=>
  rw[PS.upto];cases q[k]? with
  | none=>exact ih
  | some c=>
   simp only[];rcases pick_st (P.upto q k) (k+1) c with e|⟨d',hd,e⟩
   ·rw[e];exact ih
   ·rw[e];intro d hd';rw[List.mem_append,List.mem_singleton]at hd';rcases hd' with hd'|rfl
    ·exact ih d hd'
    ·rw[hd];omega
set_option maxHeartbeats 1000000 in
set_option maxRecDepth 100000 in
theorem refRun_ok(s q:ByteArray)(b:Int)(w:World)(hs:s.size≤240)(hq:q.size≤400)(hc:ChkIs s 0 b)(hok:(PS.start s.data.toList).Ok 240)(h4:(splitBar s.data.toList).length≤4) :
  Calls Tryz.prog 33 #[.string s,.string q] w fun e w'=>∃v,e=.returned (.tuple #[v,.int .i64 0])∧RefRunOut w s.data.toList q.data.toList v w'∧Below w.heap.size w w':=by
 obtain⟨i0,hi0,hz0,hz1,hz2⟩:=info_parts Tryz.infoByte;have HC:Hid (ChkIs s 0 b):=hc;have HOK:Hid ((PS.start s.data.toList).Ok 240):=hok;have H4:Hid ((splitBar s.data.toList).length≤4):=h4;clear hc hok h4;obtain⟨w0,hw0⟩:∃w0,w0=w.alloc (.cells #[.string ⟨#[]⟩,.string ⟨#[]⟩,.slice none 0 0,.slice none 0 0,.int .i64 0,.string ⟨#[]⟩] 71):=⟨_,rfl⟩;have HS0:Hid (w0.heap.size=w.heap.size+1):=by show _=_;rw[hw0];simp
 have HR0:Hid (Blk w0 w.heap.size [.string ⟨#[]⟩,.string ⟨#[]⟩,.slice none 0 0,.slice none 0 0,.int .i64 0,.string ⟨#[]⟩] 71):=by show Blk _ _ _ _;rw[hw0];exact heap_alloc_new _ _
 have HB0:Hid (Below w.heap.size w w0):=by show Below _ _ _;rw[hw0];exact(Below.refl _ _).alloc (Nat.le_refl _) _
 have HW0:Hid (w0=w.alloc (.cells #[.string ⟨#[]⟩,.string ⟨#[]⟩,.slice none 0 0,.slice none 0 0,.int .i64 0,.string ⟨#[]⟩] 71)):=hw0;clear hw0
 go_enter Tryz.func33,Tryz.ntmps33
 go_wp2_with fail
 refine(refCheck_any s _ (by unfold maxLen;omega)).mono ?_;rintro e w' ⟨a',b',rfl,hc',hw'⟩;obtain⟨rfl,rfl⟩:=HC.out.unique hc';rw[hw',←HW0.out];clear hc' hw' w'
 go_wp2_with fail
 refine(begin_any s w0 hs H4.out).mono ?_;rintro e w1 ⟨rfl,hpm,hb1⟩;obtain⟨B,hB⟩:∃B,B=w0.heap.size:=⟨_,rfl⟩;rw[←hB]at hpm hb1 ⊢;have HPM:Hid (PM w1 B (PS.start s.data.toList)):=hpm;have HB1:Hid (Below B w0 w1):=hb1;have HBw:Hid (B=w.heap.size+1):=by show _=_;rw[hB];exact HS0.out
 have hB0:w0.heap.size=B:=hB.symm;have hBw:w.heap.size<B:=by have:=HBw.out;omega
 clear hpm hb1 hB;go_wp2
 go_loopw [9,10] (fun v iv wr=>∃k:Nat,k≤q.size∧iv=.int .i64 k∧PM wr B ((PS.start s.data.toList).upto q.data.toList k)∧wr.ownsRow (B+2) 5 1 v ((PS.start s.data.toList).done q.data.toList k).length (byV ((PS.start s.data.toList).done q.data.toList k))∧Below B w0 wr) (fun _ iv _=>q.size-(intOf iv).toNat)
 case atStart=>exact⟨0,Nat.zero_le _,rfl,HPM.out,World.ownsRow_nil _ _ _ _,HB1.out⟩
 case round=>
  obtain⟨k,hk,rfl,hpm,hown,hbe⟩:=hrel;have HP:Hid (PM wr B ((PS.start s.data.toList).upto q.data.toList k)):=hpm;have HO:Hid (wr.ownsRow (B+2) 5 1 u9 ((PS.start s.data.toList).done q.data.toList k).length (byV ((PS.start s.data.toList).done q.data.toList k))):=hown;have HB:Hid (Below B w0 wr):=hbe;obtain⟨ok1,ok2,ok3,ok4,ok5⟩:=upto_ok HOK.out q.data.toList k;have ok2':((PS.start s.data.toList).upto q.data.toList k).pr.length≤k:=by simpa[PS.start]using ok2
  have ok3':((PS.start s.data.toList).upto q.data.toList k).st.length≤k:=by simpa[PS.start]using ok3
  have hsz:=hbe.size;clear hpm hown hbe ok2 ok3
  by_cases hlt:k<q.size
  ·have hqk:q.data.toList[k]?=some q[k]:=byteAt q k hlt;have HU:Hid ((PS.start s.data.toList).upto q.data.toList (k+1)=(((PS.start s.data.toList).upto q.data.toList k).pick ((k:Int)+1) q[k]).1):=by
    show _=_;rw[PS.upto,hqk]
   have HD:Hid ((PS.start s.data.toList).done q.data.toList (k+1)=(PS.start s.data.toList).done q.data.toList k++[(((PS.start s.data.toList).upto q.data.toList k).pick ((k:Int)+1) q[k]).2]):=by
    show _=_;rw[PS.done,hqk]
   obtain⟨P,hP⟩:∃P,P=(PS.start s.data.toList).upto q.data.toList k:=⟨_,rfl⟩;obtain⟨D,hD⟩:∃D,D=(PS.start s.data.toList).done q.data.toList k:=⟨_,rfl⟩;rw[←hP]at HU HD HP ok1 ok2' ok3' ok4;rw[←hD]at HD HO ok5;clear hP hD hqk
   go_wp2_with fail
   refine(pickRef_any ok1 (by omega) (by omega) (by omega) ((k:Int)+1) q[k] wr B HP.out).mono ?_;rintro e w2 ⟨rfl,hpm2,hfr⟩;have HP2:Hid (PM w2 B (P.pick ((k:Int)+1) q[k]).1):=hpm2;have HO2:Hid (w2.ownsRow (B+2) 5 1 u9 D.length (byV D)):=hfr.bytes HO.out;have HB2:Hid (Below B w0 w2):=HB.out.trans hfr.below;have hsz2:B+2≤w2.heap.size:=by
    obtain⟨_,_,_,_,_,_,_,_,h⟩:=hpm2;have:=h.hb;omega
   obtain⟨ch,hch⟩:∃ch,ch=(P.pick ((k:Int)+1) q[k]).2:=⟨_,rfl⟩;rw[←hch]at HD ⊢;clear hpm2 hfr hch ok1;have HE:Hid (byV (D++[ch])=byV D++[.int .u8 (ch.toNat:Int)]):=by show _=_;simp[byV]
   go_wp2_with (at_builtin;refine wpList_append_own _ rfl _ _ 91 rfl (B+2) 5 i0 _ 1 1 Tryz.underlying91 hi0 hz0 hz1 hz2 rfl (by decide) u9 D.length (byV D) rfl (HO2.out.alloc _) ⟨w2.heap.size,0,none⟩ 1 1 [.int .u8 (ch.toNat:Int)] rfl rfl ?hnews ?h1 ?h63 ?hby ?hbase ?next)
   case hnews=>exact World.news_of_block (heap_alloc_new _ _)
   case h1=>intro u hu;simp at hu;subst hu;rfl
   case h63=>unfold maxLen;omega
   case hby=>omega
   case hbase=>simp;omega
   case next=>
    intro v' w3 hown3 hgrow _;have HB3:Hid (Below B w0 w3):=(HB2.out.alloc (by omega) _).grown hgrow (by simp;omega) (fun q hq=>by have:=(HO2.out.lt q hq).1;omega);have HP3:Hid (PM w3 B (P.pick ((k:Int)+1) q[k]).1):=(HP2.out.later ((Below.refl _ _).alloc (Nat.le_refl _) _)).kept (HO2.out.alloc _) hgrow;have HO3:Hid (w3.ownsRow (B+2) 5 1 v' (D++[ch]).length (byV (D++[ch]))):=by
     show World.ownsRow _ _ _ _ _ _ _;rw[HE.out,List.length_append];exact hown3
    clear hown3 hgrow;go_wp2
    go_roundw
    case rel=>exact⟨k+1,by omega,by go_num,by rw[HU.out];exact HP3.out,by rw[HD.out];exact HO3.out,HB3.out⟩
    case measure=>simp[intOf];omega
  ·have hkq:k=q.size:=by omega
   have hkl:q.data.toList.length=k:=by rw[len_eq];omega
   have HPK:=picks_pos (PS.start s.data.toList) (fun d hd=>by simp[PS.start]at hd) q.data.toList k;obtain⟨P,hP⟩:∃P,P=(PS.start s.data.toList).upto q.data.toList k:=⟨_,rfl⟩;obtain⟨D,hD⟩:∃D,D=(PS.start s.data.toList).done q.data.toList k:=⟨_,rfl⟩;have HPE:Hid (P=(PS.start s.data.toList).upto q.data.toList q.data.toList.length∧D=(PS.start s.data.toList).done q.data.toList q.data.toList.length):=by rw[hkl];exact⟨hP,hD⟩
   rw[←hP]at HP ok1 ok2' ok3' ok4 HPK;rw[←hD]at HO ok5;have HPKK:Hid (∀d∈P.st,1≤d.pick):=HPK;clear hP hD hkl HPK;obtain⟨at',ah,ar,as',ct,ch,cr,cs,hpd⟩:=HP.out;have HPD:Hid (PD wr B P at' ah ar as' ct ch cr cs):=hpd;have c5:=hpd.c5;have hhb:=hpd.hb;clear hpd
   go_wp2_with fail
   refine(race_any (B+2) as' cs P.st wr HPD.out.r5 (by omega) HPKK.out).mono ?_;rintro e w2 ⟨⟨r,rfl,hrn⟩,hb2⟩;have HRN:Hid (RaceNo P.st r):=hrn;have HP2:Hid (PM w2 B P):=HP.out.later hb2;have HBB2:Hid (Below wr.heap.size wr w2):=hb2;clear hrn hb2 c5
   go_wp2_with fail
   refine(stuck_any ok1 (by omega) w2 B HP2.out).mono ?_;rintro e w3 ⟨rfl,rfl⟩;clear HP HPD hhb HPKK;obtain⟨at2,ah2,ar2,as2,ct2,ch2,cr2,cs2,hpd⟩:=HP2.out;have HPD:Hid (PD w3 B P at2 ah2 ar2 as2 ct2 ch2 cr2 cs2):=hpd;have c2:=hpd.c2;have c3:=hpd.c3;have c4:=hpd.c4;have hhb:=hpd.hb;obtain⟨sp,hsp⟩:∃x:ByteArray,x=⟨P.pr.toArray⟩:=⟨_,rfl⟩;obtain⟨ss,hss⟩:∃x:ByteArray,x=⟨P.stuck.toArray⟩:=⟨_,rfl⟩;obtain⟨sd,hsd⟩:∃x:ByteArray,x=⟨D.toArray⟩:=⟨_,rfl⟩;obtain⟨nr,hnr⟩:∃n,n=P.regs.length:=⟨_,rfl⟩;have e4:sv P.pr=.string sp:=by rw[hsp];rfl
   have e5:sv P.stuck=.string ss:=by rw[hss];rfl
   rw[e4]at c4;rw[←hnr]at c2;rw[e5];have HBw3:Hid (Below B w0 w3):=HB.out.trans (HBB2.out.mono (by rw[←hB0];exact hsz));have HR3:Hid (Blk w3 w.heap.size [.string ⟨#[]⟩,.string ⟨#[]⟩,.slice none 0 0,.slice none 0 0,.int .i64 0,.string ⟨#[]⟩] 71):=by
    show _=_;rw[HBw3.out.block w.heap.size hBw];exact HR0.out
   have z0:=HR3.out.cell 0 _ rfl;have z1:=HR3.out.cell 1 _ rfl;have z2:=HR3.out.cell 2 _ rfl;have z3:=HR3.out.cell 3 _ rfl;have z4:=HR3.out.cell 4 _ rfl;have z5:=HR3.out.cell 5 _ rfl;have f0:=HR3.out.fz 0;have f1:=HR3.out.fz 1;have f2:=HR3.out.fz 2;have f3:=HR3.out.fz 3;have f4:=HR3.out.fz 4;have f5:=HR3.out.fz 5;have HO3:Hid (w3.ownsRow (B+2) 5 1 u9 D.length (byV D)):=rowLater HO.out HBB2.out;obtain⟨WS,hWS⟩:∃W,W=((((((w3.setCell ⟨w.heap.size,0,none⟩ (.string sd)).setCell ⟨w.heap.size,1,none⟩ (.string sp)).setCell ⟨w.heap.size,2,none⟩ (.slice (some ⟨B,0,none⟩) 3 3)).setCell ⟨w.heap.size,3,none⟩ (.slice ar2 nr cr2)).setCell ⟨w.heap.size,4,none⟩ (.int .i64 r)).setCell ⟨w.heap.size,5,none⟩ (.string ss)):=⟨_,rfl⟩;have WB:Hid (Blk WS w.heap.size [.string sd,.string sp,.slice (some ⟨B,0,none⟩) 3 3,.slice ar2 nr cr2,.int .i64 r,.string ss] 71):=by
    show Blk _ _ _ _;rw[hWS];exact(((((HR3.out.set 0 _).set 1 _).set 2 _).set 3 _).set 4 _).set 5 _
   have WCh:Chg [w.heap.size] w3 WS:=by
    rw[hWS];exact(((((((Chg.refl [w.heap.size] w3).set (a:=⟨w.heap.size,0,none⟩) (.inl (by simp)) _).set (a:=⟨w.heap.size,1,none⟩) (.inl (by simp)) _).set (a:=⟨w.heap.size,2,none⟩) (.inl (by simp)) _).set (a:=⟨w.heap.size,3,none⟩) (.inl (by simp)) _).set (a:=⟨w.heap.size,4,none⟩) (.inl (by simp)) _).set (a:=⟨w.heap.size,5,none⟩) (.inl (by simp)) _)
   have BW:Hid (Below w.heap.size w WS):=(HB0.out.trans (HBw3.out.mono (by omega))).trans (WCh.below (B:=w.heap.size) (by simp) (by have:=HR3.out.lt;omega));have OUT:Hid (RefRunOut w s.data.toList q.data.toList (.agg #[.string sd,.string sp,.slice (some ⟨B,0,none⟩) 3 3,.slice ar2 nr cr2,.int .i64 r,.string ss]) WS):=by
    obtain⟨g1,g2⟩:=HPE.out;refine⟨some ⟨B,0,none⟩,ar2,cr2,r,?_,?_,?_,?_⟩
    ·rw[←g1,←g2,hsd,e4,e5,hnr]
    ·rw[←g1];exact HRN.out
    ·rw[←g1];exact row_lower (row_chg HPD.out.r3 WCh (fun g hg=>by have:=(HPD.out.r3.lt g hg).1;simp;omega)) (by omega)
    ·rw[←g1];have:=HPD.out.r2;exact row_lower (row_chg this WCh (fun g hg=>by have:=(this.lt g hg).1;simp;omega)) (by omega)
   have HW:Hid (WS=((((((w3.setCell ⟨w.heap.size,0,none⟩ (.string sd)).setCell ⟨w.heap.size,1,none⟩ (.string sp)).setCell ⟨w.heap.size,2,none⟩ (.slice (some ⟨B,0,none⟩) 3 3)).setCell ⟨w.heap.size,3,none⟩ (.slice ar2 nr cr2)).setCell ⟨w.heap.size,4,none⟩ (.int .i64 r)).setCell ⟨w.heap.size,5,none⟩ (.string ss))):=hWS;have hDl:D.length≤400:=by omega
   clear hWS WCh hpd e4 e5 hsp hss hnr ok1 ok2' ok3' ok4 ok5 HPE;rcases HO3.out.2 with⟨hv,hn0⟩|⟨gb,cap,cur,hv,_⟩
   ·have ho:D=[]:=List.eq_nil_of_length_eq_zero hn0;subst hv;subst ho;have hcv:=fun(wx:World)=>run_convert_bytes_nil (P:=Tryz.prog) wx 91 5 Tryz.underlying91 Tryz.underlying5 0 0 9 Tryz.underlying9
    rw[show ByteArray.empty=sd from hsd.symm]at hcv;clear hsd;go_wp2
    go_region
    all_goals
     go_wp2
     (try simp only[Exit.inBlock,Exit.then])
     rw[←HW.out];refine bodyPost_ret (v:=.tuple #[.agg #[.string sd,.string sp,.slice (some ⟨B,0,none⟩) 3 3,.slice ar2 nr cr2,.int .i64 r,.string ss],.int .i64 0]) ?_ rfl ⟨_,rfl,OUT.out.drew,BW.out.drew⟩;have y0:=WB.out.drew.cell 0 _ rfl;have y1:=WB.out.drew.cell 1 _ rfl;have y2:=WB.out.drew.cell 2 _ rfl;have y3:=WB.out.drew.cell 3 _ rfl;have y4:=WB.out.drew.cell 4 _ rfl;have y5:=WB.out.drew.cell 5 _ rfl;rw[results_cell_tmp rfl]
     go_simp
   ·subst hv
    have hcv:=run_convert_bytes_back (P:=Tryz.prog) w3 91 9 5 ⟨gb,0,none⟩ cap D Tryz.underlying91 Tryz.underlying5 Tryz.underlying9 (fun j hj=>by
     rw[addr_at];have:=HO3.out.cellAt j (by omega);rw[this]
     simp[byV,List.getElem?_eq_getElem hj])
    have hcv2:=run_convert_bytes_back (P:=Tryz.prog) w3.drew 91 9 5 ⟨gb,0,none⟩ cap D Tryz.underlying91 Tryz.underlying5 Tryz.underlying9 (fun j hj=>by
     rw[addr_at];have:=HO3.out.cellAt j (by omega);show w3.cell? _=_;rw[this]
     simp[byV,List.getElem?_eq_getElem hj])
    rw[←hsd]at hcv hcv2;clear hsd;go_wp2
    go_region
    all_goals
     go_wp2
     (try simp only[Exit.inBlock,Exit.then])
     rw[←HW.out];refine bodyPost_ret (v:=.tuple #[.agg #[.string sd,.string sp,.slice (some ⟨B,0,none⟩) 3 3,.slice ar2 nr cr2,.int .i64 r,.string ss],.int .i64 0]) ?_ rfl ⟨_,rfl,OUT.out.drew,BW.out.drew⟩;have y0:=WB.out.drew.cell 0 _ rfl;have y1:=WB.out.drew.cell 1 _ rfl;have y2:=WB.out.drew.cell 2 _ rfl;have y3:=WB.out.drew.cell 3 _ rfl;have y4:=WB.out.drew.cell 4 _ rfl;have y5:=WB.out.drew.cell 5 _ rfl;rw[results_cell_tmp rfl]
     go_simp
def RefRunIs(w w':World)(s q:ByteArray)(v:Value)(a:Int):Prop:=
 ∃c b,ChkIs s c b∧((c≠0∧a=c∧v=res0)∨(c=0∧400<q.size∧a=4∧v=res0)∨(c=0∧s.size≤240∧q.size≤400∧a=0∧RefRunOut w s.data.toList q.data.toList v w'))
theorem chk_okR{s:ByteArray}{b:Int}(h:ChkIs s 0 b):s.size≤240∧∃mks,Acc s.data.toList mks∧mks.find? nestB=none:=by
 rcases h with⟨_,h,_⟩|⟨hl,⟨q,_,h,_⟩|⟨m,hm,h,_⟩⟩
 ·exact absurd h (by decide)
 ·exact absurd h (by decide)
 ·refine⟨hl,m,hm,?_⟩;rw[nestOf]at h
  split at h
  ·assumption
  ·exact absurd h (by simp)
theorem refRun_any(s q:ByteArray)(w:World)(hs:s.size≤maxLen)(hq:q.size≤maxLen) :
  Calls Tryz.prog 33 #[.string s,.string q] w fun e w'=>∃v a,e=.returned (.tuple #[v,.int .i64 a])∧RefRunIs w w' s q v a∧Below w.heap.size w w':=by
 obtain⟨c,b,hc⟩:=chk_total s
 by_cases h0:c=0
 ·subst h0
  by_cases h4:400<q.size
  ·exact(refRun_picks s q b w hs hq hc h4).mono fun e w' ⟨he,hb⟩=>⟨res0,4,he,⟨0,b,hc,.inr (.inl ⟨rfl,h4,rfl,rfl⟩)⟩,hb⟩
  ·obtain⟨hz,mks,hacc,hnest⟩:=chk_okR hc;have hz':s.data.toList.length≤240:=by rw[len_eq];exact hz
   have hth:=acc_threads hacc hz' hnest;exact(refRun_ok s q b w hz (by omega) hc (start_ok hacc hz' hnest) hth.1).mono fun e w' ⟨v,he,ho,hb⟩=>⟨v,0,he,⟨0,b,hc,.inr (.inr ⟨rfl,hz,by omega,rfl,ho⟩)⟩,hb⟩
 ·exact(refRun_err s q c b w hs hc h0).mono fun e w' ⟨he,hb⟩=>⟨res0,c,he,⟨c,b,hc,.inl ⟨h0,rfl,rfl⟩⟩,hb⟩
theorem Alike.regs{F:List ST}{P:PS}{ths:List TH}{c:CS}(h:Alike F P ths c):P.regs=ths.map (·.reg):=by
 apply List.ext_getElem?;intro i;rw[List.getElem?_map]
 by_cases hi:i<ths.length
 ·obtain⟨K,s,st⟩:=h.th i ths[i] (List.getElem?_eq_getElem hi);rw[st.reg,List.getElem?_eq_getElem hi];rfl
 ·rw[List.getElem?_eq_none (by rw[h.lenr];omega),List.getElem?_eq_none (by omega)];rfl
def SameRun(w w1 w2 w3:World)(v v':Value):Prop:=
 ∃(sd sp ss:ByteArray) (r:Int) (lg lr:List Int) (a3 a3' a4 a4':Option Addr) (ng nr c3 c3' c4 c4':Nat),
  v=.agg #[.string sd,.string sp,.slice a3 ng c3,.slice a4 nr c4,.int .i64 r,.string ss]∧v'=.agg #[.string sd,.string sp,.slice a3' ng c3',.slice a4' nr c4',.int .i64 r,.string ss]∧ng=lg.length∧nr=lr.length ∧
  w1.ownsRow w.heap.size 3 1 (.slice a3 ng c3) ng (lg.map fun q=>.int .i64 q)∧w1.ownsRow w.heap.size 3 1 (.slice a4 nr c4) nr (lr.map fun q=>.int .i64 q) ∧
  w3.ownsRow w2.heap.size 3 1 (.slice a3' ng c3') ng (lg.map fun q=>.int .i64 q)∧w3.ownsRow w2.heap.size 3 1 (.slice a4' nr c4') nr (lr.map fun q=>.int .i64 q) ∧
  (∀g,(Value.slice a3 ng c3).ownBlock=some g→(Value.slice a4 nr c4).ownBlock≠some g)
theorem RunIs.both{w w1 w2 w3:World}{s q:ByteArray}{v v':Value}{a a':Int}(h:RunIs w w1 s q v a)(h':RefRunIs w2 w3 s q v' a'):a=a'∧SameRun w w1 w2 w3 v v':=by
 obtain⟨c,b,hc,h⟩:=h;obtain⟨c',b',hc',h'⟩:=h';obtain⟨rfl,rfl⟩:=hc.unique hc';have nil:SameRun w w1 w2 w3 resN res0:=⟨⟨#[]⟩,⟨#[]⟩,⟨#[]⟩,0,[],[],none,none,none,none,0,0,0,0,0,0,rfl,rfl,rfl,rfl,World.ownsRow_nil _ _ _ _,World.ownsRow_nil _ _ _ _,World.ownsRow_nil _ _ _ _,World.ownsRow_nil _ _ _ _,fun g hg=>by cases hg⟩;rcases h with⟨h0,rfl,rfl⟩|⟨h0,hz,h4,rfl,rfl⟩|⟨h0,hz,h4,rfl,F,ts,hst,hns,hpr,hro⟩
 ·rcases h' with⟨_,rfl,rfl⟩|⟨g0,_⟩|⟨g0,_⟩
  ·exact⟨rfl,nil⟩
  ·exact absurd g0 h0
  ·exact absurd g0 h0
 ·rcases h' with⟨g0,_⟩|⟨_,_,rfl,rfl⟩|⟨_,_,g4,_⟩
  ·exact absurd h0 g0
  ·exact⟨rfl,nil⟩
  ·omega
 ·rcases h' with⟨g0,_⟩|⟨_,g4,_⟩|⟨_,_,g4,rfl,hrr⟩
  ·exact absurd h0 g0
  ·omega
  ·refine⟨rfl,?_⟩;have hz':s.data.toList.length≤240:=by rw[len_eq];exact hz
   have hf:=(nest_find F).1;rw[hns,Option.bind_none]at hf;have htd:=(acc_threads hst.acc hz' hf).2;obtain⟨al,hd⟩:=Alike.run hpr htd q.data.toList q.data.toList.length;obtain⟨_,hrn⟩:=Ckd.run hpr hpr.n4 htd q.data.toList q.data.toList.length;have hsk:=al.stuck hpr.jok hpr.thr.lastEnd;obtain⟨e1,e2⟩:=upto_upK (PS.start s.data.toList) q.data.toList q.data.toList.length;obtain⟨a3,c3,a4,c4,rfl,r1,r2,r3⟩:=hro;obtain⟨b3,b4,d4,r,rfl,hrn',t1,t2⟩:=hrr;rw[e1]at hrn' t1 t2;have er:=hrn.unique hrn';have eg:=al.gl;have eregs:=al.regs;rw[eg]at t1;rw[eregs]at t2;simp only[List.length_map]at t2;rw[e1,e2,hd,er,hsk,al.pr,eregs];simp only[List.length_map];exact⟨_,_,_,_,_,_,a3,b3,a4,b4,3,_,c3,3,c4,d4,rfl,rfl,by rw[List.length_map,al.gl3],by rw[List.length_map],r1,r2,t1,t2,r3⟩
theorem RunIs.form{w w':World}{s q:ByteArray}{v:Value}{a:Int}(h:RunIs w w' s q v a):∃(sd sp ss:ByteArray) (r:Int) (a3 a4:Option Addr) (ng nr c3 c4:Nat),v=.agg #[.string sd,.string sp,.slice a3 ng c3,.slice a4 nr c4,.int .i64 r,.string ss]:=by
 obtain⟨c,b,_,⟨_,_,rfl⟩|⟨_,_,_,_,rfl⟩|⟨_,_,_,_,F,ts,_,_,_,a3,c3,a4,c4,rfl,_⟩⟩:=h
 ·exact⟨⟨#[]⟩,⟨#[]⟩,⟨#[]⟩,0,none,none,0,0,0,0,rfl⟩
 ·exact⟨⟨#[]⟩,⟨#[]⟩,⟨#[]⟩,0,none,none,0,0,0,0,rfl⟩
 ·exact⟨_,_,_,_,a3,a4,3,_,c3,c4,rfl⟩
set_option maxHeartbeats 3200000 in
set_option maxRecDepth 100000 in
theorem bookRun_any(bk:Nat)(s t:ByteArray)(la:Option Addr)(ln lc:Nat)(gs:List (Option Addr×Nat))(ga:Option Addr)(gc:Nat)(fs:List (Option Addr×Nat))(aa:Option Addr)(ca:Nat)(w:World)(hs:s.size≤maxLen)(ht:t.size≤maxLen)(h:BB w bk gs ga gc fs aa ca)(hb:(gs.length+2)*24≤140737488355328) :
  Calls Tryz.prog 13 #[.pointer (some ⟨bk,0,none⟩),.agg #[.int .i64 4,.string s,.string t,.slice la ln lc]] w fun e w'=>e=.returned (.bool true)∧(∃gs' ga' gc',BB w' bk gs' ga' gc' fs aa ca∧gs'.length=gs.length+2)∧Below bk w w':=by
 have B1:Hid (∀o,Below w.heap.size w (w.alloc o)):=fun o=>(Below.refl _ _).alloc (Nat.le_refl _) o
 have HK:Hid (BB w bk gs ga gc fs aa ca):=h;have hlt:=h.lt;clear h
 go_enter Tryz.func13,Tryz.ntmps13
 go_wp2_with fail
 refine(Run_any s t _ hs ht).mono ?_;rintro e w1 ⟨v,a,rfl,hl1,hb1⟩;obtain⟨sd,sp,ss,r,a3,a4,ng,nr,c3,c4,rfl⟩:=hl1.form;have hc1:w1.cell? ⟨w.heap.size,1,none⟩=some (.string s):=(hb1.cell (p:=⟨w.heap.size,1,none⟩) (by simp)).trans (by rw[World.cell?_alloc_at _ _ _ _ rfl];rfl);have hc2:w1.cell? ⟨w.heap.size,2,none⟩=some (.string t):=(hb1.cell (p:=⟨w.heap.size,2,none⟩) (by simp)).trans (by rw[World.cell?_alloc_at _ _ _ _ rfl];rfl);have hsw1:w.heap.size<w1.heap.size:=by have:=hb1.size;simp at this;omega
 have HL1:Hid (RunIs _ w1 s t (.agg #[.string sd,.string sp,.slice a3 ng c3,.slice a4 nr c4,.int .i64 r,.string ss]) a):=hl1;have HB1:Hid (Below _ _ w1):=hb1;clear hl1 hb1
 go_wp2_with fail
 refine(refRun_any s t _ hs ht).mono ?_;rintro e w2 ⟨v',a',rfl,hl2,hb2⟩;obtain⟨ea,hsame⟩:=HL1.out.both hl2;subst ea;obtain⟨sd',sp',ss',r',lg,lr,b3,b3',b4,b4',ng',nr',d3,d3',d4,d4',ev,ev',hng,hnr,ro1,ro2,ro3,ro4,ap⟩:=hsame;simp only[Value.agg.injEq,Array.mk.injEq,List.cons.injEq,Value.string.injEq,Value.slice.injEq,Value.int.injEq,and_true,true_and]at ev;obtain⟨rfl,rfl,⟨rfl,rfl,rfl⟩,⟨rfl,rfl,rfl⟩,rfl,rfl⟩:=ev;subst ev';obtain⟨V,hV⟩:∃V,V=w1.alloc (.cells #[.string sd,.string sp,.slice a3 ng c3,.slice a4 nr c4,.int .i64 r,.string ss] 71):=⟨_,rfl⟩;have hVs:V.heap.size=w1.heap.size+1:=by rw[hV];simp
 have HBV:Hid (Below w1.heap.size w1 V):=by show Below _ _ _;rw[hV];exact(Below.refl _ _).alloc (Nat.le_refl _) _
 rw[←hV]at hb2 ro3 ro4;have hvb:Blk w2 w1.heap.size [.string sd,.string sp,.slice a3 ng c3,.slice a4 nr c4,.int .i64 r,.string ss] 71:=by
  show _=_;rw[hb2.block w1.heap.size (by omega),hV];exact heap_alloc_new _ _
 have HVB:Hid (Blk w2 w1.heap.size [.string sd,.string sp,.slice a3 ng c3,.slice a4 nr c4,.int .i64 r,.string ss] 71):=hvb;have v0:=hvb.cell 0 _ rfl;have v1:=hvb.cell 1 _ rfl;have v2:=hvb.cell 2 _ rfl;have v3:=hvb.cell 3 _ rfl;have v4:=hvb.cell 4 _ rfl;have v5:=hvb.cell 5 _ rfl;have HNG:Hid (ng=lg.length):=hng;have HNR:Hid (nr=lr.length):=hnr;have HW12:Hid (Below w1.heap.size w1 w2):=HBV.out.trans (hb2.mono (by omega));have HG1:Hid (w2.ownsRow (w.heap.size+1) 3 1 (.slice a3 ng c3) ng (lg.map fun q=>.int .i64 q)):=by
  have:=ownsRow_later ro1 HW12.out;exact ownsRow_lower this (by simp)
 have HR1:Hid (w2.ownsRow (w.heap.size+1) 3 1 (.slice a4 nr c4) nr (lr.map fun q=>.int .i64 q)):=by
  have:=ownsRow_later ro2 HW12.out;exact ownsRow_lower this (by simp)
 have HG2:Hid (w2.ownsRow V.heap.size 3 1 (.slice b3' ng d3') ng (lg.map fun q=>.int .i64 q)):=ro3;have HR2:Hid (w2.ownsRow V.heap.size 3 1 (.slice b4' nr d4') nr (lr.map fun q=>.int .i64 q)):=ro4;have HAP:Hid (∀g,(Value.slice a3 ng c3).ownBlock=some g→(Value.slice a4 nr c4).ownBlock≠some g):=ap;have HBW:Hid (Below w.heap.size w w2):=((B1.out _).trans (HB1.out.mono (by simp))).trans (HW12.out.mono (by omega));have hw12:w1.heap.size<w2.heap.size:=by have:=hb2.size;omega
 clear hl2 hb2 ro1 ro2 ro3 ro4 HL1 hng hnr ap hvb hV hVs HBV hc1 hc2;have HRB:Hid (Blk (w2.alloc (.cells #[.string sd,.string sp,.slice b3' ng d3',.slice b4' nr d4',.int .i64 r,.string ss] 71)) w2.heap.size [.string sd,.string sp,.slice b3' ng d3',.slice b4' nr d4',.int .i64 r,.string ss] 71):=heap_alloc_new _ _;have hA:Below w2.heap.size w2 (w2.alloc (.cells #[.string sd,.string sp,.slice b3' ng d3',.slice b4' nr d4',.int .i64 r,.string ss] 71)):=(Below.refl _ _).alloc (Nat.le_refl _) _;have HAB:Hid (Below w2.heap.size w2 (w2.alloc (.cells #[.string sd,.string sp,.slice b3' ng d3',.slice b4' nr d4',.int .i64 r,.string ss] 71))):=hA;clear hA
 go_wp2_with fail
 refine(sameInts_any _ _ a3 b3' c3 d3' ng lg _ HNG.out (ownsRow_later HG1.out HAB.out) (ownsRow_later HG2.out HAB.out)).mono ?_;rintro e w3 ⟨rfl,q1,rfl⟩;obtain⟨W3,hW3⟩:∃W3,W3=(w2.alloc (.cells #[.string sd,.string sp,.slice b3' ng d3',.slice b4' nr d4',.int .i64 r,.string ss] 71)).drewN q1:=⟨_,rfl⟩;rw[←hW3];have h23:Below w2.heap.size w2 W3:=by rw[hW3];exact HAB.out.trans (below_drewN' _ _ _)
 have hrb:Blk W3 w1.heap.size [.string sd,.string sp,.slice a3 ng c3,.slice a4 nr c4,.int .i64 r,.string ss] 71:=by
  show _=_;rw[h23.block w1.heap.size hw12];exact HVB.out
 have hsb:Blk W3 w2.heap.size [.string sd,.string sp,.slice b3' ng d3',.slice b4' nr d4',.int .i64 r,.string ss] 71:=by
  show _=_;rw[hW3];exact HRB.out
 have HRB3:Hid (Blk W3 w1.heap.size [.string sd,.string sp,.slice a3 ng c3,.slice a4 nr c4,.int .i64 r,.string ss] 71):=hrb;have HSB3:Hid (Blk W3 w2.heap.size [.string sd,.string sp,.slice b3' ng d3',.slice b4' nr d4',.int .i64 r,.string ss] 71):=hsb;have x3:=hrb.cell 3 _ rfl;have y3:=hsb.cell 3 _ rfl;have G3:Hid (W3.ownsRow (w.heap.size+1) 3 1 (.slice a3 ng c3) ng (lg.map fun q=>.int .i64 q)):=ownsRow_later HG1.out h23;have R3:Hid (W3.ownsRow (w.heap.size+1) 3 1 (.slice a4 nr c4) nr (lr.map fun q=>.int .i64 q)):=ownsRow_later HR1.out h23;have R3':Hid (W3.ownsRow V.heap.size 3 1 (.slice b4' nr d4') nr (lr.map fun q=>.int .i64 q)):=ownsRow_later HR2.out h23;have BW3:Hid (Below w.heap.size w W3):=HBW.out.trans (h23.mono (by omega));clear hW3 h23 hrb hsb v0 v1 v2 v3 v4 v5 HVB HRB HAB HG1 HR1 HG2 HR2 HBW
 go_wp2_with fail
 refine(sameInts_any _ _ a4 b4' c4 d4' nr lr _ HNR.out R3.out R3'.out).mono ?_;rintro e w4 ⟨rfl,q2,rfl⟩;obtain⟨W4,hW4⟩:∃W4,W4=W3.drewN q2:=⟨_,rfl⟩;rw[←hW4];have h34:Below W3.heap.size W3 W4:=by rw[hW4];exact below_drewN' _ _ _
 have RB4:Hid (Blk W4 w1.heap.size [.string sd,.string sp,.slice a3 ng c3,.slice a4 nr c4,.int .i64 r,.string ss] 71):=by rw[hW4];exact HRB3.out
 have SB4:Hid (Blk W4 w2.heap.size [.string sd,.string sp,.slice b3' ng d3',.slice b4' nr d4',.int .i64 r,.string ss] 71):=by rw[hW4];exact HSB3.out
 have G4:Hid (W4.ownsRow (w.heap.size+1) 3 1 (.slice a3 ng c3) ng (lg.map fun q=>.int .i64 q)):=ownsRow_later G3.out h34;have R4:Hid (W4.ownsRow (w.heap.size+1) 3 1 (.slice a4 nr c4) nr (lr.map fun q=>.int .i64 q)):=ownsRow_later R3.out h34;have BW4:Hid (Below w.heap.size w W4):=BW3.out.trans (h34.mono (by have:=BW3.out.size;omega));have K4:Hid (BB W4 bk gs ga gc fs aa ca):=HK.out.below BW4.out;have u2:=RB4.out.cell 2 _ rfl;clear hW4 h34 x3 y3 HRB3 HSB3 G3 R3 R3' BW3
 go_wp2_with fail
 refine(bookTake_any bk (w.heap.size+1) ng c3 a3 (lg.map fun q=>.int .i64 q) gs ga gc fs aa ca W4 K4.out (by omega) G4.out (by omega) (apart_of HK.out (Nat.le_refl _) (fun g hg=>by have:=(G4.out.lt g hg).1;omega))).mono ?_;rintro e w5 ⟨rfl,⟨ga',gc',hk5⟩,hb5,hkeep,hfr⟩;have ne:∀{W:World} {k B e size n:Nat} {l xs:List Value} {ty:Nat} {v:Value},Blk W k l ty→W.ownsRow B e size v n xs→ty≠e→some k≠v.ownBlock:=fun hB hR hne e'=>row_ne hR hB (fun h=>hne h.symm) e'.symm
 have rb5:Blk w5 w1.heap.size [.string sd,.string sp,.slice a3 ng c3,.slice a4 nr c4,.int .i64 r,.string ss] 71:=by
  show _=_;rw[hfr w1.heap.size RB4.out.lt (by omega) (ne RB4.out G4.out (by decide)) (ne RB4.out K4.out.irow (by decide))];exact RB4.out
 have sb5:Blk w5 w2.heap.size [.string sd,.string sp,.slice b3' ng d3',.slice b4' nr d4',.int .i64 r,.string ss] 71:=by
  show _=_;rw[hfr w2.heap.size SB4.out.lt (by omega) (ne SB4.out G4.out (by decide)) (ne SB4.out K4.out.irow (by decide))];exact SB4.out
 have hra:(Value.slice a4 nr c4).ownBlock=none∨(Value.slice a4 nr c4).ownBlock≠(Value.slice a3 ng c3).ownBlock:=by
  cases h:(Value.slice a4 nr c4).ownBlock with
  | none=>exact .inl rfl
  | some g=>exact .inr (fun e'=>HAP.out g e'.symm h)
 have R5:Hid (w5.ownsRow (bk+1) 3 1 (.slice a4 nr c4) nr (lr.map fun q=>.int .i64 q)):=hkeep _ _ _ (ownsRow_lower R4.out (by omega)) hra;have K5:Hid (BB w5 bk (gs++[(a3,c3)]) ga' gc' fs aa ca):=hk5;have RB5:Hid (Blk w5 w1.heap.size [.string sd,.string sp,.slice a3 ng c3,.slice a4 nr c4,.int .i64 r,.string ss] 71):=rb5;have SB5:Hid (Blk w5 w2.heap.size [.string sd,.string sp,.slice b3' ng d3',.slice b4' nr d4',.int .i64 r,.string ss] 71):=sb5;have BW5:Hid (Below bk w w5):=(BW4.out.mono (by omega)).trans hb5;have AP5:Hid (Apart (gs++[(a3,c3)]) (.slice a4 nr c4)):=fun f hf=>by
  rw[List.mem_append,List.mem_singleton]at hf;rcases hf with hf|rfl
  ·exact apart_of HK.out (Nat.le_refl _) (fun g hg=>by have:=(R4.out.lt g hg).1;omega) f hf
  ·have e0:(Value.slice (a3,c3).1 (a3,c3).2 (a3,c3).2).ownBlock=(Value.slice a3 ng c3).ownBlock:=by cases a3<;>rfl
   rw[e0];exact hra
 have u3:=rb5.cell 3 _ rfl;clear hk5 hb5 hkeep hfr rb5 sb5 hra RB4 SB4 G4 R4 BW4 K4 u2 ne
 go_wp2_with fail
 refine(bookTake_any bk (bk+1) nr c4 a4 (lr.map fun q=>.int .i64 q) (gs++[(a3,c3)]) ga' gc' fs aa ca w5 K5.out (by simp;omega) R5.out (by omega) AP5.out).mono ?_;rintro e w6 ⟨rfl,⟨ga2,gc2,hk6⟩,hb6,_,hfr⟩;have ne:∀{W:World} {k B e size n:Nat} {l xs:List Value} {ty:Nat} {v:Value},Blk W k l ty→W.ownsRow B e size v n xs→ty≠e→some k≠v.ownBlock:=fun hB hR hne e'=>row_ne hR hB (fun h=>hne h.symm) e'.symm
 have rb6:Blk w6 w1.heap.size [.string sd,.string sp,.slice a3 ng c3,.slice a4 nr c4,.int .i64 r,.string ss] 71:=by
  show _=_;rw[hfr w1.heap.size RB5.out.lt (by omega) (ne RB5.out R5.out (by decide)) (ne RB5.out K5.out.irow (by decide))];exact RB5.out
 have sb6:Blk w6 w2.heap.size [.string sd,.string sp,.slice b3' ng d3',.slice b4' nr d4',.int .i64 r,.string ss] 71:=by
  show _=_;rw[hfr w2.heap.size SB5.out.lt (by omega) (ne SB5.out R5.out (by decide)) (ne SB5.out K5.out.irow (by decide))];exact SB5.out
 have K6:Hid (∃gs' ga' gc',BB w6 bk gs' ga' gc' fs aa ca∧gs'.length=gs.length+2):=⟨_,ga2,gc2,hk6,by simp⟩;have BW6:Hid (Below bk w w6):=BW5.out.trans hb6;have x0:=rb6.cell 0 _ rfl;have x1:=rb6.cell 1 _ rfl;have x4:=rb6.cell 4 _ rfl;have x5:=rb6.cell 5 _ rfl;have y0:=sb6.cell 0 _ rfl;have y1:=sb6.cell 1 _ rfl;have y4:=sb6.cell 4 _ rfl;have y5:=sb6.cell 5 _ rfl;clear hk6 hb6 hfr rb6 sb6 ne RB5 SB5 R5 K5 BW5 AP5 u3
 go_wp2_with fail
 refine(num_any a _).mono ?_;rintro e w7 ⟨rfl,hw7⟩;rw[hw7];clear hw7;go_wp2;go_ret;exact⟨rfl,K6.out,BW6.out⟩
set_option maxHeartbeats 1600000 in
set_option maxRecDepth 100000 in
theorem plays_run(bk:Nat)(s t:ByteArray)(la:Option Addr)(ln lc:Nat)(gs:List (Option Addr×Nat))(ga:Option Addr)(gc:Nat)(fs:List (Option Addr×Nat))(aa:Option Addr)(ca:Nat)(w:World)(hs:s.size≤maxLen)(ht:t.size≤maxLen)(h:BB w bk gs ga gc fs aa ca)(hb:(gs.length+2)*24≤140737488355328) :
  Calls Tryz.prog 5 #[.pointer (some ⟨bk,0,none⟩),.agg #[.int .i64 4,.string s,.string t,.slice la ln lc]] w fun e w'=>e=.returned (.bool true)∧(∃gs' ga' gc',BB w' bk gs' ga' gc' fs aa ca∧gs'.length=gs.length+2)∧Below bk w w':=by
 have B1:Hid (∀o,Below w.heap.size w (w.alloc o)):=fun o=>(Below.refl _ _).alloc (Nat.le_refl _) o
 have HK:Hid (BB w bk gs ga gc fs aa ca):=h;have hlt:=h.lt;clear h
 go_enter Tryz.func5,Tryz.ntmps5
 go_wp2_with fail
 refine(bookRun_any bk s t la ln lc gs ga gc fs aa ca _ hs ht (HK.out.below (B1.out _)) hb).mono ?_;rintro e w1 ⟨rfl,hk1,hb1⟩;have HK1:Hid (∃gs' ga' gc',BB w1 bk gs' ga' gc' fs aa ca∧gs'.length=gs.length+2):=hk1;have HB1:Hid (Below bk w w1):=((B1.out _).mono (by omega)).trans hb1;clear hk1 hb1;go_wp2;go_ret;exact⟨rfl,HK1.out,HB1.out⟩
end Go.Proofs.YtdgkpkdinfklaabGreat
