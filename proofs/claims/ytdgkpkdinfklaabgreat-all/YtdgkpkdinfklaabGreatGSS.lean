import Derived.Test.YtdgkpkdinfklaabGreatGSR
import Derived.Test.YtdgkpkdinfklaabGreatGU
import Derived.Deep.RegionHeld
namespace Go.Proofs.YtdgkpkdinfklaabGreat
open Go.RowKit
theorem Blk.rangeOff{w:World}{k:Nat}{a b:Value}{l:List Value}{ty:Nat}(h:Blk w k (a::b::l) ty):w.rangeAt k 2 l:=fun j v hv=>h.cell (2+j) v (by rw[Nat.add_comm];simpa using hv)
set_option maxHeartbeats 1600000 in
set_option maxRecDepth 100000 in
theorem fairS_any{w:World}{B sb:Nat}{vs vp:Value}{O:List Value}{S:List SP}{V:List Value}{P:List (Nat×Nat)}{E:Nat→Nat→Bool}(h:SM w B sb vs vp O S V P)(hO:OV E O)(hin:InvS S P)(hl:S.length≤1000)(r:Bool)(hr:r=true↔FairX E S (lkS S)) :
  Calls Tryz.prog 128 #[.pointer (some ⟨sb,0,none⟩)] w fun e w'=>e=.returned (.bool r)∧Below w.heap.size w w':=by
 have HM:Hid (SM w B sb vs vp O S V P):=h;have HI:Hid (InvS S P):=hin;have HR:Hid (r=true↔FairX E S (lkS S)):=hr;have HE:Hid (OV E O):=hO;obtain⟨N,hN⟩:∃N,N=S.length:=⟨_,rfl⟩;have HN:Hid (N=S.length):=hN;obtain⟨ap,cp,hvp⟩:=row_slice h.sp;rw[←hN]at hvp hl;subst hvp;have hsb:=h.blk.lt;have hOl:O.length=25:=hO.1;have hO1:O.toArray.all (·.oneCell')=true:=hO.one;have c0w:=h.c0;clear h hin hN hO hr
 go_enter Tryz.func128,Tryz.ntmps128
 have HZ:Hid (Blk (w.alloc (.cells Z25.toArray 78)) w.heap.size Z25 78):=heap_alloc_new _ _;have HW1:Hid (Blk ((w.alloc (.cells Z25.toArray 78)).setCells w.heap.size 0 O) w.heap.size O 78):=by
  have:=setCells_blk O Z25 0 HZ.out (by rw[hOl];rfl);show Blk _ _ _ _;simpa[Z25,hOl]using this
 have HW2:Hid (Below w.heap.size w ((w.alloc (.cells Z25.toArray 78)).setCells w.heap.size 0 O)):=by
  have h1:Below w.heap.size w (w.alloc (.cells Z25.toArray 78)):=(Below.refl _ _).alloc (Nat.le_refl _) _;exact h1.trans ((setCells_chg _ w.heap.size O 0 _ (Chg.refl _ _)).below (by simp) (by simp))
 go_wp2_with (first
  | refine wpList_load_mid (by rfl) 78 (.tmp 10) (by rfl) sb 2 (by rfl) O _ HM.out.blk.rangeOff Tryz.underlying78 (by rfl) (by rw[hOl];exact Tryz.infoOrder) ?_
  | refine wpList_store_mid (by rfl) 78 (.tmp 3) (.tmp 11) (by rfl) w.heap.size 0 O.toArray (by rfl) (by rfl) (by have:=HZ.out.there;rw[show Z25.length=O.toArray.size by rw[List.size_toArray,hOl];rfl]at this;exact this) (by rw[List.size_toArray,hOl];exact Tryz.infoOrder) hO1 ?_)
 go_loopw [4] (fun iv wr=>∃(k:Nat) (l':List Value),k≤N∧iv=.int .i64 k∧OV (edX E S (lkS S) k) l'∧Blk wr w.heap.size l' 78∧Below w.heap.size w wr) (fun iv _=>N-(intOf iv).toNat)
 case atStart=>
  refine⟨0,O,Nat.zero_le _,rfl,HE.out.congr (fun a b _ _=>by simp[edX]),?_,?_⟩
  ·exact HW1.out
  ·exact HW2.out
 case round=>
  obtain⟨k,l1,hk,rfl,hov,hblk,hbe⟩:=hrel;have HOV:Hid (OV (edX E S (lkS S) k) l1):=hov;have HBK:Hid (Blk wr w.heap.size l1 78):=hblk;have HBE:Hid (Below w.heap.size w wr):=hbe;have HMr:Hid (SM wr B sb (.slice ap N cp) vp O S V P):=HM.out.below hbe;have c0:=HMr.out.c0;have hwl:=hblk.lt;clear hov hblk hbe
  by_cases hlt:k<N
  ·obtain⟨s,hs⟩:∃s,S[k]?=some s:=⟨S[k]'(by rw[←HN.out];exact hlt),List.getElem?_eq_getElem _⟩;obtain⟨g,c,v,hv,_,hcell⟩:=HMr.out.spot hs;rw[←HN.out]at hv;cases hv;have q7:=hcell 7 _ (by decide) rfl;have q8:=hcell 8 _ (by decide) rfl;have q9:=hcell 9 _ (by decide) rfl;have q10:=hcell 10 _ (by decide) rfl;have q11:=hcell 11 _ (by decide) rfl;have q13:=hcell 13 _ (by decide) rfl;have hk':(k:Int)<(N:Int):=by omega
   have HY:Hid (∀i j,edX E S (lkS S) (k+1) i j=addF (edX E S (lkS S) k) (hOfT s.acc) s.lock i j):=by
    intro i j;have e:lkS S k=s.lock:=by rw[lkS,hs]
    rw[addF,edX,edX,List.range_succ,List.any_append,Bool.or_assoc];simp[hs,e]
   clear hcell hs
   go_wp2_with fail
   go_region_with (
    go_at_call 52
    refine(ordAdd_any w.heap.size l1 (edX E S (lkS S) k) s.acc.h0 s.acc.h1 s.acc.h2 s.acc.h3 s.acc.h4 (hOfT s.acc) ⟨rfl,rfl,rfl,rfl,rfl⟩ s.lock _ (HBK.out.drewN _) HOV.out).mono ?_
    rintro e w1 ⟨rfl,⟨l',hov',hbk'⟩,hc'⟩)
   all_goals
    have HO1:Hid (OV (edX E S (lkS S) (k+1)) l'):=hov'.congr fun i k _ _=>HY.out i k
    have HK1:Hid (Blk w1 w.heap.size l' 78):=hbk';have HB1:Hid (Below w.heap.size w w1):=HBE.out.trans ((below_drewN' _ _ _).trans (hc'.below (by simp) (by simp;omega)));clear hov' hbk' hc' q7 q8 q9 q10 q11 q13 c0;go_wp2;exact⟨⟨k+1,l',by omega,by go_num,HO1.out,HK1.out,HB1.out⟩,by simp[intOf];omega⟩
  ·have hkn:k=N:=by omega
   subst hkn;have hl1:l1.length=25:=HOV.out.1;have hl1o:l1.toArray.all (·.oneCell')=true:=HOV.out.one
   go_wp2_with (refine wpList_load_mid (by rfl) 78 (.tmp 3) (by rfl) w.heap.size 0 (by rfl) l1 _ HBK.out.range Tryz.underlying78 (by rfl) (by rw[hl1];exact Tryz.infoOrder) ?_)
   refine(ways_any l1 _ _ HOV.out).mono ?_;rintro e w1 ⟨⟨l2,rfl,hov2⟩,hb1⟩;have HO2:Hid (OV (fwW (edX E S (lkS S) k) 5) l2):=hov2;have HB2:Hid (Below w.heap.size w w1):=HBE.out.trans (hb1.mono (by omega));have hl2:l2.length=25:=hov2.1;have hl2o:l2.toArray.all (·.oneCell')=true:=hov2.one;clear hov2 hb1;obtain⟨F,hF⟩:∃F,F=fwW (edX E S (lkS S) k) 5:=⟨_,rfl⟩;have HF:Hid (F=fwW (edX E S (lkS S) k) 5):=hF;clear hF;have HZ2:Hid (Blk (w1.alloc (.cells Z25.toArray 78)) w1.heap.size Z25 78):=heap_alloc_new _ _;have HV1:Hid (Blk ((w1.alloc (.cells Z25.toArray 78)).setCells w1.heap.size 0 l2) w1.heap.size l2 78):=by
    have:=setCells_blk l2 Z25 0 HZ2.out (by rw[hl2];rfl);show Blk _ _ _ _;simpa[Z25,hl2]using this
   have HV2:Hid (Below w.heap.size w ((w1.alloc (.cells Z25.toArray 78)).setCells w1.heap.size 0 l2)):=by
    have h0:=HB2.out.size;have h1:Below w.heap.size w1 (w1.alloc (.cells Z25.toArray 78)):=(Below.refl _ _).alloc (by omega) _;exact HB2.out.trans (h1.trans ((setCells_chg _ w1.heap.size l2 0 _ (Chg.refl _ _)).below (by simp;omega) (by simp;omega)))
   go_wp2_with (refine wpList_store_mid (by rfl) 78 (.tmp 5) (.tmp 40) (by rfl) w1.heap.size 0 l2.toArray (by rfl) (by rfl) (by have:=HZ2.out.there;rw[show Z25.length=l2.toArray.size by rw[List.size_toArray,hl2];rfl]at this;exact this) (by rw[List.size_toArray,hl2];exact Tryz.infoOrder) hl2o ?_)
   go_loopw [6] (fun iv wr=>∃(j:Nat),j≤k∧iv=.int .i64 j∧(∀i,i<j→∀s,S[i]?=some s→¬(0≤s.lock∧s.lock<5∧∃t,t<5∧F s.lock.toNat t=true∧hOfT s.acc t=true))∧Blk wr w1.heap.size l2 78∧Below w.heap.size w wr) (fun iv _=>k-(intOf iv).toNat)
   case atStart=>
    refine⟨0,Nat.zero_le _,rfl,fun i hi=>by omega,?_,?_⟩
    ·exact HV1.out
    ·exact HV2.out
   case round=>
    obtain⟨j,hj,rfl,hno,hblk,hbe⟩:=hrel;have HNO:Hid (∀i,i<j→∀s,S[i]?=some s→¬(0≤s.lock∧s.lock<5∧∃t,t<5∧F s.lock.toNat t=true∧hOfT s.acc t=true)):=hno;have HBK2:Hid (Blk wr w1.heap.size l2 78):=hblk;have HBE2:Hid (Below w.heap.size w wr):=hbe;have HMr:Hid (SM wr B sb (.slice ap k cp) vp O S V P):=HM.out.below hbe;have c0:=HMr.out.c0;clear hno hblk hbe
    by_cases hlt:j<k
    ·obtain⟨s,hs⟩:∃s,S[j]?=some s:=⟨S[j]'(by rw[←HN.out];exact hlt),List.getElem?_eq_getElem _⟩;obtain⟨g,c,v,hv,_,hcell⟩:=HMr.out.spot hs;rw[←HN.out]at hv;cases hv;have q7:=hcell 7 _ (by decide) rfl;have q8:=hcell 8 _ (by decide) rfl;have q9:=hcell 9 _ (by decide) rfl;have q10:=hcell 10 _ (by decide) rfl;have q11:=hcell 11 _ (by decide) rfl;have q13:=hcell 13 _ (by decide) rfl;have hj':(j:Int)<(k:Int):=by omega
     have HS5:Hid (S[j]?=some s):=hs;clear hcell hs q7 q8 q9 q10 q11 q13;have HKEEP:Hid (∀W,Below wr.heap.size wr W→W.cell? ⟨sb,0,none⟩=some (.slice (some ⟨g,0,none⟩) k cp)∧W.cell? ⟨g,j*15+7,none⟩=some (.bool s.acc.h0)∧W.cell? ⟨g,j*15+8,none⟩=some (.bool s.acc.h1)∧W.cell? ⟨g,j*15+9,none⟩=some (.bool s.acc.h2)∧W.cell? ⟨g,j*15+10,none⟩=some (.bool s.acc.h3)∧W.cell? ⟨g,j*15+11,none⟩=some (.bool s.acc.h4)∧W.cell? ⟨g,j*15+13,none⟩=some (.int .i64 s.lock)):=by
      intro W hW;have hM:=HMr.out.below hW;obtain⟨g2,c2,v2,hv2,_,hcell⟩:=hM.spot HS5.out;rw[←HN.out]at hv2;cases hv2;exact⟨hM.c0,hcell 7 _ (by decide) rfl,hcell 8 _ (by decide) rfl,hcell 9 _ (by decide) rfl,hcell 10 _ (by decide) rfl,hcell 11 _ (by decide) rfl,hcell 13 _ (by decide) rfl⟩
     have HRG:Hid (∀W,Below wr.heap.size wr W→W.rangeAt w1.heap.size 0 l2):=fun W hW=>(HBK2.out.chg (chg_of_below hW []) (by simp)).range
     have HOL:Hid (OV F l2):=by
      have:=HO2.out;rw[←HF.out]at this;exact this
     obtain⟨rr,hrr⟩:∃rr:Bool,rr=true↔0≤s.lock∧s.lock<5∧∃t,t<5∧F s.lock.toNat t=true∧hOfT s.acc t=true:=by
      by_cases hx:0≤s.lock∧s.lock<5∧∃t,t<5∧F s.lock.toNat t=true∧hOfT s.acc t=true
      ·exact⟨true,fun _=>hx,fun _=>rfl⟩
      ·exact⟨false,fun h=>(by cases h),fun h=>absurd h hx⟩
     have HRR:Hid (rr=true↔0≤s.lock∧s.lock<5∧∃t,t<5∧F s.lock.toNat t=true∧hOfT s.acc t=true):=hrr;have hwr:w.heap.size≤wr.heap.size:=HBE2.out.size;clear hrr
     go_wp2_with fail
     refine wp_region_held_drew (S:=fun W=>Below wr.heap.size wr W) (by kernel_rfl) (below_drewN' _ _ 1) (fun hH=>?_);refine wpAnyH_take (i:=0) (oi:={ dst:=some 50,op:=Op.load 78 (Operand.tmp 5),type:=78,pos := "search.go:169",after:=#[],guard:=none }) (v:=.agg l2.toArray) rfl (by kernel_rfl) (by kernel_rfl) (by kernel_rfl) (fun _ _ _ h=>h) (yieldsIf_load_mid (by rfl) 78 (.tmp 5) rfl w1.heap.size 0 rfl l2 _ (fun W hW=>HRG.out W hW) Tryz.underlying78 rfl (by rw[hl2];exact Tryz.infoOrder)) hH ?_;simp only[Act.put,List.setIfInBounds_toArray,List.set_cons_zero,List.set_cons_succ];refine wpAnyH_take (i:=1) (oi:={ dst:=some 51,op:=Op.move (Operand.tmp 0),type:=167,pos := "search.go:169",after:=#[],guard:=none }) (v:=?_) rfl (by kernel_rfl) (by kernel_rfl) (by kernel_rfl) (fun _ _ _ h=>h) (Or.inl ⟨by rfl,?_⟩) hH ?_
     rotate_left
     ·intro W hW
      go_simp
      (try with_reducible rfl)
     simp only[Act.put,List.setIfInBounds_toArray,List.set_cons_zero,List.set_cons_succ];refine wpAnyH_take (i:=2) (oi:={ dst:=some 52,op:=Op.nilCheck (Operand.tmp 51),type:=0,pos := "search.go:169",after:=#[{ on:=1,ground:=Ground.data }],guard:=none }) (v:=?_) rfl (by kernel_rfl) (by kernel_rfl) (by kernel_rfl) (fun _ _ _ h=>h) (Or.inl ⟨by rfl,?_⟩) hH ?_
     rotate_left
     ·intro W hW
      go_simp
      (try with_reducible rfl)
     simp only[Act.put,List.setIfInBounds_toArray,List.set_cons_zero,List.set_cons_succ];refine wpAnyH_take (i:=3) (oi:={ dst:=some 53,op:=Op.fieldAddr 145 (Operand.tmp 52) 0,type:=0,pos := "search.go:169",after:=#[{ on:=2,ground:=Ground.data }],guard:=none }) (v:=?_) rfl (by kernel_rfl) (by kernel_rfl) (by kernel_rfl) (fun _ _ _ h=>h) (Or.inl ⟨by rfl,?_⟩) hH ?_
     rotate_left
     ·intro W hW
      go_simp
      (try with_reducible rfl)
     simp only[Act.put,List.setIfInBounds_toArray,List.set_cons_zero,List.set_cons_succ];refine wpAnyH_take (i:=4) (oi:={ dst:=some 54,op:=Op.load 142 (Operand.tmp 53),type:=142,pos := "search.go:169",after:=#[{ on:=3,ground:=Ground.data }],guard:=none }) (v:=?_) rfl (by kernel_rfl) (by kernel_rfl) (by kernel_rfl) (fun _ _ _ h=>h) (Or.inl ⟨by rfl,?_⟩) hH ?_
     rotate_left
     ·intro W hW;obtain⟨c0,q7,q8,q9,q10,q11,q13⟩:=HKEEP.out W hW
      go_simp
      (try with_reducible rfl)
     simp only[Act.put,List.setIfInBounds_toArray,List.set_cons_zero,List.set_cons_succ];refine wpAnyH_take (i:=5) (oi:={ dst:=some 55,op:=Op.move (Operand.tmp 6),type:=3,pos := "search.go:169",after:=#[],guard:=none }) (v:=?_) rfl (by kernel_rfl) (by kernel_rfl) (by kernel_rfl) (fun _ _ _ h=>h) (Or.inl ⟨by rfl,?_⟩) hH ?_
     rotate_left
     ·intro W hW
      go_simp
      (try with_reducible rfl)
     simp only[Act.put,List.setIfInBounds_toArray,List.set_cons_zero,List.set_cons_succ];refine wpAnyH_take (i:=6) (oi:={ dst:=some 56,op:=Op.indexAddr 142 (Operand.tmp 54) (Operand.tmp 55),type:=0,pos := "search.go:169",after:=#[{ on:=4,ground:=Ground.data },{ on:=5,ground:=Ground.data }],guard:=none }) (v:=?_) rfl (by kernel_rfl) (by kernel_rfl) (by kernel_rfl) (fun _ _ _ h=>h) (Or.inl ⟨by rfl,?_⟩) hH ?_
     rotate_left
     ·intro W hW
      go_simp
      (try with_reducible rfl)
     simp only[Act.put,List.setIfInBounds_toArray,List.set_cons_zero,List.set_cons_succ];refine wpAnyH_take (i:=7) (oi:={ dst:=some 57,op:=Op.fieldAddr 164 (Operand.tmp 56) 2,type:=0,pos := "search.go:169",after:=#[{ on:=6,ground:=Ground.data }],guard:=none }) (v:=?_) rfl (by kernel_rfl) (by kernel_rfl) (by kernel_rfl) (fun _ _ _ h=>h) (Or.inl ⟨by rfl,?_⟩) hH ?_
     rotate_left
     ·intro W hW
      go_simp
      (try with_reducible rfl)
     simp only[Act.put,List.setIfInBounds_toArray,List.set_cons_zero,List.set_cons_succ];refine wpAnyH_take (i:=8) (oi:={ dst:=some 58,op:=Op.load 3 (Operand.tmp 57),type:=3,pos := "search.go:169",after:=#[{ on:=7,ground:=Ground.data }],guard:=none }) (v:=?_) rfl (by kernel_rfl) (by kernel_rfl) (by kernel_rfl) (fun _ _ _ h=>h) (Or.inl ⟨by rfl,?_⟩) hH ?_
     rotate_left
     ·intro W hW;obtain⟨c0,q7,q8,q9,q10,q11,q13⟩:=HKEEP.out W hW
      go_simp
      (try with_reducible rfl)
     simp only[Act.put,List.setIfInBounds_toArray,List.set_cons_zero,List.set_cons_succ];refine wpAnyH_take (i:=9) (oi:={ dst:=some 59,op:=Op.move (Operand.tmp 0),type:=167,pos := "search.go:169",after:=#[],guard:=none }) (v:=?_) rfl (by kernel_rfl) (by kernel_rfl) (by kernel_rfl) (fun _ _ _ h=>h) (Or.inl ⟨by rfl,?_⟩) hH ?_
     rotate_left
     ·intro W hW
      go_simp
      (try with_reducible rfl)
     simp only[Act.put,List.setIfInBounds_toArray,List.set_cons_zero,List.set_cons_succ];refine wpAnyH_take (i:=10) (oi:={ dst:=some 60,op:=Op.nilCheck (Operand.tmp 59),type:=0,pos := "search.go:169",after:=#[{ on:=9,ground:=Ground.data }],guard:=none }) (v:=?_) rfl (by kernel_rfl) (by kernel_rfl) (by kernel_rfl) (fun _ _ _ h=>h) (Or.inl ⟨by rfl,?_⟩) hH ?_
     rotate_left
     ·intro W hW
      go_simp
      (try with_reducible rfl)
     simp only[Act.put,List.setIfInBounds_toArray,List.set_cons_zero,List.set_cons_succ];refine wpAnyH_take (i:=11) (oi:={ dst:=some 61,op:=Op.fieldAddr 145 (Operand.tmp 60) 0,type:=0,pos := "search.go:169",after:=#[{ on:=10,ground:=Ground.data }],guard:=none }) (v:=?_) rfl (by kernel_rfl) (by kernel_rfl) (by kernel_rfl) (fun _ _ _ h=>h) (Or.inl ⟨by rfl,?_⟩) hH ?_
     rotate_left
     ·intro W hW
      go_simp
      (try with_reducible rfl)
     simp only[Act.put,List.setIfInBounds_toArray,List.set_cons_zero,List.set_cons_succ];refine wpAnyH_take (i:=12) (oi:={ dst:=some 62,op:=Op.load 142 (Operand.tmp 61),type:=142,pos := "search.go:169",after:=#[{ on:=11,ground:=Ground.data }],guard:=none }) (v:=?_) rfl (by kernel_rfl) (by kernel_rfl) (by kernel_rfl) (fun _ _ _ h=>h) (Or.inl ⟨by rfl,?_⟩) hH ?_
     rotate_left
     ·intro W hW;obtain⟨c0,q7,q8,q9,q10,q11,q13⟩:=HKEEP.out W hW
      go_simp
      (try with_reducible rfl)
     simp only[Act.put,List.setIfInBounds_toArray,List.set_cons_zero,List.set_cons_succ];refine wpAnyH_take (i:=13) (oi:={ dst:=some 63,op:=Op.move (Operand.tmp 6),type:=3,pos := "search.go:169",after:=#[],guard:=none }) (v:=?_) rfl (by kernel_rfl) (by kernel_rfl) (by kernel_rfl) (fun _ _ _ h=>h) (Or.inl ⟨by rfl,?_⟩) hH ?_
     rotate_left
     ·intro W hW
      go_simp
      (try with_reducible rfl)
     simp only[Act.put,List.setIfInBounds_toArray,List.set_cons_zero,List.set_cons_succ];refine wpAnyH_take (i:=14) (oi:={ dst:=some 64,op:=Op.indexAddr 142 (Operand.tmp 62) (Operand.tmp 63),type:=0,pos := "search.go:169",after:=#[{ on:=12,ground:=Ground.data },{ on:=13,ground:=Ground.data }],guard:=none }) (v:=?_) rfl (by kernel_rfl) (by kernel_rfl) (by kernel_rfl) (fun _ _ _ h=>h) (Or.inl ⟨by rfl,?_⟩) hH ?_
     rotate_left
     ·intro W hW
      go_simp
      (try with_reducible rfl)
     simp only[Act.put,List.setIfInBounds_toArray,List.set_cons_zero,List.set_cons_succ];refine wpAnyH_take (i:=15) (oi:={ dst:=some 65,op:=Op.fieldAddr 164 (Operand.tmp 64) 0,type:=0,pos := "search.go:169",after:=#[{ on:=14,ground:=Ground.data }],guard:=none }) (v:=?_) rfl (by kernel_rfl) (by kernel_rfl) (by kernel_rfl) (fun _ _ _ h=>h) (Or.inl ⟨by rfl,?_⟩) hH ?_
     rotate_left
     ·intro W hW
      go_simp
      (try with_reducible rfl)
     simp only[Act.put,List.setIfInBounds_toArray,List.set_cons_zero,List.set_cons_succ];refine wpAnyH_take (i:=16) (oi:={ dst:=some 66,op:=Op.fieldAddr 88 (Operand.tmp 65) 7,type:=0,pos := "search.go:169",after:=#[{ on:=15,ground:=Ground.data }],guard:=none }) (v:=?_) rfl (by kernel_rfl) (by kernel_rfl) (by kernel_rfl) (fun _ _ _ h=>h) (Or.inl ⟨by rfl,?_⟩) hH ?_
     rotate_left
     ·intro W hW
      go_simp
      (try with_reducible rfl)
     simp only[Act.put,List.setIfInBounds_toArray,List.set_cons_zero,List.set_cons_succ];refine wpAnyH_take (i:=17) (oi:={ dst:=some 67,op:=Op.load 76 (Operand.tmp 66),type:=76,pos := "search.go:169",after:=#[{ on:=16,ground:=Ground.data }],guard:=none }) (v:=?_) rfl (by kernel_rfl) (by kernel_rfl) (by kernel_rfl) (fun _ _ _ h=>h) (Or.inl ⟨by rfl,?_⟩) hH ?_
     rotate_left
     ·intro W hW;obtain⟨c0,q7,q8,q9,q10,q11,q13⟩:=HKEEP.out W hW
      go_simp
      (try with_reducible rfl)
     simp only[Act.put,List.setIfInBounds_toArray,List.set_cons_zero,List.set_cons_succ];refine wpAnyH_ready (rs:=[18]) (by kernel_rfl) (by simp) ?_;refine AllReadyH.cons rfl (fun K hK=>?_) AllReadyH.nil
     go_simp
     go_wp2_with fail
     refine(leads_any l2 F s.acc.h0 s.acc.h1 s.acc.h2 s.acc.h3 s.acc.h4 (hOfT s.acc) ⟨rfl,rfl,rfl,rfl,rfl⟩ s.lock _ HOL.out rr HRR.out).mono ?_;rintro e w4 ⟨rfl,hb4⟩;have hbL:Below wr.heap.size wr w4:=(below_drewN' _ _ 1).trans hb4
     go_wp2_with fail
     refine hK.out _ _ hbL (fun hH4=>?_);clear hK K;refine wpAnyH_ready (rs:=[19]) (by kernel_rfl) (by simp) ?_;refine AllReadyH.cons rfl (fun K hK=>?_) AllReadyH.nil
     go_simp
     refine hK.out _ _ hbL (fun hH5=>?_);clear hK K;refine wpAnyH_done (by kernel_rfl) ?_ _
     all_goals
      have HB5:Hid (Below w.heap.size w w4):=HBE2.out.trans (hbL.mono hwr);have HK5:Hid (Blk w4 w1.heap.size l2 78):=HBK2.out.chg (chg_of_below hbL []) (by simp);clear hb4 hbL HKEEP;cases rr with
      | true=>
       have HF2:Hid (r=false):=by
        cases h:r with
        | false=>rfl
        | true=>
         exfalso
         obtain⟨x0,x5,t,ht,hft,hht⟩:=HRR.out.1 rfl;have hfair:=HR.out.1 h;have e:lkS S j=s.lock:=by rw[lkS,HS5.out]
         rw[HF.out]at hft;have hway:=(fwW_way (N:=5) (by omega) ht).1 hft;rw[HN.out]at hway;exact hfair j s HS5.out (by rw[e];exact x0) t ht hht (by rw[e];exact hway)
       go_wp2;go_ret;rw[HF2.out];exact⟨rfl,HB5.out⟩
      | false=>
       have HNX:Hid (∀i,i<j+1→∀s,S[i]?=some s→¬(0≤s.lock∧s.lock<5∧∃t,t<5∧F s.lock.toNat t=true∧hOfT s.acc t=true)):=by
        intro i hi s' hs' hx
        by_cases e:i=j
        ·subst e;rw[HS5.out]at hs';cases hs';have:=HRR.out.2 hx;cases this
        ·exact HNO.out i (by omega) s' hs' hx
       go_wp2;exact⟨⟨j+1,by omega,by go_num,HNX.out,HK5.out,HB5.out⟩,by simp[intOf];omega⟩
    ·have HT:Hid (r=true):=by
      refine HR.out.2 ?_;intro i s hs h0 t ht hh hw;have hil:=(List.getElem?_eq_some_iff.1 hs).1;have e:lkS S i=s.lock:=by rw[lkS,hs]
      rw[e]at h0 hw;have h5:s.lock<5:=by have:=(HI.out.rng i).2;rw[e]at this;exact this
      refine HNO.out i (by rw[←HN.out]at hil;omega) s hs ⟨h0,h5,t,ht,?_,hh⟩;rw[HF.out];refine(fwW_way (by omega) ht).2 ?_;rw[HN.out];exact hw
     go_wp2;go_ret;rw[HT.out];exact⟨rfl,HBE2.out⟩
set_option maxHeartbeats 1600000 in
set_option maxRecDepth 100000 in
theorem sound_any{w:World}{B sb:Nat}{vs vp:Value}{O:List Value}{S:List SP}{V:List Value}{P:List (Nat×Nat)}{E:Nat→Nat→Bool}(h:SM w B sb vs vp O S V P)(hO:OV E O)(hin:InvS S P)(hl:S.length≤1000)(hlp:P.length≤1000000) :
  Calls Tryz.prog 122 #[.pointer (some ⟨sb,0,none⟩)] w fun e w'=>(∃r,e=.returned (.bool r)∧(r=true↔LostNo S P∧FairX E S (lkS S)))∧Below w.heap.size w w':=by
 have HM:Hid (SM w B sb vs vp O S V P):=h;have HI:Hid (InvS S P):=hin;have HE:Hid (OV E O):=hO;have hsb:=h.blk.lt;clear h hin hO
 go_enter Tryz.func122,Tryz.ntmps122
 go_wp2_with fail
 refine(lost_any HM.out HI.out hlp).mono ?_;rintro e w1 ⟨⟨r,rfl,hr⟩,hb1⟩;have HR:Hid (r=true↔∃p∈P,stS S p.1=true∧stS S p.2=true∧opS S p=true):=hr;have HB:Hid (Below w.heap.size w w1):=hb1;clear hr hb1;cases r with
 | true=>
  have HN:Hid (¬LostNo S P):=fun h=>by
   obtain⟨p,hp,h1,h2,h3⟩:=HR.out.1 rfl;have:=h p hp h1 h2;rw[h3]at this;cases this
  go_wp2;go_ret;exact⟨⟨false,rfl,⟨fun h=>(by cases h),fun h=>absurd h.1 HN.out⟩⟩,HB.out⟩
 | false=>
  have HL:Hid (LostNo S P):=fun p hp h1 h2=>by
   cases ho:opS S p with
   | false=>rfl
   | true=>
    have:=HR.out.2 ⟨p,hp,h1,h2,ho⟩;cases this
  obtain⟨q,hq⟩:∃q:Bool,q=true↔FairX E S (lkS S):=by
   by_cases hx:FairX E S (lkS S)
   ·exact⟨true,fun _=>hx,fun _=>rfl⟩
   ·exact⟨false,fun h=>(by cases h),fun h=>absurd h hx⟩
  have HQ:Hid (q=true↔FairX E S (lkS S)):=hq;clear hq
  go_wp2_with fail
  refine(fairS_any (HM.out.below HB.out) HE.out HI.out hl q HQ.out).mono ?_;rintro e w2 ⟨rfl,hb2⟩;have HB2:Hid (Below w.heap.size w w2):=HB.out.trans (hb2.mono HB.out.size);clear hb2;go_wp2;go_ret;exact⟨⟨q,rfl,⟨fun h=>⟨HL.out,HQ.out.1 h⟩,fun h=>HQ.out.2 h.2⟩⟩,HB2.out⟩
def CloOut(E:Nat→Nat→Bool)(B sb:Nat)(vs vp:Value)(O:List Value)(S:List SP)(V:List Value)(P:List (Nat×Nat))(c:Int)(D:Option (List SP))(w:World)(e:Ending)(w':World):Prop:=
 w.grownBy w' vs.ownBlock∧((∃S',D=some S'∧e=.returned (.bool true)∧Found E S S' P c∧SM w' B sb vs vp O S' V P)∨(D=none∧e=.returned (.bool false)∧NoneAt E S P c∧SM w' B sb vs vp O S V P))
def CloWOut(E:Nat→Nat→Bool)(B sb:Nat)(vs vp:Value)(O:List Value)(S:List SP)(V:List Value)(P:List (Nat×Nat))(c:Int)(m:Nat)(l:Int)(D:Option (List SP))(w:World)(e:Ending)(w':World):Prop:=
 w.grownBy w' vs.ownBlock∧((∃S',D=some S'∧e=.returned (.bool true)∧Found E S S' P c∧SM w' B sb vs vp O S' V P)∨(D=none∧e=.returned (.bool false)∧NoneWith E S P c m l∧SM w' B sb vs vp O S V P))
def SdOk(E:Nat→Nat→Bool)(P:List (Nat×Nat))(sd:List SP→Bool):Prop:=∀S,sd S=true↔LostNo S P∧FairX E S (lkS S)
theorem cwF_few{rec:List SP→Int→Option (List SP)}{sd:List SP→Bool}{S:List SP}{m:Nat}{l c c1:Int}(h:c1=c-(if l≠-1 then(plS S m:Int)else 0))(hc:c1<0):cwF rec sd S m l c=none:=by rw[cwF,←h,if_pos hc]
theorem cwF_bad{rec:List SP→Int→Option (List SP)}{sd:List SP→Bool}{S:List SP}{m:Nat}{l c:Int}(hs:sd (setS S m l true)=false):cwF rec sd S m l c=none:=by
 rw[cwF,hs];simp
theorem cwF_rec{rec:List SP→Int→Option (List SP)}{sd:List SP→Bool}{S:List SP}{m:Nat}{l c c1:Int}(h:c1=c-(if l≠-1 then(plS S m:Int)else 0))(hc:¬c1<0)(hs:sd (setS S m l true)=true):cwF rec sd S m l c=rec (setS S m l true) c1:=by rw[cwF,←h,if_neg hc,if_pos hs]
theorem SM.settle{w:World}{B sb:Nat}{vs vp:Value}{O:List Value}{S:List SP}{V:List Value}{P:List (Nat×Nat)}(h:SM w B sb vs vp O S V P){g c m:Nat}{s:SP}(hv:vs=.slice (some ⟨g,0,none⟩) S.length c)(hs:S[m]?=some s)(l:Int)(b:Bool) :
  SM ((w.setCell ⟨g,m*15+13,none⟩ (.int .i64 l)).setCell ⟨g,m*15+14,none⟩ (.bool b)) B sb vs vp O (S.set m { s with lock:=l,set:=b }) V P∧w.grownBy ((w.setCell ⟨g,m*15+13,none⟩ (.int .i64 l)).setCell ⟨g,m*15+14,none⟩ (.bool b)) vs.ownBlock:=by
 have hm:=(List.getElem?_eq_some_iff.1 hs).1;obtain⟨h1,g1⟩:=h.store hv hs 13 (.int .i64 l) (t:={ s with lock:=l }) (by decide) (fun v=>rfl) rfl;have hs1:(S.set m { s with lock:=l })[m]?=some { s with lock:=l }:=by rw[List.getElem?_set,if_pos rfl,if_pos hm]
 obtain⟨h2,g2⟩:=h1.store (by rw[List.length_set];exact hv) hs1 14 (.bool b) (t:={ s with lock:=l,set:=b }) (by decide) (fun v=>rfl) rfl;rw[List.set_set]at h2;exact⟨h2,grown_trans g1 g2⟩
theorem SM.two{w:World}{B sb:Nat}{vs vp:Value}{O:List Value}{S:List SP}{V:List Value}{P:List (Nat×Nat)}(h:SM w B sb vs vp O S V P){g n c i:Nat}{s:SP}(hv:vs=.slice (some ⟨g,0,none⟩) n c)(hs:S[i]?=some s) :
  w.cell? ⟨sb,0,none⟩=some (.slice (some ⟨g,0,none⟩) n c)∧w.cell? ⟨g,i*15+13,none⟩=some (.int .i64 s.lock)∧w.cell? ⟨g,i*15+14,none⟩=some (.bool s.set)∧w.frozen? ⟨g,i*15+13,none⟩=false∧w.frozen? ⟨g,i*15+14,none⟩=false:=by
 obtain⟨g2,c2,v2,hv2,_,hcell⟩:=h.spot hs;have e:g2=g:=by
  rw[hv2]at hv;simp only[Value.slice.injEq,Option.some.injEq,Addr.mk.injEq,and_true]at hv;exact hv.1
 subst e;have c0:=h.c0;exact⟨by rw[←hv];exact c0,hcell 13 _ (by decide) rfl,hcell 14 _ (by decide) rfl,h.fz hv2 _,h.fz hv2 _⟩
set_option maxHeartbeats 1600000 in
set_option maxRecDepth 100000 in
theorem closesWith_any{B sb:Nat}{vs vp:Value}{O:List Value}{V:List Value}{P:List (Nat×Nat)}{E:Nat→Nat→Bool}{sd:List SP→Bool}(M:Nat)(hsd:SdOk E P sd)(hO:OV E O)(hlp:P.length≤1000000)(S:List SP)(m:Nat)(l c:Int)(w:World)
  (ih:∀(S1:List SP) (c1:Int) (w1:World),unS S1<unS S→SM w1 B sb vs vp O S1 V P→InvS S1 P→LostNo S1 P→FairX E S1 (lkS S1)→S1.length≤1000→(∀i,plS S1 i≤1000)→0≤c1→c1≤100000→Calls Tryz.prog 77 #[.pointer (some ⟨sb,0,none⟩),.int .i64 c1] w1 fun e w'=>CloOut E B sb vs vp O S1 V P c1 (cloF sd P M S1 c1) w1 e w')
  (h:SM w B sb vs vp O S V P)(hin:InvS S P)(hl:S.length≤1000)(hpl:∀i,plS S i≤1000)(hm:m<S.length)(hu:stS S m=false)(hl0:-1≤l)(hl5:l<5)(hc0:0≤c)(hc1:c≤100000) :
  Calls Tryz.prog 101 #[.pointer (some ⟨sb,0,none⟩),.int .i64 (m:Int),.int .i64 l,.int .i64 c] w fun e w'=>CloWOut E B sb vs vp O S V P c m l (cwF (cloF sd P M) sd S m l c) w e w':=by
 have HM:Hid (SM w B sb vs vp O S V P):=h;have HI:Hid (InvS S P):=hin;have HE:Hid (OV E O):=hO;have HSD:Hid (SdOk E P sd):=hsd;have HIH:Hid (∀(S1:List SP) (c1:Int) (w1:World),unS S1<unS S→SM w1 B sb vs vp O S1 V P→InvS S1 P→LostNo S1 P→FairX E S1 (lkS S1)→S1.length≤1000→(∀i,plS S1 i≤1000)→0≤c1→c1≤100000→Calls Tryz.prog 77 #[.pointer (some ⟨sb,0,none⟩),.int .i64 c1] w1 fun e w'=>CloOut E B sb vs vp O S1 V P c1 (cloF sd P M S1 c1) w1 e w'):=ih;have HU:Hid (stS S m=false):=hu;have HPL:Hid (∀i,plS S i≤1000):=hpl;obtain⟨s,hs⟩:∃s,S[m]?=some s:=⟨_,List.getElem?_eq_getElem hm⟩;obtain⟨g,cp,v,hv,hvi,hcell⟩:=h.spot hs;have c0:=h.c0;obtain⟨av,cv,hvv⟩:=h.pv m s v hs hvi;have q12:=hcell 12 v (by decide) rfl;rw[hvv]at q12;have q13:=hcell 13 _ (by decide) rfl;have q14:=hcell 14 _ (by decide) rfl;have f13:=h.fz hv (m*15+13);have f14:=h.fz hv (m*15+14);have HVS:Hid (vs=.slice (some ⟨g,0,none⟩) S.length cp):=hv;have HPn:Hid (plS S m=s.pls.length):=by show _=_;rw[plS,hs]
 have hpn:s.pls.length≤1000:=by rw[←HPn.out];exact hpl m
 obtain⟨pn,hpn'⟩:∃pn,pn=s.pls.length:=⟨_,rfl⟩;rw[←hpn']at q12 hpn HPn;have HS:Hid (S[m]?=some s):=hs;obtain⟨n,hn⟩:∃n,n=S.length:=⟨_,rfl⟩;have HN:Hid (n=S.length):=hn;rw[hv]at c0;rw[←hn]at c0 hm hl;have hsb:=h.blk.lt;have HG:Hid (sb≠g):=fun e=>by
  have:=row_ne h.sp h.blk (by decide);rw[hv]at this;exact this (by rw[e];rfl)
 clear h hin hO ih hu hpl hcell hvi hv hs hn hpn' hvv hsd;have hm':(m:Int)<(n:Int):=by omega
 have hmd:decide ((n:Int)≤(m:Int))=false:=by simp;omega
 obtain⟨c1,hc1e⟩:∃c1:Int,c1=c-(if l≠-1 then(pn:Int)else 0):=⟨_,rfl⟩;have HCE:Hid (c1=c-(if l≠-1 then(plS S m:Int)else 0)):=by show c1=_;rw[HPn.out];exact hc1e
 by_cases hl1:l=-1
 ·subst hl1;rw[if_neg (by simp)]at hc1e;have hce:c1=c:=by omega
  have bn:decide (c<0)=false:=by simpa using hc0
  go_enter Tryz.func101,Tryz.ntmps101
  go_wp2_with fail
  have ST:=HM.out.settle HVS.out HS.out (-1) true;generalize (w.setCell ⟨g,m*15+13,none⟩ (.int .i64 (-1))).setCell ⟨g,m*15+14,none⟩ (.bool true)=W1 at ST ⊢;have HM1:Hid (SM W1 B sb vs vp O (setS S m (-1) true) V P):=by show SM _ _ _ _ _ _ _ _ _;rw[setS_some HS.out];exact ST.1
  have HG1:Hid (w.grownBy W1 vs.ownBlock):=ST.2;have HI1:Hid (InvS (setS S m (-1) true) P):=HI.out.set (by rw[←HN.out];exact hm) hl0 hl5;have HS1:Hid ((setS S m (-1) true)[m]?=some { s with lock:=-1,set:=true }):=by
   show _=_;rw[setS_some HS.out,List.getElem?_set,if_pos rfl,if_pos (by rw[←HN.out];exact hm)]
  have HVN:Hid (vs=.slice (some ⟨g,0,none⟩) n cp):=by show _=_;rw[HN.out];exact HVS.out
  have HBK:Hid (∀W,SM W B sb vs vp O (setS S m (-1) true) V P→SM ((W.setCell ⟨g,m*15+13,none⟩ (.int .i64 (-1))).setCell ⟨g,m*15+14,none⟩ (.bool false)) B sb vs vp O S V P∧W.grownBy ((W.setCell ⟨g,m*15+13,none⟩ (.int .i64 (-1))).setCell ⟨g,m*15+14,none⟩ (.bool false)) vs.ownBlock):=by
   intro W hW;have:=hW.settle (by rw[setS_len,←HN.out];exact HVN.out) HS1.out (-1) false;rw[setS_back HI.out HS.out HU.out (-1) true]at this;exact this
  clear ST c0 q12 q13 q14 f13 f14;refine(sound_any HM1.out HE.out HI1.out (by rw[setS_len,←HN.out];exact hl) hlp).mono ?_;rintro e w2 ⟨⟨r,rfl,hr⟩,hb2⟩;have HR:Hid (r=true↔LostNo (setS S m (-1) true) P∧FairX E (setS S m (-1) true) (lkS (setS S m (-1) true))):=hr;have HM2:Hid (SM w2 B sb vs vp O (setS S m (-1) true) V P):=HM1.out.below hb2;have HG2:Hid (w.grownBy w2 vs.ownBlock):=grown_trans HG1.out (grown_below hb2);clear hr hb2;cases r with
  | false=>
   obtain⟨c0,q13,q14,f13,f14⟩:=HM2.out.two HVN.out HS1.out
   have HDD:Hid (cwF (cloF sd P M) sd S m (-1) c=none):=cwF_bad (by
    cases hx:sd (setS S m (-1) true)with
    | false=>rfl
    | true=>have:=HR.out.2 ((HSD.out _).1 hx);cases this)
   have HF:Hid (NoneWith E S P c m (-1)):=by
    have hmS:m<S.length:=by rw[←HN.out];exact hm
    by_cases hlo:LostNo (setS S m (-1) true) P
    ·refine NoneWith.unfair HI.out hmS hl0 hl5 (fun hf=>?_);have:=HR.out.2 ⟨hlo,hf⟩;cases this
    ·refine NoneWith.lost hmS (Classical.byContradiction fun hno=>hlo fun p hp h1 h2=>?_);cases ho:opS (setS S m (-1) true) p with
     | false=>rfl
     | true=>exact absurd ⟨p,hp,h1,h2,ho⟩ hno
   have HX:=HBK.out w2 HM2.out;have HX2:Hid (SM ((w2.setCell ⟨g,m*15+13,none⟩ (.int .i64 (-1))).setCell ⟨g,m*15+14,none⟩ (.bool false)) B sb vs vp O S V P∧w2.grownBy ((w2.setCell ⟨g,m*15+13,none⟩ (.int .i64 (-1))).setCell ⟨g,m*15+14,none⟩ (.bool false)) vs.ownBlock):=HX;clear HX;go_wp2;go_ret;exact⟨grown_trans HG2.out HX2.out.2,.inr ⟨HDD.out,rfl,HF.out,HX2.out.1⟩⟩
  | true=>
   have HLF:=HR.out.1 rfl;have HL2:Hid (LostNo (setS S m (-1) true) P):=HLF.1;have HF2:Hid (FairX E (setS S m (-1) true) (lkS (setS S m (-1) true))):=HLF.2;have HSS:Hid (sd (setS S m (-1) true)=true):=(HSD.out _).2 HLF;clear HLF
   go_wp2_with fail
   refine(HIH.out (setS S m (-1) true) _ w2 (by have:=unS_set (show m<S.length by rw[←HN.out];exact hm) HU.out (-1);omega) HM2.out HI1.out HL2.out HF2.out (by rw[setS_len,←HN.out];exact hl) (fun i=>by rw[plS_bs (setS_bs S m (-1) true)];exact HPL.out i) (by omega) (by omega)).mono ?_;rintro e w3 ⟨hg3,hcase⟩;have HG3:Hid (w.grownBy w3 vs.ownBlock):=grown_trans HG2.out hg3;clear hg3;rcases hcase with⟨S',hD,rfl,hfo,hsm⟩|⟨hD,rfl,hno,hsm⟩
   ·have HDD:Hid (cwF (cloF sd P M) sd S m (-1) c=some S'):=(cwF_rec HCE.out (by omega) HSS.out).trans (by rw[hce];exact hD);have HFo:Hid (Found E S S' P c):=Found.deep (by rw[←HN.out];exact hm) HU.out (l:=-1) (by rw[←HCE.out,hce];exact hfo);have HSM:Hid (SM w3 B sb vs vp O S' V P):=hsm;clear hfo hsm hD;go_wp2;go_ret;exact⟨HG3.out,.inl ⟨S',HDD.out,rfl,HFo.out,HSM.out⟩⟩
   ·have HDD:Hid (cwF (cloF sd P M) sd S m (-1) c=none):=(cwF_rec HCE.out (by omega) HSS.out).trans (by rw[hce];exact hD);have HNo:Hid (NoneWith E S P c m (-1)):=NoneWith.deep (by rw[←HN.out];exact hm) HU.out (by rw[←HCE.out,hce];exact hno);have HSM:Hid (SM w3 B sb vs vp O (setS S m (-1) true) V P):=hsm;obtain⟨c0,q13,q14,f13,f14⟩:=hsm.two HVN.out HS1.out;have HX:=HBK.out w3 hsm;have HX2:Hid (SM ((w3.setCell ⟨g,m*15+13,none⟩ (.int .i64 (-1))).setCell ⟨g,m*15+14,none⟩ (.bool false)) B sb vs vp O S V P∧w3.grownBy ((w3.setCell ⟨g,m*15+13,none⟩ (.int .i64 (-1))).setCell ⟨g,m*15+14,none⟩ (.bool false)) vs.ownBlock):=HX;clear HX hno hsm hD;go_wp2;go_ret;exact⟨grown_trans HG3.out HX2.out.2,.inr ⟨HDD.out,rfl,HNo.out,HX2.out.1⟩⟩
 ·have bl:(l != -1)=true:=by simpa using hl1
  rw[if_pos hl1]at hc1e
  by_cases hneg:c-(pn:Int)<0
  ·have bn:decide (c-(pn:Int)<0)=true:=by simpa using hneg
   have HF:Hid (NoneWith E S P c m l):=NoneWith.few (by rw[←HCE.out];omega) (by rw[←HN.out];exact hm) HU.out
   go_enter Tryz.func101,Tryz.ntmps101
   go_wp2;go_ret;exact⟨grown_below (Below.refl _ _),.inr ⟨cwF_few HCE.out (by omega),rfl,HF.out,HM.out⟩⟩
  ·have bn:decide (c-(pn:Int)<0)=false:=by simpa using hneg
   have hce:c1=c-(pn:Int):=hc1e
   go_enter Tryz.func101,Tryz.ntmps101
   go_wp2_with fail
   have ST:=HM.out.settle HVS.out HS.out l true;generalize (w.setCell ⟨g,m*15+13,none⟩ (.int .i64 l)).setCell ⟨g,m*15+14,none⟩ (.bool true)=W1 at ST ⊢;have HM1:Hid (SM W1 B sb vs vp O (setS S m l true) V P):=by show SM _ _ _ _ _ _ _ _ _;rw[setS_some HS.out];exact ST.1
   have HG1:Hid (w.grownBy W1 vs.ownBlock):=ST.2;have HI1:Hid (InvS (setS S m l true) P):=HI.out.set (by rw[←HN.out];exact hm) hl0 hl5;have HS1:Hid ((setS S m l true)[m]?=some { s with lock:=l,set:=true }):=by
    show _=_;rw[setS_some HS.out,List.getElem?_set,if_pos rfl,if_pos (by rw[←HN.out];exact hm)]
   have HVN:Hid (vs=.slice (some ⟨g,0,none⟩) n cp):=by show _=_;rw[HN.out];exact HVS.out
   have HBK:Hid (∀W,SM W B sb vs vp O (setS S m l true) V P→SM ((W.setCell ⟨g,m*15+13,none⟩ (.int .i64 (-1))).setCell ⟨g,m*15+14,none⟩ (.bool false)) B sb vs vp O S V P∧W.grownBy ((W.setCell ⟨g,m*15+13,none⟩ (.int .i64 (-1))).setCell ⟨g,m*15+14,none⟩ (.bool false)) vs.ownBlock):=by
    intro W hW;have:=hW.settle (by rw[setS_len,←HN.out];exact HVN.out) HS1.out (-1) false;rw[setS_back HI.out HS.out HU.out l true]at this;exact this
   clear ST c0 q12 q13 q14 f13 f14;refine(sound_any HM1.out HE.out HI1.out (by rw[setS_len,←HN.out];exact hl) hlp).mono ?_;rintro e w2 ⟨⟨r,rfl,hr⟩,hb2⟩;have HR:Hid (r=true↔LostNo (setS S m l true) P∧FairX E (setS S m l true) (lkS (setS S m l true))):=hr;have HM2:Hid (SM w2 B sb vs vp O (setS S m l true) V P):=HM1.out.below hb2;have HG2:Hid (w.grownBy w2 vs.ownBlock):=grown_trans HG1.out (grown_below hb2);clear hr hb2;cases r with
   | false=>
    obtain⟨c0,q13,q14,f13,f14⟩:=HM2.out.two HVN.out HS1.out
    have HDD:Hid (cwF (cloF sd P M) sd S m l c=none):=cwF_bad (by
     cases hx:sd (setS S m l true)with
     | false=>rfl
     | true=>have:=HR.out.2 ((HSD.out _).1 hx);cases this)
    have HF:Hid (NoneWith E S P c m l):=by
     have hmS:m<S.length:=by rw[←HN.out];exact hm
     by_cases hlo:LostNo (setS S m l true) P
     ·refine NoneWith.unfair HI.out hmS hl0 hl5 (fun hf=>?_);have:=HR.out.2 ⟨hlo,hf⟩;cases this
     ·refine NoneWith.lost hmS (Classical.byContradiction fun hno=>hlo fun p hp h1 h2=>?_);cases ho:opS (setS S m l true) p with
      | false=>rfl
      | true=>exact absurd ⟨p,hp,h1,h2,ho⟩ hno
    have HX:=HBK.out w2 HM2.out;have HX2:Hid (SM ((w2.setCell ⟨g,m*15+13,none⟩ (.int .i64 (-1))).setCell ⟨g,m*15+14,none⟩ (.bool false)) B sb vs vp O S V P∧w2.grownBy ((w2.setCell ⟨g,m*15+13,none⟩ (.int .i64 (-1))).setCell ⟨g,m*15+14,none⟩ (.bool false)) vs.ownBlock):=HX;clear HX;go_wp2;go_ret;exact⟨grown_trans HG2.out HX2.out.2,.inr ⟨HDD.out,rfl,HF.out,HX2.out.1⟩⟩
   | true=>
    have HLF:=HR.out.1 rfl;have HL2:Hid (LostNo (setS S m l true) P):=HLF.1;have HF2:Hid (FairX E (setS S m l true) (lkS (setS S m l true))):=HLF.2;have HSS:Hid (sd (setS S m l true)=true):=(HSD.out _).2 HLF;clear HLF
    go_wp2_with fail
    refine(HIH.out (setS S m l true) _ w2 (by have:=unS_set (show m<S.length by rw[←HN.out];exact hm) HU.out l;omega) HM2.out HI1.out HL2.out HF2.out (by rw[setS_len,←HN.out];exact hl) (fun i=>by rw[plS_bs (setS_bs S m l true)];exact HPL.out i) (by omega) (by omega)).mono ?_;rintro e w3 ⟨hg3,hcase⟩;have HG3:Hid (w.grownBy w3 vs.ownBlock):=grown_trans HG2.out hg3;clear hg3;rcases hcase with⟨S',hD,rfl,hfo,hsm⟩|⟨hD,rfl,hno,hsm⟩
    ·have HDD:Hid (cwF (cloF sd P M) sd S m l c=some S'):=(cwF_rec HCE.out (by omega) HSS.out).trans (by rw[hce];exact hD);have HFo:Hid (Found E S S' P c):=Found.deep (by rw[←HN.out];exact hm) HU.out (l:=l) (by rw[←HCE.out,hce];exact hfo);have HSM:Hid (SM w3 B sb vs vp O S' V P):=hsm;clear hfo hsm hD;go_wp2;go_ret;exact⟨HG3.out,.inl ⟨S',HDD.out,rfl,HFo.out,HSM.out⟩⟩
    ·have HDD:Hid (cwF (cloF sd P M) sd S m l c=none):=(cwF_rec HCE.out (by omega) HSS.out).trans (by rw[hce];exact hD);have HNo:Hid (NoneWith E S P c m l):=NoneWith.deep (by rw[←HN.out];exact hm) HU.out (by rw[←HCE.out,hce];exact hno);have HSM:Hid (SM w3 B sb vs vp O (setS S m l true) V P):=hsm;obtain⟨c0,q13,q14,f13,f14⟩:=hsm.two HVN.out HS1.out;have HX:=HBK.out w3 hsm;have HX2:Hid (SM ((w3.setCell ⟨g,m*15+13,none⟩ (.int .i64 (-1))).setCell ⟨g,m*15+14,none⟩ (.bool false)) B sb vs vp O S V P∧w3.grownBy ((w3.setCell ⟨g,m*15+13,none⟩ (.int .i64 (-1))).setCell ⟨g,m*15+14,none⟩ (.bool false)) vs.ownBlock):=HX;clear HX hno hsm hD;go_wp2;go_ret;exact⟨grown_trans HG3.out HX2.out.2,.inr ⟨HDD.out,rfl,HNo.out,HX2.out.1⟩⟩
set_option maxHeartbeats 1600000 in
set_option maxRecDepth 100000 in
theorem closes_any{B sb:Nat}{vs vp:Value}{O:List Value}{V:List Value}{P:List (Nat×Nat)}{E:Nat→Nat→Bool}{sd:List SP→Bool}(hsd:SdOk E P sd)(hO:OV E O)(hlp:P.length≤1000000) :
  ∀(M:Nat) (S:List SP) (c:Int) (w:World),unS S<M→SM w B sb vs vp O S V P→InvS S P→LostNo S P→FairX E S (lkS S)→S.length≤1000→(∀i,plS S i≤1000)→0≤c→c≤100000 →
   Calls Tryz.prog 77 #[.pointer (some ⟨sb,0,none⟩),.int .i64 c] w fun e w'=>CloOut E B sb vs vp O S V P c (cloF sd P M S c) w e w':=by
 intro M
 induction M with
 | zero=>intro S c w hM;omega
 | succ M ih=>
  intro S c w hM h hin hlo hfa hl hpl hc0 hc1
  have HIH:Hid (∀(S:List SP) (c:Int) (w:World),unS S<M→SM w B sb vs vp O S V P→InvS S P→LostNo S P→FairX E S (lkS S)→S.length≤1000→(∀i,plS S i≤1000)→0≤c→c≤100000 →
   Calls Tryz.prog 77 #[.pointer (some ⟨sb,0,none⟩),.int .i64 c] w fun e w'=>CloOut E B sb vs vp O S V P c (cloF sd P M S c) w e w'):=ih
  have HM:Hid (SM w B sb vs vp O S V P):=h;have HI:Hid (InvS S P):=hin;have HLO:Hid (LostNo S P):=hlo;have HFA:Hid (FairX E S (lkS S)):=hfa;have HPL:Hid (∀i,plS S i≤1000):=hpl;have HE:Hid (OV E O):=hO;have HCW:Hid (∀(m:Nat) (l:Int) (W:World),SM W B sb vs vp O S V P→m<S.length→stS S m=false→-1≤l→l<5→Calls Tryz.prog 101 #[.pointer (some ⟨sb,0,none⟩),.int .i64 (m:Int),.int .i64 l,.int .i64 c] W fun e w'=>CloWOut E B sb vs vp O S V P c m l (cwF (cloF sd P M) sd S m l c) W e w'):=
   fun m l W hW hm hu h0 h5=>closesWith_any M hsd hO hlp S m l c W (fun S1 c1 w1 hun=>ih S1 c1 w1 (by omega)) hW hin hl hpl hm hu h0 h5 hc0 hc1
  clear ih h hin hlo hfa hpl hO hsd
  go_enter Tryz.func77,Tryz.ntmps77
  go_wp2_with fail
  refine(nextS_any HM.out HI.out hlp).mono ?_;rintro e w1 ⟨⟨r,rfl,hnx,hcase⟩,hb1⟩;have HM1:Hid (SM w1 B sb vs vp O S V P):=HM.out.below hb1;have HG1:Hid (w.grownBy w1 vs.ownBlock):=grown_below hb1;clear hb1;rcases hcase with⟨rfl,hall⟩|⟨n,rfl,hn,hu⟩
  ·have HF:Hid (Found E S S P c):=Found.here HI.out HFA.out (fun p hp=>by
    cases ho:opS S p with
    | false=>rfl
    | true=>
     obtain⟨h1,h2⟩:=hall p hp ho;have:=HLO.out p hp h1 h2
     rw[ho]at this;exact this) hc0
   have HDD:Hid (cloF sd P (M+1) S c=some S):=cloF_here hnx;clear hall hnx;go_wp2;go_ret;exact⟨HG1.out,.inl ⟨S,HDD.out,rfl,HF.out,HM1.out⟩⟩
  ·have HU:Hid (stS S n=false):=hu;have bn:((n:Int)==-1)=false:=by simp
   have HDT:Hid (cloF sd P (M+1) S c=fstF (fun l=>cwF (cloF sd P M) sd S n l c) [0,1,2,3,4,-1]):=cloF_try hnx;clear hu hnx;go_wp2
   go_loopw [6] (fun iv wr=>∃(k:Nat),k≤5∧iv=.int .i64 k∧(∀l:Int,0≤l→l<k→NoneWith E S P c n l∧cwF (cloF sd P M) sd S n l c=none)∧SM wr B sb vs vp O S V P∧w.grownBy wr vs.ownBlock) (fun iv _=>5-(intOf iv).toNat)
   case atStart=>exact⟨0,by omega,rfl,fun l h0 h1=>by omega,HM1.out,HG1.out⟩
   case round=>
    obtain⟨k,hk,rfl,hno,hsm,hgr⟩:=hrel;have HNO:Hid (∀l:Int,0≤l→l<k→NoneWith E S P c n l∧cwF (cloF sd P M) sd S n l c=none):=hno;have HSM:Hid (SM wr B sb vs vp O S V P):=hsm;have HGR:Hid (w.grownBy wr vs.ownBlock):=hgr;clear hno hsm hgr
    by_cases hk5:k<5
    ·have hkd:decide ((k:Int)<5)=true:=by simp;omega
     go_wp2_with fail
     refine(HCW.out n (k:Int) wr HSM.out hn HU.out (by omega) (by omega)).mono ?_;rintro e w2 ⟨hg2,hc2⟩;have HG2:Hid (w.grownBy w2 vs.ownBlock):=grown_trans HGR.out hg2;clear hg2;rcases hc2 with⟨S',hD,rfl,hfo,hsm2⟩|⟨hD,rfl,hno2,hsm2⟩
     ·have HDD:Hid (cloF sd P (M+1) S c=some S'):=HDT.out.trans (fstF_hit hk5 (fun l h0 h1=>(HNO.out l h0 h1).2) hD);have HFo:Hid (Found E S S' P c):=hfo;have HS2:Hid (SM w2 B sb vs vp O S' V P):=hsm2;clear hfo hsm2 hD;go_wp2;go_ret;exact⟨HG2.out,.inl ⟨S',HDD.out,rfl,HFo.out,HS2.out⟩⟩
     ·have HN2:Hid (∀l:Int,0≤l→l<((k+1:Nat):Int)→NoneWith E S P c n l∧cwF (cloF sd P M) sd S n l c=none):=by
       intro l h0 h1
       by_cases e:l=(k:Int)
       ·rw[e];exact⟨hno2,hD⟩
       ·exact HNO.out l h0 (by omega)
      have HS2:Hid (SM w2 B sb vs vp O S V P):=hsm2;clear hno2 hsm2 hD;go_wp2;exact⟨⟨k+1,by omega,by go_num,HN2.out,HS2.out,HG2.out⟩,by simp[intOf];omega⟩
    ·have hk':k=5:=by omega
     subst hk'
     go_wp2_with fail
     refine(HCW.out n (-1) wr HSM.out hn HU.out (by omega) (by omega)).mono ?_;rintro e w2 ⟨hg2,hc2⟩;have HG2:Hid (w.grownBy w2 vs.ownBlock):=grown_trans HGR.out hg2;clear hg2;rcases hc2 with⟨S',hD,rfl,hfo,hsm2⟩|⟨hD,rfl,hno2,hsm2⟩
     ·have HDD:Hid (cloF sd P (M+1) S c=some S'):=HDT.out.trans ((fstF_last (fun l h0 h1=>(HNO.out l h0 h1).2)).trans hD);have HFo:Hid (Found E S S' P c):=hfo;have HS2:Hid (SM w2 B sb vs vp O S' V P):=hsm2;clear hfo hsm2 hD;go_wp2;go_ret;exact⟨HG2.out,.inl ⟨S',HDD.out,rfl,HFo.out,HS2.out⟩⟩
     ·have HDD:Hid (cloF sd P (M+1) S c=none):=HDT.out.trans ((fstF_last (fun l h0 h1=>(HNO.out l h0 h1).2)).trans hD);have HN2:Hid (NoneAt E S P c):=NoneAt.all (m:=n) fun l h0 h5=>by
       by_cases e:l=-1
       ·rw[e];exact hno2
       ·exact(HNO.out l (by omega) (by simpa using h5)).1
      have HS2:Hid (SM w2 B sb vs vp O S V P):=hsm2;clear hno2 hsm2 hD;go_wp2;go_ret;exact⟨HG2.out,.inr ⟨HDD.out,rfl,HN2.out,HS2.out⟩⟩
end Go.Proofs.YtdgkpkdinfklaabGreat
